/- Texts, maps from texts to places in memory. -/
import Derived.Test.YtilcongilokppadHa
import Derived.Test.YtilcongilokppadPa
import Derived.Maps.OwnOps
import Derived.Maps.OwnSet
import Derived.StringKeys
namespace Go.Proofs.Ytilcongilokppad
set_option linter.unusedVariables false
set_option linter.unusedSimpArgs false
open Go.RowKit Go.Maps Go.WideMaps

/-- Blocks below B are asn they were. -/
def Old (B : Nat) (w w' : World) : Prop := ∀ k, k < B → w'.heap[k]? = w.heap[k]?

theorem Old.refl (B : Nat) (w : World) : Old B w w := fun _ _ => rfl
theorem Old.trans {B : Nat} {a b c : World} (h : Old B a b) (h' : Old B b c) : Old B a c := fun k hk => (h' k hk).trans (h k hk)
theorem Old.mono {B B' : Nat} {a b : World} (h : Old B a b) (hb : B' ≤ B) : Old B' a b := fun k hk => h k (Nat.lt_of_lt_of_le hk hb)
theorem Old.cell {B : Nat} {w w' : World} (h : Old B w w') {b : Nat} (hb : b < B) (q : Nat) : w'.cell? ⟨b, q, none⟩ = w.cell? ⟨b, q, none⟩ := World.cell?_of_block (h b hb)

/-- Texts l lie behind a, in a block below B. -/
def Strs (B : Nat) (w : World) (a : Option Addr) (l : List ByteArray) : Prop :=
  l.length ≤ 9223372036854775807 ∧ (∀ s ∈ l, s.size ≤ maxLen) ∧ (l = [] ∨ ∃ b o, a = some ⟨b, o, none⟩ ∧ b < B ∧ ∀ (i : Nat) (s : ByteArray), l[i]? = some s → w.cell? ⟨b, o + i, none⟩ = some (.string s))

theorem Strs.nil (B : Nat) (w : World) (a : Option Addr) : Strs B w a [] := ⟨by simp, by simp, Or.inl rfl⟩
theorem Strs.stay {B B' : Nat} {w w' : World} {a : Option Addr} {l : List ByteArray} (h : Strs B w a l) (hw : Old B w w') (hB : B ≤ B') : Strs B' w' a l := by
  obtain ⟨h1, h2, h⟩ := h
  refine ⟨h1, h2, ?_⟩
  rcases h with h | ⟨b, o, ha, hb, h⟩
  · exact Or.inl h
  · exact Or.inr ⟨b, o, ha, Nat.lt_of_lt_of_le hb hB, fun i s hs => (hw.cell hb _).trans (h i s hs)⟩

theorem Strs.at {B : Nat} {w : World} {a : Option Addr} {l : List ByteArray} (h : Strs B w a l) {j : Nat} (hj : j < l.length) :
    ∃ b o s, a = some ⟨b, o, none⟩ ∧ b < B ∧ l[j]? = some s ∧ w.cell? ⟨b, o + j, none⟩ = some (.string s) ∧ s.size ≤ maxLen := by
  obtain ⟨_, h2, h⟩ := h
  rcases h with h | ⟨b, o, ha, hb, h⟩
  · subst h; simp at hj
  · exact ⟨b, o, l[j], ha, hb, List.getElem?_eq_getElem hj, h j _ (List.getElem?_eq_getElem hj), h2 _ (List.getElem_mem hj)⟩

theorem lawS : Keyed Try.prog 9 := string_keyed Try.underlying9
theorem zeroI (w : World) : (zeroValue 3).run Try.prog w = .ok (.int .i64 0) w := by kernel_rfl

/-- Block b is a map of at most n entries, from texts to places: g. -/
def MapIs (b n : Nat) (g : ByteArray → Option Nat) (w : World) : Prop :=
  ∃ D : DataW Unit, w.ownsMap Try.prog 9 (plainElem Try.prog 3) b n D ∧ Maps.IsMap D ∧
    ∀ s : ByteArray, Maps.has D (.string s.data.toList) = (g s).isSome ∧ D.atKey (.string s.data.toList) (.lit (.int .i64 0)) = .lit (.int .i64 (((g s).getD 0 : Nat) : Int))

theorem MapIs.made (w : World) : MapIs w.heap.size 0 (fun _ => none) (w.alloc (.map #[] 0)) :=
  ⟨.map [], World.ownsMap_made _ _ _ _, Maps.isMap_empty, fun s => ⟨rfl, rfl⟩⟩
theorem MapIs.lt {b n : Nat} {g : ByteArray → Option Nat} {w : World} (h : MapIs b n g w) : b < w.heap.size := by
  obtain ⟨D, h, _⟩ := h
  exact h.lt
theorem MapIs.kept {b n : Nat} {g : ByteArray → Option Nat} {w w' : World} (h : MapIs b n g w) (hw : w'.heap[b]? = w.heap[b]?) : MapIs b n g w' := by
  obtain ⟨D, ⟨es, clock, hb, F, hs, hD⟩, h2, h3⟩ := h
  exact ⟨D, ⟨es, clock, hw.trans hb, F, hs, hD⟩, h2, h3⟩
theorem MapIs.below {b n : Nat} {g : ByteArray → Option Nat} {w w' : World} (h : MapIs b n g w) (hw : Below w.heap.size w w') : MapIs b n g w' := h.kept (hw.block b h.lt)
theorem MapIs.congr {b n : Nat} {g g' : ByteArray → Option Nat} {w : World} (h : MapIs b n g w) (e : ∀ s, g' s = g s) : MapIs b n g' w := by
  obtain rfl : g' = g := funext e
  exact h
theorem MapIs.mono {b n n' : Nat} {g : ByteArray → Option Nat} {w : World} (h : MapIs b n g w) (hn : n ≤ n') : MapIs b n' g w := by
  obtain ⟨D, h1, h2⟩ := h
  exact ⟨D, h1.mono hn, h2⟩

section
variable {ops : Array Oper} {rest : List Oper} {o : Oper} {a : Act} {Q : Exit → Act → World → Prop} {w : World} {b n : Nat} {g : ByteArray → Option Nat}

/-- 'v, ok := m[k]', the key being there. -/
theorem wpList_look_yes (hg : o.guard = none) (m x : Operand) (hop : o.op = Op.lookup 30 m x true) (hm : a.eval m = .map (some b)) (h : MapIs b n g w) (s : ByteArray) (hx : a.eval x = .string s) (hs : s.size ≤ maxLen) (i : Nat) (hi : g s = some i)
    (hK : wpList Try.prog ops Q rest (a.put o.dst (.tuple #[.int .i64 (i : Int), .bool true])) w) : wpList Try.prog ops Q (o :: rest) a w := by
  obtain ⟨D, h1, h2, h3⟩ := h
  obtain ⟨e1, e2⟩ := h3 s
  rw [hi] at e1 e2
  refine wpList_lookup_own_ok_int w hg m x 30 hop 9 3 .i64 lawS Try.underlying30 Try.underlying3 (zeroI w) b n D hm h1 _ _ hx (keyOf_string_mk Try.underlying9 hs) ?_
  intro c hat _
  rw [e2] at hat
  have hc : c = (i : Int) := by simpa using hat.symm
  rw [e1, hc]
  exact hK
theorem wpList_look_no (hg : o.guard = none) (m x : Operand) (hop : o.op = Op.lookup 30 m x true) (hm : a.eval m = .map (some b)) (h : MapIs b n g w) (s : ByteArray) (hx : a.eval x = .string s) (hs : s.size ≤ maxLen) (hi : g s = none)
    (hK : wpList Try.prog ops Q rest (a.put o.dst (.tuple #[.int .i64 0, .bool false])) w) : wpList Try.prog ops Q (o :: rest) a w := by
  obtain ⟨D, h1, h2, h3⟩ := h
  obtain ⟨e1, e2⟩ := h3 s
  rw [hi] at e1 e2
  refine wpList_lookup_own_ok_int w hg m x 30 hop 9 3 .i64 lawS Try.underlying30 Try.underlying3 (zeroI w) b n D hm h1 _ _ hx (keyOf_string_mk Try.underlying9 hs) ?_
  intro c hat _
  rw [e2] at hat
  have hc : c = 0 := by simpa using hat.symm
  rw [e1, hc]
  exact hK
/-- 'm[k]'. -/
theorem wpList_look_at (hg : o.guard = none) (m x : Operand) (hop : o.op = Op.lookup 30 m x false) (hm : a.eval m = .map (some b)) (h : MapIs b n g w) (s : ByteArray) (hx : a.eval x = .string s) (hs : s.size ≤ maxLen) (i : Nat) (hi : g s = some i)
    (hK : wpList Try.prog ops Q rest (a.put o.dst (.int .i64 (i : Int))) w) : wpList Try.prog ops Q (o :: rest) a w := by
  obtain ⟨D, h1, h2, h3⟩ := h
  obtain ⟨e1, e2⟩ := h3 s
  rw [hi] at e1 e2
  refine wpList_lookup_own_int w hg m x 30 hop 9 3 .i64 lawS Try.underlying30 Try.underlying3 (zeroI w) b n D hm h1 _ _ hx (keyOf_string_mk Try.underlying9 hs) ?_
  intro c hat _
  rw [e2] at hat
  have hc : c = (i : Int) := by simpa using hat.symm
  rw [hc]
  exact hK
/-- 'm[k] = i'. -/
theorem wpList_mark (hg : o.guard = none) (m x v : Operand) (hop : o.op = Op.mapUpdate 30 m x v) (hm : a.eval m = .map (some b)) (h : MapIs b n g w) (hn : n < maxLen) (s : ByteArray) (hx : a.eval x = .string s) (hs : s.size ≤ maxLen) (i : Nat) (hv : a.eval v = .int .i64 (i : Int)) (hi : i ≤ 9223372036854775807)
    (hK : ∀ w', MapIs b (n + 1) (fun t => if t = s then some i else g t) w' → w.grownBy w' (some b) → wpList Try.prog ops Q rest (a.put o.dst undef) w') : wpList Try.prog ops Q (o :: rest) a w := by
  obtain ⟨D, h1, h2, h3⟩ := h
  have hkey := keyOf_string_mk (P := Try.prog) Try.underlying9 hs
  refine wpList_mapUpdate_own w hg m x v 30 hop 9 3 lawS Try.underlying30 _ b n D hm h1 hn _ _ _ hx hv hkey _ [] (plainElem_int Try.underlying3 (WalkArith.wf_i64 (by omega))) ?_
  intro w' hown hgr
  refine hK w' ⟨_, hown, h2.put _ _, fun t => ?_⟩ hgr
  have hkl : WideAt.IsKeyLit (.string s.data.toList) := lawS.key hkey
  by_cases e : t = s
  · subst e
    rw [has_put_same h2 hkl, atKey_put_same h2 hkl]
    simp
  · have hne : (Lit.string t.data.toList) ≠ .string s.data.toList := fun h => e (ba_eq (by simpa using h))
    rw [has_put_other hne, atKey_put_other hne, (h3 t).1, (h3 t).2]
    simp [e]
end


/-! ### Rows of texts of one's own. -/
def RowS (B : Nat) (v : Value) (l : List ByteArray) (w : World) : Prop := w.ownsRow B 9 1 v l.length (l.map Value.string)
theorem RowS.nil (B : Nat) (w : World) : RowS B (.slice none 0 0) [] w := World.ownsRow_nil _ _ _ _
theorem RowS.kept {B : Nat} {v : Value} {l : List ByteArray} {w w' : World} (h : RowS B v l w) (hk : ∀ k, v.ownBlock = some k → w'.heap[k]? = w.heap[k]?) : RowS B v l w' := by
  obtain ⟨h1, h⟩ := h
  refine ⟨h1, ?_⟩
  rcases h with h | ⟨g, cap, cur, rfl, hb, hg, rest⟩
  · exact Or.inl h
  · exact Or.inr ⟨g, cap, cur, rfl, hb, (hk g rfl).trans hg, rest⟩
theorem RowS.lt {B : Nat} {v : Value} {l : List ByteArray} {w : World} (h : RowS B v l w) {k : Nat} (hk : v.ownBlock = some k) : B ≤ k ∧ k < w.heap.size := World.ownsRow.lt h k hk
theorem RowS.below {B : Nat} {v : Value} {l : List ByteArray} {w w' : World} (h : RowS B v l w) (hb : Below w.heap.size w w') : RowS B v l w' := h.kept fun k hk => hb.block k (h.lt hk).2
theorem RowS.lie {B : Nat} {v : Value} {l : List ByteArray} {w : World} (h : RowS B v l w) (hl : l.length ≤ 1048576) (hs : ∀ s ∈ l, s.size ≤ maxLen) : ∃ a cap, v = .slice a l.length cap ∧ Strs w.heap.size w a l := by
  rcases h.2 with ⟨rfl, h0⟩ | ⟨g, cap, cur, rfl, hbg, hg, hnc, hcm, hcs, htake⟩
  · have : l = [] := List.length_eq_zero_iff.1 h0
    subst this
    exact ⟨none, 0, rfl, Strs.nil _ _ _⟩
  · refine ⟨some ⟨g, 0, none⟩, cap, rfl, by omega, hs, Or.inr ⟨g, 0, rfl, (Array.getElem?_eq_some_iff.1 hg).1, ?_⟩⟩
    intro i s hi
    have := h.cells (g := g) rfl i (.string s) (by simp [List.getElem?_map, hi])
    rw [add_at] at this
    rw [Nat.zero_add]
    exact this
theorem infoStr : (Try.prog.info? 9).map (fun i => (i.zero, i.size, i.bytes)) = some (some (.string ⟨#[]⟩), 1, 16) := by kernel_rfl
/-- One text more. -/
theorem wpList_pushS {ops : Array Oper} {rest : List Oper} {o : Oper} {a : Act} {Q : Exit → Act → World → Prop} {w0 : World} (y : ByteArray) (ab : Nat) (hgd : o.guard = none) (s x : Operand)
    (ho : o.op = .call { callee := .builtin .append, args := #[s, x], argTypes := #[23, 23] }) (B : Nat) (v : Value) (l : List ByteArray) (hs : a.eval s = v) (hrow : RowS B v l w0)
    (hx : a.eval x = .slice (some ⟨ab, 0, none⟩) 1 1) (hab : ab = w0.heap.size) (hB : B ≤ w0.heap.size) (hlen : l.length ≤ 1048576)
    (h : ∀ g cap w', RowS B (.slice (some ⟨g, 0, none⟩) (l.length + 1) cap) (l ++ [y]) w' → w0.grownBy w' v.ownBlock → wpList Try.prog ops Q rest (a.put o.dst (.slice (some ⟨g, 0, none⟩) (l.length + 1) cap)) w') :
    wpList Try.prog ops Q (o :: rest) a (w0.alloc (.cells #[.string y] 9)) := by
  refine wpList_push (P := Try.prog) 9 _ 16 (.string y) ab hgd s x 23 ho Try.underlying23 infoStr rfl B v l.length (l.map Value.string) hs hrow hx hab rfl hB (by unfold maxLen; omega) (by omega) fun g cap w' h1 h2 h3 => h g cap w' ?_ h2
  unfold RowS
  simpa using h1
end Go.Proofs.Ytilcongilokppad
