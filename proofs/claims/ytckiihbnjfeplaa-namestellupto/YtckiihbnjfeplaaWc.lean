/- Package names: maps of places; what is wrong with exports. -/
import Derived.Test.YtckiihbnjfeplaaWb
import Derived.Maps.OwnOps
import Derived.Maps.OwnSet
import Derived.StringKeys
namespace Go.Proofs.Ytckiihbnjfeplaa
set_option linter.unusedVariables false
set_option linter.unusedSimpArgs false
open Go.RowKit Go.Maps Go.WideMaps

theorem lawS : Keyed Try.prog 9 := string_keyed Try.underlying9
theorem zeroI (w : World) : (zeroValue 3).run Try.prog w = .ok (.int .i64 0) w := by kernel_rfl

/-- Block b is a map of at most n entries, from texts to places: g. -/
def MapIs (b n : Nat) (g : ByteArray → Option Nat) (w : World) : Prop :=
  ∃ D : DataW Unit, w.ownsMap Try.prog 9 (plainElem Try.prog 3) b n D ∧ Maps.IsMap D ∧
    ∀ s : ByteArray, Maps.has D (.string s.data.toList) = (g s).isSome ∧ D.atKey (.string s.data.toList) (.lit (.int .i64 0)) = .lit (.int .i64 (((g s).getD 0 : Nat) : Int))

theorem MapIs.made (w : World) : MapIs w.heap.size 0 (fun _ => none) (w.alloc (.map #[] 0)) :=
  ⟨.map [], World.ownsMap_made _ _ _ _, Maps.isMap_empty, fun s => ⟨rfl, rfl⟩⟩
theorem MapIs.lt {b n : Nat} {g : ByteArray → Option Nat} {w : World} (h : MapIs b n g w) : b < w.heap.size := by
  obtain ⟨D, h, _⟩ := h
  exact h.lt
theorem MapIs.kept {b n : Nat} {g : ByteArray → Option Nat} {w w' : World} (h : MapIs b n g w) (hw : w'.heap[b]? = w.heap[b]?) : MapIs b n g w' := by
  obtain ⟨D, ⟨es, clock, hb, F, hs, hD⟩, h2, h3⟩ := h
  exact ⟨D, ⟨es, clock, hw.trans hb, F, hs, hD⟩, h2, h3⟩
theorem MapIs.below {b n : Nat} {g : ByteArray → Option Nat} {w w' : World} (h : MapIs b n g w) (hw : Below w.heap.size w w') : MapIs b n g w' := h.kept (hw.block b h.lt)
theorem MapIs.congr {b n : Nat} {g g' : ByteArray → Option Nat} {w : World} (h : MapIs b n g w) (e : ∀ s, g' s = g s) : MapIs b n g' w := by
  obtain rfl : g' = g := funext e
  exact h
theorem MapIs.mono {b n n' : Nat} {g : ByteArray → Option Nat} {w : World} (h : MapIs b n g w) (hn : n ≤ n') : MapIs b n' g w := by
  obtain ⟨D, h1, h2⟩ := h
  exact ⟨D, h1.mono hn, h2⟩

section
variable {ops : Array Oper} {rest : List Oper} {o : Oper} {a : Act} {Q : Exit → Act → World → Prop} {w : World} {b n : Nat} {g : ByteArray → Option Nat}

/-- 'v, ok := m[k]', the key being there. -/
theorem wpList_look_yes (hg : o.guard = none) (m x : Operand) (hop : o.op = Op.lookup 51 m x true) (hm : a.eval m = .map (some b)) (h : MapIs b n g w) (s : ByteArray) (hx : a.eval x = .string s) (hs : s.size ≤ maxLen) (i : Nat) (hi : g s = some i)
    (hK : wpList Try.prog ops Q rest (a.put o.dst (.tuple #[.int .i64 (i : Int), .bool true])) w) : wpList Try.prog ops Q (o :: rest) a w := by
  obtain ⟨D, h1, h2, h3⟩ := h
  obtain ⟨e1, e2⟩ := h3 s
  rw [hi] at e1 e2
  refine wpList_lookup_own_ok_int w hg m x 51 hop 9 3 .i64 lawS Try.underlying51 Try.underlying3 (zeroI w) b n D hm h1 _ _ hx (keyOf_string_mk Try.underlying9 hs) ?_
  intro c hat _
  rw [e2] at hat
  have hc : c = (i : Int) := by simpa using hat.symm
  rw [e1, hc]
  exact hK
theorem wpList_look_no (hg : o.guard = none) (m x : Operand) (hop : o.op = Op.lookup 51 m x true) (hm : a.eval m = .map (some b)) (h : MapIs b n g w) (s : ByteArray) (hx : a.eval x = .string s) (hs : s.size ≤ maxLen) (hi : g s = none)
    (hK : wpList Try.prog ops Q rest (a.put o.dst (.tuple #[.int .i64 0, .bool false])) w) : wpList Try.prog ops Q (o :: rest) a w := by
  obtain ⟨D, h1, h2, h3⟩ := h
  obtain ⟨e1, e2⟩ := h3 s
  rw [hi] at e1 e2
  refine wpList_lookup_own_ok_int w hg m x 51 hop 9 3 .i64 lawS Try.underlying51 Try.underlying3 (zeroI w) b n D hm h1 _ _ hx (keyOf_string_mk Try.underlying9 hs) ?_
  intro c hat _
  rw [e2] at hat
  have hc : c = 0 := by simpa using hat.symm
  rw [e1, hc]
  exact hK
/-- 'm[k]'. -/
theorem wpList_look_at (hg : o.guard = none) (m x : Operand) (hop : o.op = Op.lookup 51 m x false) (hm : a.eval m = .map (some b)) (h : MapIs b n g w) (s : ByteArray) (hx : a.eval x = .string s) (hs : s.size ≤ maxLen) (i : Nat) (hi : g s = some i)
    (hK : wpList Try.prog ops Q rest (a.put o.dst (.int .i64 (i : Int))) w) : wpList Try.prog ops Q (o :: rest) a w := by
  obtain ⟨D, h1, h2, h3⟩ := h
  obtain ⟨e1, e2⟩ := h3 s
  rw [hi] at e1 e2
  refine wpList_lookup_own_int w hg m x 51 hop 9 3 .i64 lawS Try.underlying51 Try.underlying3 (zeroI w) b n D hm h1 _ _ hx (keyOf_string_mk Try.underlying9 hs) ?_
  intro c hat _
  rw [e2] at hat
  have hc : c = (i : Int) := by simpa using hat.symm
  rw [hc]
  exact hK
/-- 'm[k] = i'. -/
theorem wpList_mark (hg : o.guard = none) (m x v : Operand) (hop : o.op = Op.mapUpdate 51 m x v) (hm : a.eval m = .map (some b)) (h : MapIs b n g w) (hn : n < maxLen) (s : ByteArray) (hx : a.eval x = .string s) (hs : s.size ≤ maxLen) (i : Nat) (hv : a.eval v = .int .i64 (i : Int)) (hi : i ≤ 9223372036854775807)
    (hK : ∀ w', MapIs b (n + 1) (fun t => if t = s then some i else g t) w' → w.grownBy w' (some b) → wpList Try.prog ops Q rest (a.put o.dst undef) w') : wpList Try.prog ops Q (o :: rest) a w := by
  obtain ⟨D, h1, h2, h3⟩ := h
  have hkey := keyOf_string_mk (P := Try.prog) Try.underlying9 hs
  refine wpList_mapUpdate_own w hg m x v 51 hop 9 3 lawS Try.underlying51 _ b n D hm h1 hn _ _ _ hx hv hkey _ [] (plainElem_int Try.underlying3 (WalkArith.wf_i64 (by omega))) ?_
  intro w' hown hgr
  refine hK w' ⟨_, hown, h2.put _ _, fun t => ?_⟩ hgr
  have hkl : WideAt.IsKeyLit (.string s.data.toList) := lawS.key hkey
  by_cases e : t = s
  · subst e
    rw [has_put_same h2 hkl, atKey_put_same h2 hkl]
    simp
  · have hne : (Lit.string t.data.toList) ≠ .string s.data.toList := fun h => e (ba_eq (by simpa using h))
    rw [has_put_other hne, atKey_put_other hne, (h3 t).1, (h3 t).2]
    simp [e]
end

/-- Where a text stands first. -/
def plc (l : List ByteArray) (s : ByteArray) : Option Nat := l.findIdx? fun x => decide (x = s)

theorem plc_nil (s : ByteArray) : plc [] s = none := rfl
theorem plc_snoc (l : List ByteArray) (x s : ByteArray) : plc (l ++ [x]) s = match plc l s with | some i => some i | none => if s = x then some l.length else none := by
  unfold plc
  rw [List.findIdx?_append]
  cases l.findIdx? fun x => decide (x = s) with
  | some i => rfl
  | none =>
    by_cases h : x = s
    · simp [h]
    · have h' : ¬ s = x := fun e => h e.symm
      simp [h, h']
theorem plc_none {l : List ByteArray} {s : ByteArray} : plc l s = none ↔ s ∉ l := by
  unfold plc
  rw [List.findIdx?_eq_none_iff]
  constructor
  · intro h hs
    have := h s hs
    simp at this
  · intro h x hx
    have : x ≠ s := fun e => h (e ▸ hx)
    simpa using this
theorem plc_some {l : List ByteArray} {s : ByteArray} {i : Nat} (h : plc l s = some i) : i < l.length ∧ l[i]? = some s := by
  unfold plc at h
  rw [List.findIdx?_eq_some_iff_getElem] at h
  obtain ⟨h1, h2, _⟩ := h
  exact ⟨h1, by rw [List.getElem?_eq_getElem h1]; simpa using h2⟩
theorem take_put {α : Type} {l : List α} {j : Nat} {s : α} (h : l[j]? = some s) : l.take (j + 1) = l.take j ++ [s] := by
  rw [List.take_add_one, h]
  rfl
theorem lt_of_at {α : Type} {l : List α} {j : Nat} {s : α} (h : l[j]? = some s) : j < l.length := (List.getElem?_eq_some_iff.1 h).1

theorem plc_step_old {l : List ByteArray} {j i : Nat} {s : ByteArray} (h : l[j]? = some s) (hp : plc (l.take j) s = some i) (t : ByteArray) : plc (l.take (j + 1)) t = plc (l.take j) t := by
  rw [take_put h, plc_snoc]
  cases e : plc (l.take j) t with
  | some k => rfl
  | none =>
    simp only
    rw [if_neg]
    intro e'
    subst e'
    rw [hp] at e
    cases e
theorem plc_step_new {l : List ByteArray} {j : Nat} {s : ByteArray} (h : l[j]? = some s) (hp : plc (l.take j) s = none) (t : ByteArray) : plc (l.take (j + 1)) t = if t = s then some j else plc (l.take j) t := by
  rw [take_put h, plc_snoc]
  by_cases e : t = s
  · subst e
    rw [hp]
    simp
    have := lt_of_at h
    omega
  · cases plc (l.take j) t with
    | some k => simp [e]
    | none => simp [e]

set_option maxRecDepth 100000 in
set_option maxHeartbeats 1600000 in
theorem places_any (B : Nat) (l : List ByteArray) (a : Option Addr) (cap : Nat) (w : World) (h : Strs B w a l) (hB : B ≤ w.heap.size) :
    Calls Try.prog 28 #[.slice a l.length cap] w fun e w' => e = .returned (.map (some w.heap.size)) ∧ Below w.heap.size w w' ∧ MapIs w.heap.size l.length (plc l) w' := by
  have hl := h.1
  have HS : Hid (Strs B w a l ∧ B ≤ w.heap.size) := ⟨h, hB⟩
  clear h hB
  have hmm := @run_makeMap Try.prog
  go_enter Try.func28, Try.ntmps28
  go_wp2_with fail
  go_loopw [11] (fun i wr => ∃ j : Nat, j ≤ l.length ∧ i = .int .i64 j ∧ Below w.heap.size w wr ∧ MapIs w.heap.size j (plc (l.take j)) wr) (fun i _ => l.length - (intOf i).toNat)
  case atStart => exact ⟨0, Nat.zero_le _, rfl, (Below.refl _ _).alloc (Nat.le_refl _) _, (MapIs.made w).congr (fun s => by rw [List.take_zero]; rfl)⟩
  case round =>
    obtain ⟨j, hj, rfl, hb, hm⟩ := hrel
    have HM : Hid (Below w.heap.size w wr ∧ MapIs w.heap.size j (plc (l.take j)) wr) := ⟨hb, hm⟩
    by_cases hlt : j < l.length
    · obtain ⟨b, o, s, rfl, hbB, hs, hc, hz⟩ := HS.out.1.at hlt
      have hc' := (hb.cell (p := ⟨b, o + j, none⟩) (Nat.lt_of_lt_of_le hbB HS.out.2)).trans hc
      have HX : Hid (l[j]? = some s ∧ s.size ≤ maxLen) := ⟨hs, hz⟩
      have hjm : j < maxLen := by unfold maxLen; omega
      clear hc hs hz hb hm
      cases hp : plc (l.take j) s with
      | some i =>
        have HP : Hid (plc (l.take j) s = some i) := hp
        clear hp
        go_wp2_with (at_lookup; refine wpList_look_yes rfl _ _ rfl rfl HM.out.2 s rfl HX.out.2 i HP.out ?_)
        go_roundw
        case rel => exact ⟨j + 1, by omega, by go_num, HM.out.1, (HM.out.2.mono (Nat.le_succ _)).congr (plc_step_old HX.out.1 HP.out)⟩
        case measure => simp [intOf]; omega
      | none =>
        have HP : Hid (plc (l.take j) s = none) := hp
        clear hp
        go_wp2_with (first | (at_lookup; refine wpList_look_no rfl _ _ rfl rfl HM.out.2 s rfl HX.out.2 HP.out ?_) | (at_mapUpdate; refine wpList_mark rfl _ _ _ rfl rfl HM.out.2 hjm s rfl HX.out.2 j rfl (by omega) ?_))
        intro w1 hm1 hg1
        have HM1 : Hid (Below w.heap.size w w1 ∧ MapIs w.heap.size (j + 1) (plc (l.take (j + 1))) w1) := ⟨HM.out.1.grown hg1 HM.out.1.size (fun k hk => by cases hk; exact Nat.le_refl _), hm1.congr (plc_step_new HX.out.1 HP.out)⟩
        clear hm1 hg1 hc'
        go_wp2_with fail
        go_roundw
        case rel => exact ⟨j + 1, by omega, by go_num, HM1.out.1, HM1.out.2⟩
        case measure => simp [intOf]; omega
    · obtain rfl : j = l.length := by omega
      clear hb hm
      go_wp2_with fail
      go_ret
      refine ⟨rfl, HM.out.1, ?_⟩
      have := HM.out.2
      rw [List.take_length] at this
      exact this
end Go.Proofs.Ytckiihbnjfeplaa
