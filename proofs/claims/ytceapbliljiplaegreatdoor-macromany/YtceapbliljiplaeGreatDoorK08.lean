/- Package rule set: words; maps from texts to numbers. -/
import Derived.Test.YtceapbliljiplaeGreatDoorK05
import Derived.Test.YtceapbliljiplaeGreatDoorK06
import Derived.Test.YtceapbliljiplaeGreatDoorK07
import Derived.Maps.OwnOps
import Derived.Maps.OwnSet
import Derived.StringKeys
namespace Go.Proofs.YtceapbliljiplaeGreatDoor
set_option linter.unusedVariables false
set_option linter.unusedSimpArgs false
open Go.RowKit Go.Maps Go.WideMaps

theorem ba_eq {a b : ByteArray} (h : a.data.toList = b.data.toList) : a = b := by
  cases a; cases b; simpa using h
theorem beqS_true {a b : ByteArray} (h : (a.toList == b.toList) = true) : a = b := by
  rw [ByteArray.toList_eq, ByteArray.toList_eq] at h
  exact ba_eq (by simpa using h)
theorem beqS_ne {a b : ByteArray} (h : ¬ a = b) : (a.toList == b.toList) = false := by
  cases e : (a.toList == b.toList) with
  | false => rfl
  | true => exact absurd (beqS_true e) h
theorem ne_dots {a : ByteArray} (h : ¬ a = dotsS) : (a.toList == [46, 46, 46]) = false := by
  have := beqS_ne h
  unfold dotsS at this
  simpa [ByteArray.toList_eq] using this
theorem ne_any {a : ByteArray} (h : ¬ a = anyS) : (a.toList == [95]) = false := by
  have := beqS_ne h
  unfold anyS at this
  simpa [ByteArray.toList_eq] using this

set_option maxHeartbeats 400000 in
theorem isDots_any (d : Dat) (a : Option Addr) (cap : Nat) (w : World) :
    Calls Tryz.prog 61 #[dv d a cap] w fun e w' => e = .returned (.bool (isDots d)) ∧ Below w.heap.size w w' := by
  obtain ⟨k, n, nm, st, lb, ks⟩ := d
  unfold dv isDots
  simp only
  by_cases h3 : k = 3
  · subst h3
    by_cases hn : nm = dotsS
    · subst hn
      unfold dotsS
      go_enter Tryz.func61, Tryz.ntmps61
      go_wp2_with fail
      go_ret
      exact ⟨by simp, (Below.refl _ _).alloc (Nat.le_refl _) _⟩
    · have hn' := ne_dots hn
      go_enter Tryz.func61, Tryz.ntmps61
      go_wp2_with fail
      go_ret
      exact ⟨by simp [hn, hn'], (Below.refl _ _).alloc (Nat.le_refl _) _⟩
  · have h3' : (k == 3) = false := by simpa using h3
    go_enter Tryz.func61, Tryz.ntmps61
    go_wp2_with fail
    go_ret
    exact ⟨by simp [h3], (Below.refl _ _).alloc (Nat.le_refl _) _⟩

theorem headDots_drop (l : List Dat) (i : Nat) : headDots (l.drop i) = match l[i]? with | some d => isDots d | none => false := by
  cases h : l[i]? with
  | none => rw [List.drop_eq_nil_of_le (List.getElem?_eq_none_iff.1 h)]; rfl
  | some d =>
    obtain ⟨hi, e⟩ := List.getElem?_eq_some_iff.1 h
    rw [List.drop_eq_getElem_cons hi, e]
    rfl

set_option maxHeartbeats 400000 in
theorem dotsBehind_any (B g : Nat) (l : List Dat) (a : Option Addr) (cap i : Nat) (w : World) (hl : Lies B w g a l) (hi : i < l.length) :
    Calls Tryz.prog 84 #[.slice a l.length cap, .int .i64 (i : Int)] w fun e w' => e = .returned (.bool (headDots (l.drop (i + 1)))) ∧ Below w.heap.size w w' := by
  have hlen := hl.len
  rw [headDots_drop]
  have HL : Hid (Lies B w g a l) := hl
  clear hl
  by_cases h1 : i + 1 < l.length
  · obtain ⟨d, hd⟩ : ∃ d, l[i + 1]? = some d := ⟨l[i + 1], List.getElem?_eq_getElem h1⟩
    rw [hd]
    have hne : l ≠ [] := by intro e; rw [e] at hi; simp at hi
    obtain ⟨g', b, o, hg, ha, hbB, hall⟩ := HL.out.at hne
    subst ha
    obtain ⟨a', cap', k0, k1, k2, k3, k4, k5, hkn, hkk⟩ := hall (i + 1) d hd
    have h1' : (i : Int) + 1 < (l.length : Int) := by omega
    clear hd hall hkk hg hkn hne
    go_enter Tryz.func84, Tryz.ntmps84
    go_wp2_with fail
    refine (isDots_any d a' cap' _).mono ?_
    rintro e w1 ⟨rfl, hb⟩
    go_wp2_with fail
    go_ret
    exact ⟨rfl, hb⟩
  · have h2 : l[i + 1]? = none := List.getElem?_eq_none_iff.2 (by omega)
    rw [h2]
    have h1' : decide ((i : Int) + 1 < (l.length : Int)) = false := by simp; omega
    clear h2
    go_enter Tryz.func84, Tryz.ntmps84
    go_wp2_with fail
    go_ret
    exact ⟨by simp, Below.refl _ _⟩

theorem lawS : Keyed Tryz.prog 9 := string_keyed Tryz.underlying9
theorem zeroI (w : World) : (zeroValue 3).run Tryz.prog w = .ok (.int .i64 0) w := by kernel_rfl

/-- Block b is a map of at most n entries, from texts to numbers: f. -/
def MapN (b n : Nat) (f : ByteArray → Nat) (w : World) : Prop :=
  ∃ D : DataW Unit, w.ownsMap Tryz.prog 9 (plainElem Tryz.prog 3) b n D ∧ Maps.IsMap D ∧
    ∀ s : ByteArray, D.atKey (.string s.data.toList) (.lit (.int .i64 0)) = .lit (.int .i64 ((f s : Nat) : Int))

theorem MapN.made (w : World) : MapN w.heap.size 0 (fun _ => 0) (w.alloc (.map #[] 0)) :=
  ⟨.map [], World.ownsMap_made _ _ _ _, Maps.isMap_empty, fun s => rfl⟩
theorem MapN.lt {b n : Nat} {f : ByteArray → Nat} {w : World} (h : MapN b n f w) : b < w.heap.size := by
  obtain ⟨D, h, _⟩ := h
  exact h.lt
theorem MapN.kept {b n : Nat} {f : ByteArray → Nat} {w w' : World} (h : MapN b n f w) (hw : w'.heap[b]? = w.heap[b]?) : MapN b n f w' := by
  obtain ⟨D, ⟨es, clock, hb, F, hs, hD⟩, h2, h3⟩ := h
  exact ⟨D, ⟨es, clock, hw.trans hb, F, hs, hD⟩, h2, h3⟩
theorem MapN.below {b n : Nat} {f : ByteArray → Nat} {w w' : World} (h : MapN b n f w) (hw : Below w.heap.size w w') : MapN b n f w' := h.kept (hw.block b h.lt)
theorem MapN.congr {b n : Nat} {f g : ByteArray → Nat} {w : World} (h : MapN b n f w) (e : ∀ s, g s = f s) : MapN b n g w := by
  obtain rfl : g = f := funext e
  exact h
theorem MapN.mono {b n n' : Nat} {f : ByteArray → Nat} {w : World} (h : MapN b n f w) (hn : n ≤ n') : MapN b n' f w := by
  obtain ⟨D, h1, h2⟩ := h
  exact ⟨D, h1.mono hn, h2⟩
/-- 'm[k]'. -/
theorem MapN.run {b n : Nat} {f : ByteArray → Nat} {w : World} (h : MapN b n f w) {t : TypeId} (ht : Tryz.prog.underlying t = some (.map 9 3)) (s : ByteArray) (hs : s.size ≤ maxLen) :
    (Instr.lookup t (.map (some b)) (.string s) false).run Tryz.prog w = .ok (.int .i64 ((f s : Nat) : Int)) w := by
  obtain ⟨D, h1, h2, h3⟩ := h
  obtain ⟨c, hrun, hat, _⟩ := h1.lookup_int lawS ht Tryz.underlying3 (zeroI w) (keyOf_string_mk Tryz.underlying9 hs)
  rw [h3 s] at hat
  have hc : ((f s : Nat) : Int) = c := by simpa using hat
  rw [hc]
  exact hrun
/-- 'm[k] = i'. -/
theorem wpList_putN {ops : Array Oper} {rest : List Oper} {o : Oper} {a : Act} {Q : Exit → Act → World → Prop} {w : World} {b n : Nat} {f : ByteArray → Nat} (hg : o.guard = none) (m x v : Operand) (t : TypeId) (hop : o.op = Op.mapUpdate t m x v) (ht : Tryz.prog.underlying t = some (.map 9 3))
    (hm : a.eval m = .map (some b)) (h : MapN b n f w) (hn : n < maxLen) (s : ByteArray) (hx : a.eval x = .string s) (hs : s.size ≤ maxLen) (i : Nat) (hv : a.eval v = .int .i64 (i : Int)) (hi : i ≤ 9223372036854775807)
    (hK : ∀ w', MapN b (n + 1) (putV f s i) w' → w.grownBy w' (some b) → wpList Tryz.prog ops Q rest (a.put o.dst undef) w') : wpList Tryz.prog ops Q (o :: rest) a w := by
  obtain ⟨D, h1, h2, h3⟩ := h
  have hkey := keyOf_string_mk (P := Tryz.prog) Tryz.underlying9 hs
  refine wpList_mapUpdate_own w hg m x v t hop 9 3 lawS ht _ b n D hm h1 hn _ _ _ hx hv hkey _ [] (plainElem_int Tryz.underlying3 (WalkArith.wf_i64 (by omega))) ?_
  intro w' hown hgr
  refine hK w' ⟨_, hown, h2.put _ _, fun t => ?_⟩ hgr
  have hkl : WideAt.IsKeyLit (.string s.data.toList) := lawS.key hkey
  unfold putV
  by_cases e : t = s
  · subst e
    rw [atKey_put_same h2 hkl]
    simp
  · have hne : (Lit.string t.data.toList) ≠ .string s.data.toList := fun h => e (ba_eq (by simpa using h))
    rw [atKey_put_other hne, h3 t]
    simp [e]

/-- Block b tells of each of those texts that it is one of them. -/
def LitM (b : Nat) (lits : List ByteArray) (w : World) : Prop := ∃ n f, MapN b n f w ∧ n ≤ 20 ∧ (∀ s, f s ≤ 20) ∧ ∀ s, (decide (0 < f s)) = inB lits s
theorem LitM.below {b : Nat} {lits : List ByteArray} {w w' : World} (h : LitM b lits w) (hw : Below w.heap.size w w') : LitM b lits w' := by
  obtain ⟨n, f, h1, h2⟩ := h
  exact ⟨n, f, h1.below hw, h2⟩
theorem LitM.lt {b : Nat} {lits : List ByteArray} {w : World} (h : LitM b lits w) : b < w.heap.size := by
  obtain ⟨n, f, h1, h2⟩ := h
  exact h1.lt
theorem LitM.kept {b : Nat} {lits : List ByteArray} {w w' : World} (h : LitM b lits w) (hw : w'.heap[b]? = w.heap[b]?) : LitM b lits w' := by
  obtain ⟨n, f, h1, h2⟩ := h
  exact ⟨n, f, h1.kept hw, h2⟩

set_option maxHeartbeats 400000 in
theorem has_any (b : Nat) (lits : List ByteArray) (s : ByteArray) (w : World) (h : LitM b lits w) (hs : s.size ≤ maxLen) :
    Calls Tryz.prog 110 #[.map (some b), .string s] w fun e w' => e = .returned (.bool (inB lits s)) ∧ w' = w := by
  obtain ⟨n, f, h1, h2, h3, h4⟩ := h
  have hr := h1.run (t := 66) Tryz.underlying66 s hs
  rw [← h4 s]
  generalize f s = c at hr ⊢
  clear h1 h2 h3 h4
  go_enter Tryz.func110, Tryz.ntmps110
  go_wp2_with fail
  go_ret
  exact ⟨retB (by simp), rfl⟩

set_option maxHeartbeats 800000 in
theorem isVariable_any (b : Nat) (lits : List ByteArray) (d : Dat) (a : Option Addr) (cap : Nat) (w : World) (h : LitM b lits w) (hs : d.name.size ≤ maxLen) :
    Calls Tryz.prog 111 #[.map (some b), dv d a cap] w fun e w' => e = .returned (.bool (varK lits d.kind d.name)) ∧ Below w.heap.size w w' := by
  obtain ⟨k, n, nm, st, lb, ks⟩ := d
  unfold dv varK
  simp only at hs ⊢
  have HA : Hid (LitM b lits w ∧ nm.size ≤ maxLen) := ⟨h, hs⟩
  clear h hs
  by_cases h3 : k = 3
  · subst h3
    by_cases hn : nm = dotsS
    · subst hn
      unfold dotsS
      go_enter Tryz.func111, Tryz.ntmps111
      go_wp2_with fail
      go_ret
      exact ⟨by simp, (Below.refl _ _).alloc (Nat.le_refl _) _⟩
    · have hn' := ne_dots hn
      by_cases ha : nm = anyS
      · subst ha
        unfold anyS
        go_enter Tryz.func111, Tryz.ntmps111
        go_wp2_with fail
        go_ret
        exact ⟨by simp, (Below.refl _ _).alloc (Nat.le_refl _) _⟩
      · have ha' := ne_any ha
        go_enter Tryz.func111, Tryz.ntmps111
        go_wp2_with fail
        refine (has_any b lits nm _ (HA.out.1.below ((Below.refl _ _).alloc (Nat.le_refl _) _)) HA.out.2).mono ?_
        rintro e w' ⟨rfl, rfl⟩
        go_wp2_with fail
        go_ret
        exact ⟨by simp [hn, ha], (Below.refl _ _).alloc (Nat.le_refl _) _⟩
  · have h3' : (k == 3) = false := by simpa using h3
    go_enter Tryz.func111, Tryz.ntmps111
    go_wp2_with fail
    go_ret
    exact ⟨by simp [h3], (Below.refl _ _).alloc (Nat.le_refl _) _⟩
end Go.Proofs.YtceapbliljiplaeGreatDoor
