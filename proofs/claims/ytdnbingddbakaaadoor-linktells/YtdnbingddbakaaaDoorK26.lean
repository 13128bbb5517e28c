/- Maps of one's own from places to numbers, and to truths. -/
import Derived.Test.YtdnbingddbakaaaDoorK20
import Derived.Maps.OwnOps
import Derived.Maps.OwnSet
import Derived.StringKeys
namespace Go.Proofs.YtdnbingddbakaaaDoor
set_option linter.unusedVariables false
set_option linter.unusedSimpArgs false
open Go.RowKit Go.Maps Go.WideMaps

theorem lawI : Keyed Tryd.prog 3 := int_keyed Tryd.underlying3
theorem zeroA (w : World) : (zeroValue 3).run Tryd.prog w = .ok (.int .i64 0) w := by kernel_rfl
theorem zeroT (w : World) : (zeroValue 4).run Tryd.prog w = .ok (.bool false) w := by kernel_rfl
theorem keyI (i : Int) (h : 0 ≤ i ∧ i ≤ 1000000) : keyOf Tryd.prog 3 (.int .i64 i) = some (.int .i64 i) := keyOf_int_mk Tryd.underlying3 (WalkArith.wf_i64 (by omega))
/-- Block b is a map of at most n entries, from numbers to numbers. -/
def MapA (b n : Nat) (g : Int → Option Int) (w : World) : Prop :=
  ∃ D : DataW Unit, w.ownsMap Tryd.prog 3 (plainElem Tryd.prog 3) b n D ∧ Maps.IsMap D ∧ ∀ i : Int, Maps.has D (.int .i64 i) = (g i).isSome ∧ D.atKey (.int .i64 i) (.lit (.int .i64 0)) = .lit (.int .i64 ((g i).getD 0))
theorem MapA.made (w : World) : MapA w.heap.size 0 (fun _ => none) (w.alloc (.map #[] 0)) :=
  ⟨.map [], World.ownsMap_made _ _ _ _, Maps.isMap_empty, fun i => ⟨rfl, rfl⟩⟩
theorem MapA.lt {b n : Nat} {g : Int → Option Int} {w : World} (h : MapA b n g w) : b < w.heap.size := by
  obtain ⟨D, h, _⟩ := h
  exact h.lt
theorem MapA.kept {b n : Nat} {g : Int → Option Int} {w w' : World} (h : MapA b n g w) (hw : w'.heap[b]? = w.heap[b]?) : MapA b n g w' := by
  obtain ⟨D, ⟨es, clock, hb, F, hs, hD⟩, h2, h3⟩ := h
  exact ⟨D, ⟨es, clock, hw.trans hb, F, hs, hD⟩, h2, h3⟩
theorem MapA.congr {b n : Nat} {g g' : Int → Option Int} {w : World} (h : MapA b n g w) (e : ∀ s, g' s = g s) : MapA b n g' w := by
  obtain rfl : g' = g := funext e
  exact h
theorem MapA.look {b n : Nat} {g : Int → Option Int} {w : World} (h : MapA b n g w) (i : Int) (hi : 0 ≤ i ∧ i ≤ 1000000) : (Instr.lookup 82 (.map (some b)) (.int .i64 i) true).run Tryd.prog w = .ok (.tuple #[.int .i64 ((g i).getD 0), .bool (g i).isSome]) w := by
  obtain ⟨D, h1, h2, h3⟩ := h
  obtain ⟨v, ps, hrun, hv⟩ := h1.look_ok lawI Tryd.underlying82 (zeroA w) (plainElem_int Tryd.underlying3 (WalkArith.wf_i64 (by omega))) (keyI i hi)
  rw [(h3 i).1] at hrun
  rw [(h3 i).2] at hv
  obtain ⟨c, hc⟩ := plainElem_int_inv Tryd.underlying3 hv
  rw [hrun]
  simp at hc
  rw [hc.1, ← hc.2.1.1]
theorem MapA.put {b n : Nat} {g : Int → Option Int} {w : World} (h : MapA b n g w) (hn : n < maxLen) (i : Int) (hi : 0 ≤ i ∧ i ≤ 1000000) (v : Int) (hv : 0 ≤ v ∧ v ≤ 1000000000) :
    ∃ w', (Instr.mapUpdate 82 (.map (some b)) (.int .i64 i) (.int .i64 v)).run Tryd.prog w = .ok () w' ∧ MapA b (n + 1) (fun t => if t = i then some v else g t) w' ∧ w.grownBy w' (some b) := by
  obtain ⟨D, h1, h2, h3⟩ := h
  have hpe := plainElem_int (H := Unit) (P := Tryd.prog) Tryd.underlying3 (a := v) (q := .i64) (WalkArith.wf_i64 (by omega))
  obtain ⟨w', hrun, hown, hg⟩ := h1.store lawI Tryd.underlying82 hn (keyI i hi) hpe
  refine ⟨w', hrun, ⟨_, hown, h2.put _ _, fun t => ?_⟩, hg.grown⟩
  have hkl : WideAt.IsKeyLit (.int .i64 i) := lawI.key (keyI i hi)
  by_cases e : t = i
  · subst e
    rw [has_put_same h2 hkl, atKey_put_same h2 hkl]
    simp
  · have hne : (Lit.int .i64 t) ≠ .int .i64 i := fun h => e (by simpa using h)
    rw [has_put_other hne, atKey_put_other hne, (h3 t).1, (h3 t).2]
    simp [e]
/-- Block b is a map of at most n entries, from numbers to truths. -/
def MapT (b n : Nat) (g : Int → Bool) (w : World) : Prop :=
  ∃ D : DataW Unit, w.ownsMap Tryd.prog 3 (plainElem Tryd.prog 4) b n D ∧ Maps.IsMap D ∧ ∀ i : Int, D.atKey (.int .i64 i) (.lit (.bool false)) = .lit (.bool (g i))
theorem MapT.made (w : World) : MapT w.heap.size 0 (fun _ => false) (w.alloc (.map #[] 0)) :=
  ⟨.map [], World.ownsMap_made _ _ _ _, Maps.isMap_empty, fun i => rfl⟩
theorem MapT.lt {b n : Nat} {g : Int → Bool} {w : World} (h : MapT b n g w) : b < w.heap.size := by
  obtain ⟨D, h, _⟩ := h
  exact h.lt
theorem MapT.kept {b n : Nat} {g : Int → Bool} {w w' : World} (h : MapT b n g w) (hw : w'.heap[b]? = w.heap[b]?) : MapT b n g w' := by
  obtain ⟨D, ⟨es, clock, hb, F, hs, hD⟩, h2, h3⟩ := h
  exact ⟨D, ⟨es, clock, hw.trans hb, F, hs, hD⟩, h2, h3⟩
set_option maxRecDepth 100000 in
theorem boolInv {v : Value} {z : DataW Unit × List MemPlace} (h : plainElem Tryd.prog 4 v = some z) : ∃ x, v = .bool x ∧ z.1 = .lit (.bool x) := by
  unfold plainElem at h
  rw [Tryd.underlying4] at h
  cases v <;> simp at h
  subst h
  exact ⟨_, rfl, rfl⟩
set_option maxRecDepth 100000 in
theorem MapT.look {b n : Nat} {g : Int → Bool} {w : World} (h : MapT b n g w) (i : Int) (hi : 0 ≤ i ∧ i ≤ 1000000) : (Instr.lookup 83 (.map (some b)) (.int .i64 i) false).run Tryd.prog w = .ok (.bool (g i)) w := by
  obtain ⟨D, ⟨es, clock, hb, F, hn, rfl⟩, h2, h3⟩ := h
  rcases Maps.fit_look false lawI Tryd.underlying83 (zeroT w) hb F (keyI i hi) with ⟨hrun, _, hat⟩ | ⟨e0, y, _, _, hrun, hRv, hat, _⟩
  · have := h3 i
    rw [hat] at this
    have e : g i = false := by simpa using this.symm
    rw [hrun, e]
    rfl
  · obtain ⟨z, hv, hz⟩ := boolInv hRv
    have := h3 i
    rw [hat, hz] at this
    have e : z = g i := by simpa using this
    rw [hrun, hv, e]
    rfl
theorem MapT.put {b n : Nat} {g : Int → Bool} {w : World} (h : MapT b n g w) (hn : n < maxLen) (i : Int) (hi : 0 ≤ i ∧ i ≤ 1000000) (v : Bool) :
    ∃ w', (Instr.mapUpdate 83 (.map (some b)) (.int .i64 i) (.bool v)).run Tryd.prog w = .ok () w' ∧ MapT b (n + 1) (fun t => if t = i then v else g t) w' ∧ w.grownBy w' (some b) := by
  obtain ⟨D, h1, h2, h3⟩ := h
  obtain ⟨w', hrun, hown, hg⟩ := h1.store lawI Tryd.underlying83 hn (keyI i hi) (plainElem_bool Tryd.underlying4 v)
  refine ⟨w', hrun, ⟨_, hown, h2.put _ _, fun t => ?_⟩, hg.grown⟩
  have hkl : WideAt.IsKeyLit (.int .i64 i) := lawI.key (keyI i hi)
  by_cases e : t = i
  · subst e
    rw [atKey_put_same h2 hkl]
    simp
  · have hne : (Lit.int .i64 t) ≠ .int .i64 i := fun h => e (by simpa using h)
    rw [atKey_put_other hne, h3 t]
    simp [e]
end Go.Proofs.YtdnbingddbakaaaDoor
