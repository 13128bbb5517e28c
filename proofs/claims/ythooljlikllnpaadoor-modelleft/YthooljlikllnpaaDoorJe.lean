/- Chapter 7: package model: a procedure without anything around it is called. -/
import Derived.Test.YthooljlikllnpaaDoorJd
namespace Go.Proofs.YthooljlikllnpaaDoor
set_option linter.unusedVariables false
set_option linter.unusedSimpArgs false
open Go.RowKit

/-- The frame that is around a body. -/
def RF (fb : Nat) (w : World) : Prop := w.heap[fb]? = some (.cells #[.slice none 0 0, .int .i64 0, .int .i64 0, .pointer none, .pointer none] 83 (0, 0))
set_option maxRecDepth 100000 in
set_option maxHeartbeats 1600000 in
theorem leap_root (fb : Nat) (w : World) (h : RF fb w) : Calls Tryd.prog 75 #[.pointer (some ⟨fb, 0, none⟩)] w fun e w' => e = .returned (.pointer (some ⟨fb, 0, none⟩)) ∧ w' = w := by
  have c2 : w.cell? ⟨fb, 2, none⟩ = some (.int .i64 0) := (cellO h).trans rfl
  clear h
  go_enter Tryd.func75, Tryd.ntmps75
  go_wp2_with fail
  go_ret
  exact ⟨rfl, rfl⟩
set_option maxRecDepth 100000 in
set_option maxHeartbeats 3200000 in
theorem With_root (fb N o k c : Nat) (w : World) (h : RF fb w) (hk : k ≤ 1000) : Calls Tryd.prog 60 #[.pointer (some ⟨fb, 0, none⟩), .slice (some ⟨N, o, none⟩) k c] w fun e w' => ∃ g, e = .returned (.pointer (some ⟨g, 0, none⟩)) ∧ Below w.heap.size w w' := by
  have c1 : w.cell? ⟨fb, 1, none⟩ = some (.int .i64 0) := (cellO h).trans rfl
  have c2 : w.cell? ⟨fb, 2, none⟩ = some (.int .i64 0) := (cellO h).trans rfl
  have HL : Hid (∀ W, Below w.heap.size w W → Calls Tryd.prog 75 #[.pointer (some ⟨fb, 0, none⟩)] W fun e w' => e = .returned (.pointer (some ⟨fb, 0, none⟩)) ∧ w' = W) := fun W hb => leap_root fb W ((hb.block fb (Array.getElem?_eq_some_iff.1 h).1).trans h)
  clear h
  by_cases h0 : k = 0
  · subst h0
    go_enter Tryd.func60, Tryd.ntmps60
    go_wp2_with fail
    go_ret
    exact ⟨fb, rfl, Below.refl _ _⟩
  · have hd : ((k : Int) == 0) = false := by simp; omega
    have hd' : ¬ ((k : Int) = 0) := by omega
    go_enter Tryd.func60, Tryd.ntmps60
    go_wp2_with fail
    go_region_with (go_at_call 75; refine (HL.out _ (Below.drew (Below.refl _ _))).mono ?_; rintro e w2 ⟨rfl, rfl⟩)
    all_goals
      go_wp2_with fail
      go_ret
      exact ⟨_, rfl, (Below.drew (Below.refl _ _)).alloc (Nat.le_refl _) _⟩
end Go.Proofs.YthooljlikllnpaaDoor
