/- The law TextPrints, walked. -/
import Derived.Test.YtagpcafbeplccaaDoorGc
namespace Go.Proofs.YtagpcafbeplccaaDoor
set_option linter.unusedVariables false
set_option linter.unusedSimpArgs false
open Go.RowKit

set_option maxRecDepth 100000 in
set_option maxHeartbeats 1600000 in
theorem TextPrints_walk (B g : Nat) (l : List Dat) (a : Option Addr) (cap : Nat) (w : World) (hl : Lies B w g a l) (hB : B ≤ w.heap.size) (ht : Tab B w) :
    Calls Tryd.prog 4 #[.slice a l.length cap] w fun e w' => e = .returned (.bool true) ∧ Below w.heap.size w w' := by
  have C13 : Hid (∀ w', Below w.heap.size w w' → Calls Tryd.prog 13 #[.slice a l.length cap] w' fun e w'' => e = .returned (.tuple #[.string (prt l).1, fv (prt l).2]) ∧ Below w'.heap.size w' w'') := fun w' hb => Print_any B g l a cap w' (hl.below (hb.mono hB)) (by have := hb.size; omega) (ht.below (hb.mono hB))
  have C14 : Hid (∀ w', Below w.heap.size w w' → Calls Tryd.prog 14 #[.slice a l.length cap] w' fun e w'' => e = .returned (.tuple #[.string (prt l).1, fv (prt l).2]) ∧ Below w'.heap.size w' w'') := fun w' hb => refPrint_any B g l a cap w' (hl.below (hb.mono hB)) (by have := hb.size; omega) (ht.below (hb.mono hB))
  have C15 : Hid (∀ w', Below w.heap.size w w' → Calls Tryd.prog 15 #[.slice a l.length cap] w' fun e w'' => e = .returned (fv (wrong l)) ∧ Below w'.heap.size w' w'') := fun w' hb => Wrong_any B g l a cap w' (hl.below (hb.mono hB)) (by have := hb.size; omega)
  have C16 : Hid (∀ w', Below w.heap.size w w' → Calls Tryd.prog 16 #[.slice a l.length cap] w' fun e w'' => e = .returned (fv (wrong l)) ∧ Below w'.heap.size w' w'') := fun w' hb => refWrong_any B g l a cap w' (hl.below (hb.mono hB)) (by have := hb.size; omega)
  clear hl ht hB
  generalize prt l = p at C13 C14
  generalize wrong l = y at C15 C16
  obtain ⟨s, p1, p2⟩ := p
  obtain ⟨y1, y2⟩ := y
  unfold fv at C13 C14 C15 C16
  simp only at C13 C14 C15 C16
  go_enter Tryd.func4, Tryd.ntmps4
  go_wp2_with fail
  refine (C13.out _ (Below.refl _ _)).mono ?_
  rintro e w1 ⟨rfl, h1⟩
  have HB1 : Hid (Below w.heap.size w w1) := h1
  have hz1 := h1.size
  clear h1 C13
  go_wp2_with fail
  refine (C14.out _ (HB1.out.alloc hz1 _)).mono ?_
  rintro e w2 ⟨rfl, h2⟩
  have q0 : w2.cell? ⟨w1.heap.size, 0, none⟩ = some (.int .i64 p1) := box_cell h2 rfl 0
  have q1 : w2.cell? ⟨w1.heap.size, 1, none⟩ = some (.int .i64 p2) := box_cell h2 rfl 1
  have hz2 : w1.heap.size + 1 ≤ w2.heap.size := by have := h2.size; simpa using this
  have HB2 : Hid (Below w.heap.size w w2) := (HB1.out.alloc hz1 _).trans (h2.mono (by simp; omega))
  clear h2 C14 HB1
  go_wp2_with fail
  refine (C15.out _ (HB2.out.alloc (by omega) _)).mono ?_
  rintro e w3 ⟨rfl, h3⟩
  have r0 : w3.cell? ⟨w2.heap.size, 0, none⟩ = some (.int .i64 p1) := box_cell h3 rfl 0
  have r1 : w3.cell? ⟨w2.heap.size, 1, none⟩ = some (.int .i64 p2) := box_cell h3 rfl 1
  have s0 : w3.cell? ⟨w1.heap.size, 0, none⟩ = some (.int .i64 p1) := (h3.cell (p := ⟨w1.heap.size, 0, none⟩) (by simp; omega)).trans (Lib.cell?_alloc_marked _ q0)
  have s1 : w3.cell? ⟨w1.heap.size, 1, none⟩ = some (.int .i64 p2) := (h3.cell (p := ⟨w1.heap.size, 1, none⟩) (by simp; omega)).trans (Lib.cell?_alloc_marked _ q1)
  have hz3 : w2.heap.size + 1 ≤ w3.heap.size := by have := h3.size; simpa using this
  have HB3 : Hid (Below w.heap.size w w3) := (HB2.out.alloc (by omega) _).trans (h3.mono (by simp; omega))
  clear h3 C15 HB2 q0 q1
  go_wp2_with fail
  refine (C16.out _ HB3.out).mono ?_
  rintro e w4 ⟨rfl, h4⟩
  have t0 : w4.cell? ⟨w2.heap.size, 0, none⟩ = some (.int .i64 p1) := cell_later h4 r0
  have t1 : w4.cell? ⟨w2.heap.size, 1, none⟩ = some (.int .i64 p2) := cell_later h4 r1
  have u0 : w4.cell? ⟨w1.heap.size, 0, none⟩ = some (.int .i64 p1) := cell_later h4 s0
  have u1 : w4.cell? ⟨w1.heap.size, 1, none⟩ = some (.int .i64 p2) := cell_later h4 s1
  have HB4 : Hid (Below w.heap.size w w4) := HB3.out.trans (h4.mono (by omega))
  clear h4 C16 HB3 r0 r1 s0 s1
  go_wp2_with fail
  go_ret
  exact ⟨rfl, HB4.out⟩
end Go.Proofs.YtagpcafbeplccaaDoor
