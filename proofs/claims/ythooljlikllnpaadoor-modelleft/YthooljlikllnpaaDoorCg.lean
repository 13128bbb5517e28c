/- What package model finds wrong with one part. -/
import Derived.Test.YthooljlikllnpaaDoorCf
namespace Go.Proofs.YthooljlikllnpaaDoor
set_option linter.unusedVariables false
set_option linter.unusedSimpArgs false
open Go.RowKit

/-- An answer's block is as it was made. -/
structure Af (w wr : World) : Prop where
  below : Below w.heap.size w wr
  lt : w.heap.size < wr.heap.size
  box : wr.heap[w.heap.size]? = some (.cells #[.int .i64 0, .int .i64 0] 28 (0, 0))
theorem Af.start (w : World) : Af w (w.alloc (.cells #[.int .i64 0, .int .i64 0] 28)) := ⟨(Below.refl _ _).alloc (Nat.le_refl _) _, by simp, World.alloc_heap_new w _⟩
theorem Af.next {w W W' : World} (h : Af w W) (hb : Below W.heap.size W W') : Af w W' :=
  ⟨h.below.trans (hb.mono (by have := h.lt; omega)), Nat.lt_of_lt_of_le h.lt hb.size, (hb.block _ h.lt).trans h.box⟩
theorem Af.set {w W : World} (h : Af w W) (x y : Int) : Below w.heap.size w ((W.setCell ⟨w.heap.size, 0, none⟩ (.int .i64 x)).setCell ⟨w.heap.size, 1, none⟩ (.int .i64 y)) :=
  (h.below.setCell (p := ⟨w.heap.size, 0, none⟩) (Nat.le_refl _) _).setCell (p := ⟨w.heap.size, 1, none⟩) (Nat.le_refl _) _

set_option maxRecDepth 100000 in
set_option maxHeartbeats 3200000 in
theorem Wrong1 (B g N : Nat) (nm : ByteArray) (l : List Cor) (a : Option Addr) (cap : Nat) (w : World) (hl : Cc B w g a l) (hB : B ≤ w.heap.size) (hcap : l.length ≤ cap)
    (hN : w.heap[N]? = some (.cells #[.string nm, .slice a l.length cap] 39 (0, 0))) :
    Calls Tryd.prog 10 #[.slice (some ⟨N, 0, none⟩) 1 1] w fun e w' => e = .returned (fv (wrongB l, 0)) ∧ Below w.heap.size w w' := by
  have hNl : N < w.heap.size := (Array.getElem?_eq_some_iff.1 hN).1
  have c0 : w.cell? ⟨N, 0, none⟩ = some (.string nm) := by simp [World.cell?, hN]
  have c1 : w.cell? ⟨N, 1, none⟩ = some (.slice a l.length cap) := by simp [World.cell?, hN]
  have WP : Hid (∀ W, Below w.heap.size w W → Calls Tryd.prog 23 #[.agg #[.string nm, .slice a l.length cap]] W fun e w' => e = .returned (.int .i64 (wrongB l)) ∧ Below W.heap.size W w') := fun W hb => wrongPart_any B g nm l a cap W (hl.below (hb.mono hB)) (Nat.le_trans hB hb.size) hcap
  have HA := hidd (Af.start w)
  have hlen := hl.len
  clear hl hB hN
  generalize wrongB l = y at WP ⊢
  go_enter Tryd.func10, Tryd.ntmps10
  go_wp2_with fail
  go_loopw [12] (fun i wr => ∃ j : Nat, j ≤ 1 ∧ i = .int .i64 j ∧ Hid (Af w wr) ∧ Hid (j = 1 → y = 0)) (fun i _ => 1 - (intOf i).toNat)
  case atStart => exact ⟨0, by omega, rfl, HA.out, fun h => by cases h⟩
  case round =>
    clear HA
    obtain ⟨j, hj, rfl, HA, HY⟩ := hrel
    by_cases hlt : j < 1
    · obtain rfl : j = 0 := by omega
      have d0 := (HA.out.below.cell (p := ⟨N, 0, none⟩) hNl).trans c0
      have d1 := (HA.out.below.cell (p := ⟨N, 1, none⟩) hNl).trans c1
      have ba : Below wr.heap.size wr (wr.alloc (.cells #[.string nm, .slice a l.length cap] 39)) := (Below.refl _ _).alloc (Nat.le_refl _) _
      have HA2 := hidd (HA.out.next ba)
      clear ba c0 c1 HY
      go_wp2_with fail
      refine (WP.out _ HA2.out.below).mono ?_
      rintro e w2 ⟨rfl, hb2⟩
      have HA3 := hidd (HA2.out.next hb2)
      have q0 : w2.cell? ⟨w.heap.size, 0, none⟩ = some (.int .i64 0) := by simp [World.cell?, HA3.out.box]
      have q1 : w2.cell? ⟨w.heap.size, 1, none⟩ = some (.int .i64 0) := by simp [World.cell?, HA3.out.box]
      have z0 : w2.frozen? ⟨w.heap.size, 0, none⟩ = false := by simp [World.frozen?, HA3.out.box]
      have z1 : w2.frozen? ⟨w.heap.size, 1, none⟩ = false := by simp [World.frozen?, HA3.out.box]
      clear hb2 HA HA2 d0 d1 WP
      by_cases y0 : y = 0
      · subst y0
        go_wp2_with fail
        go_roundw
        case rel => exact ⟨1, by omega, by go_num, HA3.out, fun _ => by trivial⟩
        case measure => simp [intOf]
      · have y0' : (y != 0) = true := by simpa using y0
        go_wp2_with fail
        refine bodyPost_ret (v := fv (y, 0)) (by simp [results, Tryd.results10, go_sem, fv, q0, q1]) rfl ⟨rfl, HA3.out.set _ _⟩
    · obtain rfl : j = 1 := by omega
      obtain rfl := HY.out rfl
      have q0 : wr.cell? ⟨w.heap.size, 0, none⟩ = some (.int .i64 0) := by simp [World.cell?, HA.out.box]
      have q1 : wr.cell? ⟨w.heap.size, 1, none⟩ = some (.int .i64 0) := by simp [World.cell?, HA.out.box]
      have z0 : wr.frozen? ⟨w.heap.size, 0, none⟩ = false := by simp [World.frozen?, HA.out.box]
      have z1 : wr.frozen? ⟨w.heap.size, 1, none⟩ = false := by simp [World.frozen?, HA.out.box]
      clear WP c0 c1
      go_wp2_with fail
      refine bodyPost_ret (v := fv (0, 0)) (by simp [results, Tryd.results10, go_sem, fv, q0, q1]) rfl ⟨rfl, HA.out.set _ _⟩
end Go.Proofs.YthooljlikllnpaaDoor
