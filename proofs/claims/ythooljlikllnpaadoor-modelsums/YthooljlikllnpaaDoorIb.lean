/- Chapter 7: ModelSums: the law's walk, at any numbers. -/
import Derived.Test.YthooljlikllnpaaDoorIa
namespace Go.Proofs.YthooljlikllnpaaDoor
set_option linter.unusedVariables false
set_option linter.unusedSimpArgs false
open Go.RowKit

theorem start_sums (T : Nat) (a b : Int) (w : World) (ht : Tab T w) (hT : T ≤ w.heap.size) : Calls Tryd.prog 13 #[] ((w.alloc (.cells #[.int .i64 a] 2)).alloc (.cells #[.int .i64 b] 2)) fun e w' => e = .returned (.bool true) ∧ Below w.heap.size w w' ∧ w'.cell? ⟨w.heap.size, 0, none⟩ = some (.int .i64 a) ∧ w'.cell? ⟨w.heap.size + 1, 0, none⟩ = some (.int .i64 b) := by
  have hb0 : Below w.heap.size w ((w.alloc (.cells #[.int .i64 a] 2)).alloc (.cells #[.int .i64 b] 2)) := ((Below.refl _ _).alloc (Nat.le_refl _) _).alloc (by simp) _
  have a0 : ((w.alloc (.cells #[.int .i64 a] 2)).alloc (.cells #[.int .i64 b] 2)).heap[w.heap.size]? = some (.cells #[.int .i64 a] 2 (0, 0)) := by rw [Below.heap_alloc _ _ _ (alloc_lt _ _)]; exact World.alloc_heap_new w _
  have a1 : ((w.alloc (.cells #[.int .i64 a] 2)).alloc (.cells #[.int .i64 b] 2)).heap[w.heap.size + 1]? = some (.cells #[.int .i64 b] 2 (0, 0)) := by
    have := World.alloc_heap_new (w.alloc (.cells #[.int .i64 a] 2)) (.cells #[.int .i64 b] 2)
    simpa using this
  have k0 : ((w.alloc (.cells #[.int .i64 a] 2)).alloc (.cells #[.int .i64 b] 2)).cell? ⟨w.heap.size, 0, none⟩ = some (.int .i64 a) := (cellO a0).trans rfl
  have k1 : ((w.alloc (.cells #[.int .i64 a] 2)).alloc (.cells #[.int .i64 b] 2)).cell? ⟨w.heap.size + 1, 0, none⟩ = some (.int .i64 b) := (cellO a1).trans rfl
  refine (alive_any T _ (ht.below (hb0.mono hT)) (Nat.le_trans hT hb0.size)).mono ?_
  rintro e w' ⟨rfl, hb⟩
  exact ⟨rfl, hb0.trans (hb.mono hb0.size), (hb.cell (p := ⟨w.heap.size, 0, none⟩) (cell_lt k0)).trans k0, (hb.cell (p := ⟨w.heap.size + 1, 0, none⟩) (cell_lt k1)).trans k1⟩
set_option maxRecDepth 100000 in
set_option maxHeartbeats 3200000 in
theorem ModelSums_any (T : Nat) (a b : Int) (w : World) (ht : Tab T w) (hT : T ≤ w.heap.size) : Calls Tryd.prog 7 #[.int .i64 a, .int .i64 b] w fun e w' => e = .returned (.bool true) ∧ Below w.heap.size w w' := by
  cases h1 : rangeN a
  case true =>
    cases h2 : rangeN b
    case true => exact ModelSums_in T a b w ht hT h1 h2
    case false =>
      unfold rangeN at h1 h2
      simp only [Bool.and_eq_true, decide_eq_true_eq] at h1
      simp only [Bool.and_eq_false_iff, decide_eq_false_iff_not] at h2
      have d1 : decide (a > 1000000000000000) = false := by simp; omega
      have d1' : decide (1000000000000000 < a) = false := by simp; omega
      have d2 : decide (a < -1000000000000000) = false := by simp; omega
      by_cases hg : b > 1000000000000000
      · have d3 : decide (b > 1000000000000000) = true := by simpa using hg
        have d3' : decide (1000000000000000 < b) = true := by simpa using hg
        clear h1 h2 hg
        have HX := hidd (start_sums T a b w ht hT)
        clear ht hT
        obtain ⟨W0, hW0⟩ : ∃ W0, W0 = (w.alloc (.cells #[.int .i64 a] 2)).alloc (.cells #[.int .i64 b] 2) := ⟨_, rfl⟩
        rw [← hW0] at HX
        have hw0 := hW0.symm
        clear hW0
        go_enter Tryd.func7, Tryd.ntmps7
        go_wp2_with fail
        refine HX.out.mono ?_
        rintro e w1 ⟨rfl, hb1, c0, c1⟩
        go_wp2_with fail
        go_ret
        exact ⟨rfl, hb1⟩
      · have hl : b < -1000000000000000 := by omega
        have d3 : decide (b > 1000000000000000) = false := by simpa using hg
        have d3' : decide (1000000000000000 < b) = false := by simpa using hg
        have d4 : decide (b < -1000000000000000) = true := by simpa using hl
        clear h1 h2 hg hl
        have HX := hidd (start_sums T a b w ht hT)
        clear ht hT
        obtain ⟨W0, hW0⟩ : ∃ W0, W0 = (w.alloc (.cells #[.int .i64 a] 2)).alloc (.cells #[.int .i64 b] 2) := ⟨_, rfl⟩
        rw [← hW0] at HX
        have hw0 := hW0.symm
        clear hW0
        go_enter Tryd.func7, Tryd.ntmps7
        go_wp2_with fail
        refine HX.out.mono ?_
        rintro e w1 ⟨rfl, hb1, c0, c1⟩
        go_wp2_with fail
        go_ret
        exact ⟨rfl, hb1⟩
  case false =>
    unfold rangeN at h1
    simp only [Bool.and_eq_false_iff, decide_eq_false_iff_not] at h1
    by_cases hg : a > 1000000000000000
    · have d1 : decide (a > 1000000000000000) = true := by simpa using hg
      have d1' : decide (1000000000000000 < a) = true := by simpa using hg
      clear h1 hg
      have HX := hidd (start_sums T a b w ht hT)
      clear ht hT
      obtain ⟨W0, hW0⟩ : ∃ W0, W0 = (w.alloc (.cells #[.int .i64 a] 2)).alloc (.cells #[.int .i64 b] 2) := ⟨_, rfl⟩
      rw [← hW0] at HX
      have hw0 := hW0.symm
      clear hW0
      go_enter Tryd.func7, Tryd.ntmps7
      go_wp2_with fail
      refine HX.out.mono ?_
      rintro e w1 ⟨rfl, hb1, c0, c1⟩
      go_wp2_with fail
      go_ret
      exact ⟨rfl, hb1⟩
    · have hl : a < -1000000000000000 := by omega
      have d1 : decide (a > 1000000000000000) = false := by simpa using hg
      have d1' : decide (1000000000000000 < a) = false := by simpa using hg
      have d2 : decide (a < -1000000000000000) = true := by simpa using hl
      clear h1 hg hl
      have HX := hidd (start_sums T a b w ht hT)
      clear ht hT
      obtain ⟨W0, hW0⟩ : ∃ W0, W0 = (w.alloc (.cells #[.int .i64 a] 2)).alloc (.cells #[.int .i64 b] 2) := ⟨_, rfl⟩
      rw [← hW0] at HX
      have hw0 := hW0.symm
      clear hW0
      go_enter Tryd.func7, Tryd.ntmps7
      go_wp2_with fail
      refine HX.out.mono ?_
      rintro e w1 ⟨rfl, hb1, c0, c1⟩
      go_wp2_with fail
      go_ret
      exact ⟨rfl, hb1⟩
end Go.Proofs.YthooljlikllnpaaDoor
