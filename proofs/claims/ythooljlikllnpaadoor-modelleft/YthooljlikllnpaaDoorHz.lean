/- Chapter 7: ModelSums: its function fits; the law's walk. -/
import Derived.Test.YthooljlikllnpaaDoorHy
namespace Go.Proofs.YthooljlikllnpaaDoor
set_option linter.unusedVariables false
set_option linter.unusedSimpArgs false
open Go.RowKit

set_option maxRecDepth 100000 in
set_option maxHeartbeats 800000 in
theorem Num_any (n : Int) (w : World) : Calls Tryd.prog 18 #[.int .i64 n] w fun e w' => e = .returned (.agg #[.int .i64 1, .int .i64 n, .string ⟨#[]⟩, .int .i64 0, .int .i64 0, .slice none 0 0]) ∧ Below w.heap.size w w' := by
  go_enter Tryd.func18, Tryd.ntmps18
  go_wp2_with fail
  exact bodyPost_ret (v := .agg #[.int .i64 1, .int .i64 n, .string ⟨#[]⟩, .int .i64 0, .int .i64 0, .slice none 0 0]) (by simp [results, Tryd.results18, go_sem]) rfl ⟨rfl, (Below.refl _ _).alloc (Nat.le_refl _) _⟩
set_option maxRecDepth 100000 in
set_option maxHeartbeats 1600000 in
theorem Text_num (T : Nat) (n : Int) (h0 : -9223372036854775808 ≤ n) (h1 : n ≤ 9223372036854775807) (w : World) (ht : Tab T w) (hT : T ≤ w.heap.size) : Calls Tryd.prog 17 #[.agg #[.int .i64 1, .int .i64 n, .string ⟨#[]⟩, .int .i64 0, .int .i64 0, .slice none 0 0]] w fun e w' => e = .returned (.string ⟨(Lib.itoa n).toArray⟩) ∧ Below w.heap.size w w' := by
  have HB : Hid (Below w.heap.size w (w.alloc (.cells #[.int .i64 1, .int .i64 n, .string ⟨#[]⟩, .int .i64 0, .int .i64 0, .slice none 0 0] 43))) := (Below.refl _ _).alloc (Nat.le_refl _) _
  have FI := hidd (FormatInt_any T n h0 h1 _ (ht.below (HB.out.mono hT)))
  generalize Lib.itoa n = s at *
  clear ht hT h0 h1
  go_enter Tryd.func17, Tryd.ntmps17
  go_wp2_with fail
  refine FI.out.mono ?_
  rintro e w1 ⟨rfl, hb1⟩
  go_wp2_with fail
  go_ret
  exact ⟨rfl, HB.out.trans (hb1.mono HB.out.size)⟩
set_option maxRecDepth 100000 in
set_option maxHeartbeats 1600000 in
theorem fits_true (T : Nat) (n : Int) (h0 : -9223372036854775808 ≤ n) (h1 : n ≤ 9223372036854775807) (w : World) (ht : Tab T w) (hT : T ≤ w.heap.size) :
    Calls Tryd.prog 20 #[.int .i64 n, .string ⟨(if rangeN n then Lib.itoa n else []).toArray⟩, .int .i64 (if rangeN n then 1 else 6)] w fun e w' => e = .returned (.bool true) ∧ Below w.heap.size w w' := by
  have HN := hidd (Num_any n)
  have HX : Hid (∀ W, Below w.heap.size w W → Calls Tryd.prog 17 #[.agg #[.int .i64 1, .int .i64 n, .string ⟨#[]⟩, .int .i64 0, .int .i64 0, .slice none 0 0]] W fun e w' => e = .returned (.string ⟨(Lib.itoa n).toArray⟩) ∧ Below W.heap.size W w') := fun W hb => Text_num T n h0 h1 W (ht.below (hb.mono hT)) (Nat.le_trans hT hb.size)
  generalize Lib.itoa n = s at *
  clear ht hT h0 h1
  cases hr : rangeN n
  · unfold rangeN at hr
    by_cases hg : n > 1000000000000000
    · have d1 : decide (n > 1000000000000000) = true := by simpa using hg
      have d1' : decide (1000000000000000 < n) = true := by simpa using hg
      clear hr hg
      go_enter Tryd.func20, Tryd.ntmps20
      go_wp2_with fail
      go_ret
      exact ⟨rfl, Below.refl _ _⟩
    · have hl : n < -1000000000000000 := by
        simp only [Bool.and_eq_false_iff, decide_eq_false_iff_not] at hr
        omega
      have d1 : decide (n > 1000000000000000) = false := by simpa using hg
      have d1' : decide (1000000000000000 < n) = false := by simpa using hg
      have d2 : decide (n < -1000000000000000) = true := by simpa using hl
      clear hr hg hl
      go_enter Tryd.func20, Tryd.ntmps20
      go_wp2_with fail
      go_ret
      exact ⟨rfl, Below.refl _ _⟩
  · unfold rangeN at hr
    simp only [Bool.and_eq_true, decide_eq_true_eq] at hr
    have d1 : decide (n > 1000000000000000) = false := by simp; omega
    have d1' : decide (1000000000000000 < n) = false := by simp; omega
    have d2 : decide (n < -1000000000000000) = false := by simp; omega
    clear hr
    go_enter Tryd.func20, Tryd.ntmps20
    go_wp2_with fail
    refine (HN.out _).mono ?_
    rintro e w1 ⟨rfl, hb1⟩
    go_wp2_with fail
    refine (HX.out _ hb1).mono ?_
    rintro e w2 ⟨rfl, hb2⟩
    go_wp2_with fail
    go_ret
    exact ⟨rfl, hb1.trans (hb2.mono hb1.size)⟩
end Go.Proofs.YthooljlikllnpaaDoor
