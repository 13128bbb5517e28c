/- Chapter 7: package value: what is reckoned. -/
import Derived.Test.YthooljlikllnpaaDoorK12
namespace Go.Proofs.YthooljlikllnpaaDoor
set_option linter.unusedVariables false
set_option linter.unusedSimpArgs false
open Go.RowKit

theorem natAbs_mul_le {a b : Int} (h0 : a ≠ 0) : ((b.natAbs : Nat) : Int) ≤ 1000000000000000 / ((a.natAbs : Nat) : Int) ↔ -1000000000000000 ≤ a * b ∧ a * b ≤ 1000000000000000 := by
  have hp : (0 : Int) < ((a.natAbs : Nat) : Int) := by omega
  rw [Int.le_ediv_iff_mul_le hp]
  have e : ((b.natAbs : Nat) : Int) * ((a.natAbs : Nat) : Int) = (((a * b).natAbs : Nat) : Int) := by
    rw [Int.natAbs_mul, Int.natCast_mul, Int.mul_comm]
  rw [e]
  omega
set_option maxRecDepth 100000 in
set_option maxHeartbeats 3200000 in
theorem product_any (a b : Int) (w : World) (h1 : rangeN a = true) (h2 : rangeN b = true) : Calls Tryd.prog 92 #[.int .i64 a, .int .i64 b] w (ValOr (rangeN (a * b)) (.iface 104 (.int .i64 (a * b))) 6 w) := by
  unfold rangeN at h1 h2
  simp only [Bool.and_eq_true, decide_eq_true_eq] at h1 h2
  have SA := hidd (fun w => size_any a w h1.1 h1.2)
  have SB := hidd (fun w => size_any b w h2.1 h2.2)
  by_cases h0 : a = 0
  · subst h0
    have e : rangeN (0 * b) = true := by unfold rangeN; simp
    rw [e]
    clear h1 h2
    go_enter Tryd.func92, Tryd.ntmps92
    go_wp2_with fail
    refine (Must_yes _ _).mono ?_
    rintro e w1 ⟨rfl, rfl⟩
    go_wp2_with fail
    go_ret
    exact ⟨rfl, by simp⟩
  · have hz : (a == 0) = false := by simpa using h0
    have hk := natAbs_mul_le (b := b) h0
    have hna : ((a.natAbs : Nat) : Int) ≠ 0 := by omega
    generalize hx : ((a.natAbs : Nat) : Int) = x at SA hk hna
    generalize hy : ((b.natAbs : Nat) : Int) = y at SB hk
    have hxr : 0 < x ∧ x ≤ 1000000000000000 := by omega
    have hyr : 0 ≤ y ∧ y ≤ 1000000000000000 := by omega
    obtain ⟨d, hd⟩ : ∃ d, d = 1000000000000000 / x := ⟨_, rfl⟩
    have hdv : Int.tdiv 1000000000000000 x = d := by rw [hd]; exact Int.tdiv_eq_ediv_of_nonneg (by omega)
    have hdr : 0 ≤ d ∧ d ≤ 1000000000000000 := by
      rw [hd]
      refine ⟨Int.ediv_nonneg (by omega) (by omega), ?_⟩
      exact Int.ediv_le_self _ (by omega)
    rw [← hd] at hk
    have hx0 : (x == 0) = false := by simp; omega
    clear hx hy h0 hd
    by_cases hr : y ≤ d
    · have hm := hk.1 hr
      have e : rangeN (a * b) = true := by unfold rangeN; simp; exact hm
      rw [e]
      have hr' : decide (y ≤ d) = true := decide_eq_true hr
      clear hk hr
      go_enter Tryd.func92, Tryd.ntmps92
      go_wp2_with fail
      refine (SB.out _).mono ?_
      rintro e w1 ⟨rfl, rfl⟩
      go_wp2_with fail
      refine (SA.out _).mono ?_
      rintro e w1 ⟨rfl, rfl⟩
      go_wp2_with fail
      refine (Must_yes _ _).mono ?_
      rintro e w1 ⟨rfl, rfl⟩
      go_wp2_with fail
      go_ret
      exact ⟨rfl, by simp⟩
    · have e : rangeN (a * b) = false := by
        unfold rangeN
        simp only [Bool.and_eq_false_iff, decide_eq_false_iff_not]
        by_cases h : -1000000000000000 ≤ a * b
        · exact Or.inr (fun h' => hr (hk.2 ⟨h, h'⟩))
        · exact Or.inl h
      rw [e]
      have hr' : decide (y ≤ d) = false := decide_eq_false hr
      clear hk hr
      go_enter Tryd.func92, Tryd.ntmps92
      go_wp2_with fail
      refine (SB.out _).mono ?_
      rintro e w1 ⟨rfl, rfl⟩
      go_wp2_with fail
      refine (SA.out _).mono ?_
      rintro e w1 ⟨rfl, rfl⟩
      go_wp2_with fail
      refine (Must_no _ _).mono ?_
      rintro e w1 ⟨rfl, rfl⟩
      go_wp2_with fail
      exact ⟨rfl, rfl, rfl⟩
/-- Which of the four: sums, differences, products, what is less. -/
def opB : Fin 4 → ByteArray
  | 0 => ⟨#[43]⟩
  | 1 => ⟨#[45]⟩
  | 2 => ⟨#[42]⟩
  | 3 => ⟨#[60]⟩
def opOk (f : Fin 4) (a b : Int) : Bool := match f with | 0 => rangeN (a + b) | 1 => rangeN (a - b) | 2 => rangeN (a * b) | 3 => true
def opV (f : Fin 4) (a b : Int) : Value := match f with | 0 => .iface 104 (.int .i64 (a + b)) | 1 => .iface 104 (.int .i64 (a - b)) | 2 => .iface 104 (.int .i64 (a * b)) | 3 => .iface 105 (.bool (decide (a < b)))
set_option maxRecDepth 100000 in
set_option maxHeartbeats 3200000 in
theorem ofNumbers_any (f : Fin 4) (a b : Int) (w : World) (h1 : rangeN a = true) (h2 : rangeN b = true) : Calls Tryd.prog 85 #[.string (opB f), .int .i64 a, .int .i64 b] w (ValOr (opOk f a b) (opV f a b) 6 w) := by
  have hp := product_any a b w h1 h2
  unfold rangeN at h1 h2
  simp only [Bool.and_eq_true, decide_eq_true_eq] at h1 h2
  have PR := hidd hp
  clear hp
  match f with
  | 0 =>
    have CA := hidd (counted_any (a + b) w)
    show Calls Tryd.prog 85 #[.string ⟨#[43]⟩, .int .i64 a, .int .i64 b] w (ValOr (rangeN (a + b)) (.iface 104 (.int .i64 (a + b))) 6 w)
    generalize rangeN (a + b) = q at CA
    go_enter Tryd.func85, Tryd.ntmps85
    go_wp2_with fail
    refine CA.out.mono ?_
    rintro e w1 ⟨rfl, rfl⟩
    cases q
    · go_wp2_with fail
      exact ⟨rfl, rfl, rfl⟩
    · go_wp2_with fail
      go_ret
      exact ⟨rfl, rfl⟩
  | 1 =>
    have CA := hidd (counted_any (a - b) w)
    show Calls Tryd.prog 85 #[.string ⟨#[45]⟩, .int .i64 a, .int .i64 b] w (ValOr (rangeN (a - b)) (.iface 104 (.int .i64 (a - b))) 6 w)
    generalize rangeN (a - b) = q at CA
    go_enter Tryd.func85, Tryd.ntmps85
    go_wp2_with fail
    refine CA.out.mono ?_
    rintro e w1 ⟨rfl, rfl⟩
    cases q
    · go_wp2_with fail
      exact ⟨rfl, rfl, rfl⟩
    · go_wp2_with fail
      go_ret
      exact ⟨rfl, rfl⟩
  | 2 =>
    show Calls Tryd.prog 85 #[.string ⟨#[42]⟩, .int .i64 a, .int .i64 b] w (ValOr (rangeN (a * b)) (.iface 104 (.int .i64 (a * b))) 6 w)
    generalize rangeN (a * b) = q at PR
    go_enter Tryd.func85, Tryd.ntmps85
    go_wp2_with fail
    refine PR.out.mono ?_
    rintro e w1 ⟨rfl, rfl⟩
    cases q
    · go_wp2_with fail
      exact ⟨rfl, rfl, rfl⟩
    · go_wp2_with fail
      go_ret
      exact ⟨rfl, rfl⟩
  | 3 =>
    show Calls Tryd.prog 85 #[.string ⟨#[60]⟩, .int .i64 a, .int .i64 b] w (ValOr true (.iface 105 (.bool (decide (a < b)))) 6 w)
    go_enter Tryd.func85, Tryd.ntmps85
    go_wp2_with fail
    go_ret
    exact ⟨rfl, rfl⟩
end Go.Proofs.YthooljlikllnpaaDoor
