/- Chapter 7: package model at work: what throws; expressions without others in them. Chapter 7: package value: what is reckoned. -/
import Derived.Test.YthooljlikllnpaaDoorK06
namespace Go.Proofs.YthooljlikllnpaaDoor
section
set_option linter.unusedVariables false
set_option linter.unusedSimpArgs false
open Go.RowKit

theorem cellO {w : World} {N q : Nat} {cs : Array Value} {t : TypeId} (h : w.heap[N]? = some (.cells cs t (0, 0))) : w.cell? ⟨N, q, none⟩ = cs[q]? := by simp [World.cell?, h]
theorem looseO {w : World} {N q : Nat} {cs : Array Value} {t : TypeId} (h : w.heap[N]? = some (.cells cs t (0, 0))) : w.frozen? ⟨N, q, none⟩ = false := by simp [World.frozen?, h]
/-- How a run ends, thrown. -/
def endP (how : Int) : List PanicEntry := [{ v := .iface 101 (.agg #[.int .i64 how]), recovered := false }]
set_option maxHeartbeats 800000 in
theorem Must_yes (how : Int) (w : World) : Calls Tryd.prog 39 #[.bool true, .int .i64 how] w fun e w' => e = .returned (.tuple #[]) ∧ w' = w := by
  go_enter Tryd.func39, Tryd.ntmps39
  go_wp2_with fail
  go_end0
  exact ⟨rfl, rfl⟩
set_option maxHeartbeats 800000 in
theorem Must_no (how : Int) (w : World) : Calls Tryd.prog 39 #[.bool false, .int .i64 how] w fun e w' => e = .panicked (endP how) ∧ w' = w := by
  go_enter Tryd.func39, Tryd.ntmps39
  go_wp2_with fail
  exact ⟨rfl, rfl, rfl⟩
/-- The runner: what was put out, the steps that are left, the calls that go on, the globals. -/
def RN (rb : Nat) (tv : Value) (left calls : Int) (gm : Value) (w : World) : Prop := w.heap[rb]? = some (.cells #[tv, .int .i64 left, .int .i64 calls, gm] 59 (0, 0))
set_option maxRecDepth 100000 in
set_option maxHeartbeats 1600000 in
theorem eval_num (rb cb co : Nat) (tv gm fr : Value) (left calls n : Int) (w : World) (hr : RN rb tv left calls gm w) (hl : 0 < left) (hl9 : left ≤ 1000000) (hc : rb ≠ cb)
    (k0 : w.cell? ⟨cb, co, none⟩ = some (.int .i64 1)) (k2 : w.cell? ⟨cb, co + 2, none⟩ = some (.int .i64 n)) :
    Calls Tryd.prog 28 #[.pointer (some ⟨rb, 0, none⟩), .pointer (some ⟨cb, co, none⟩), fr] w fun e w' => e = .returned (.iface 104 (.int .i64 n)) ∧ w' = w.setCell ⟨rb, 1, none⟩ (.int .i64 (left - 1)) := by
  have c1 : w.cell? ⟨rb, 1, none⟩ = some (.int .i64 left) := (cellO hr).trans rfl
  have z1 := looseO (q := 1) hr
  have hg : decide (left > 0) = true := by simp; omega
  have hg' : decide (0 < left) = true := by simp; omega
  go_enter Tryd.func28, Tryd.ntmps28
  go_wp2_with fail
  refine (Must_yes 2 _).mono ?_
  rintro e w1 ⟨rfl, rfl⟩
  go_wp2_with fail
  go_ret
  exact ⟨rfl, rfl⟩
set_option maxRecDepth 100000 in
set_option maxHeartbeats 1600000 in
theorem eval_prim (rb cb co : Nat) (tv gm fr : Value) (left calls : Int) (s : ByteArray) (w : World) (hr : RN rb tv left calls gm w) (hl : 0 < left) (hl9 : left ≤ 1000000) (hc : rb ≠ cb)
    (k0 : w.cell? ⟨cb, co, none⟩ = some (.int .i64 6)) (k4 : w.cell? ⟨cb, co + 4, none⟩ = some (.string s)) :
    Calls Tryd.prog 28 #[.pointer (some ⟨rb, 0, none⟩), .pointer (some ⟨cb, co, none⟩), fr] w fun e w' => e = .returned (.iface 114 (.string s)) ∧ w' = w.setCell ⟨rb, 1, none⟩ (.int .i64 (left - 1)) := by
  have c1 : w.cell? ⟨rb, 1, none⟩ = some (.int .i64 left) := (cellO hr).trans rfl
  have z1 := looseO (q := 1) hr
  have hg : decide (left > 0) = true := by simp; omega
  have hg' : decide (0 < left) = true := by simp; omega
  go_enter Tryd.func28, Tryd.ntmps28
  go_wp2_with fail
  refine (Must_yes 2 _).mono ?_
  rintro e w1 ⟨rfl, rfl⟩
  go_wp2_with fail
  go_ret
  exact ⟨rfl, rfl⟩
theorem assertN (v : Value) (w : World) : (Instr.typeAssert (.iface 104 v) 77 104 true).run Tryd.prog w = .ok (.tuple #[v, .bool true]) w := by
  simp [Instr.typeAssert, run_underlying Tryd.underlying104]
theorem assertP (v : Value) (w : World) : (Instr.typeAssert (.iface 114 v) 77 114 true).run Tryd.prog w = .ok (.tuple #[v, .bool true]) w := by
  simp [Instr.typeAssert, run_underlying Tryd.underlying114]
set_option maxRecDepth 100000 in
set_option maxHeartbeats 800000 in
theorem numberOf_any (n : Int) (w : World) : Calls Tryd.prog 86 #[.iface 104 (.int .i64 n)] w fun e w' => e = .returned (.int .i64 n) ∧ w' = w := by
  have hta := assertN (.int .i64 n)
  go_enter Tryd.func86, Tryd.ntmps86
  go_wp2_with fail
  refine (Must_yes _ _).mono ?_
  rintro e w1 ⟨rfl, rfl⟩
  go_wp2_with fail
  go_ret
  exact ⟨rfl, rfl⟩
def rangeN (n : Int) : Bool := decide (-1000000000000000 ≤ n) && decide (n ≤ 1000000000000000)
set_option maxHeartbeats 800000 in
theorem InRange_any (n : Int) (w : World) : Calls Tryd.prog 63 #[.int .i64 n] w fun e w' => e = .returned (.bool (rangeN n)) ∧ w' = w := by
  by_cases h1 : -1000000000000000 ≤ n
  · have d1 : decide (-1000000000000000 ≤ n) = true := decide_eq_true h1
    have e : rangeN n = decide (n ≤ 1000000000000000) := by unfold rangeN; rw [d1, Bool.true_and]
    rw [e]
    go_enter Tryd.func63, Tryd.ntmps63
    go_wp2_with fail
    go_ret
    exact ⟨by simp, rfl⟩
  · have d1 : decide (-1000000000000000 ≤ n) = false := decide_eq_false h1
    have e : rangeN n = false := by unfold rangeN; rw [d1, Bool.false_and]
    rw [e]
    go_enter Tryd.func63, Tryd.ntmps63
    go_wp2_with fail
    go_ret
    exact ⟨by simp, rfl⟩
/-- A value, or an end. -/
def ValOr (b : Bool) (v : Value) (how : Int) (w : World) (e : Ending) (w' : World) : Prop := w' = w ∧ e = if b then .returned v else .panicked (endP how)
set_option maxHeartbeats 1600000 in
theorem counted_any (n : Int) (w : World) : Calls Tryd.prog 91 #[.int .i64 n] w (ValOr (rangeN n) (.iface 104 (.int .i64 n)) 6 w) := by
  have IR := hidd (fun w => InRange_any n w)
  cases hq : rangeN n
  · rw [hq] at IR
    clear hq
    go_enter Tryd.func91, Tryd.ntmps91
    go_wp2_with fail
    refine (IR.out _).mono ?_
    rintro e w1 ⟨rfl, rfl⟩
    go_wp2_with fail
    refine (Must_no _ _).mono ?_
    rintro e w1 ⟨rfl, rfl⟩
    go_wp2_with fail
    exact ⟨rfl, rfl, rfl⟩
  · rw [hq] at IR
    clear hq
    go_enter Tryd.func91, Tryd.ntmps91
    go_wp2_with fail
    refine (IR.out _).mono ?_
    rintro e w1 ⟨rfl, rfl⟩
    go_wp2_with fail
    refine (Must_yes _ _).mono ?_
    rintro e w1 ⟨rfl, rfl⟩
    go_wp2_with fail
    go_ret
    exact ⟨rfl, rfl⟩
set_option maxHeartbeats 800000 in
theorem size_any (n : Int) (w : World) (h1 : -1000000000000000 ≤ n) (h2 : n ≤ 1000000000000000) : Calls Tryd.prog 97 #[.int .i64 n] w fun e w' => e = .returned (.int .i64 (n.natAbs : Int)) ∧ w' = w := by
  by_cases h0 : 0 ≤ n
  · have e : ((n.natAbs : Nat) : Int) = n := by omega
    rw [e]
    go_enter Tryd.func97, Tryd.ntmps97
    go_wp2_with fail
    go_ret
    exact ⟨by simp; omega, rfl⟩
  · have e : ((n.natAbs : Nat) : Int) = -n := by omega
    rw [e]
    go_enter Tryd.func97, Tryd.ntmps97
    go_wp2_with fail
    go_ret
    exact ⟨by simp; omega, rfl⟩
end
section
set_option linter.unusedVariables false
set_option linter.unusedSimpArgs false
open Go.RowKit

theorem natAbs_mul_le {a b : Int} (h0 : a ≠ 0) : ((b.natAbs : Nat) : Int) ≤ 1000000000000000 / ((a.natAbs : Nat) : Int) ↔ -1000000000000000 ≤ a * b ∧ a * b ≤ 1000000000000000 := by
  have hp : (0 : Int) < ((a.natAbs : Nat) : Int) := by omega
  rw [Int.le_ediv_iff_mul_le hp]
  have e : ((b.natAbs : Nat) : Int) * ((a.natAbs : Nat) : Int) = (((a * b).natAbs : Nat) : Int) := by
    rw [Int.natAbs_mul, Int.natCast_mul, Int.mul_comm]
  rw [e]
  omega
set_option maxRecDepth 100000 in
set_option maxHeartbeats 3200000 in
theorem product_any (a b : Int) (w : World) (h1 : rangeN a = true) (h2 : rangeN b = true) : Calls Tryd.prog 92 #[.int .i64 a, .int .i64 b] w (ValOr (rangeN (a * b)) (.iface 104 (.int .i64 (a * b))) 6 w) := by
  unfold rangeN at h1 h2
  simp only [Bool.and_eq_true, decide_eq_true_eq] at h1 h2
  have SA := hidd (fun w => size_any a w h1.1 h1.2)
  have SB := hidd (fun w => size_any b w h2.1 h2.2)
  by_cases h0 : a = 0
  · subst h0
    have e : rangeN (0 * b) = true := by unfold rangeN; simp
    rw [e]
    clear h1 h2
    go_enter Tryd.func92, Tryd.ntmps92
    go_wp2_with fail
    refine (Must_yes _ _).mono ?_
    rintro e w1 ⟨rfl, rfl⟩
    go_wp2_with fail
    go_ret
    exact ⟨rfl, by simp⟩
  · have hz : (a == 0) = false := by simpa using h0
    have hk := natAbs_mul_le (b := b) h0
    have hna : ((a.natAbs : Nat) : Int) ≠ 0 := by omega
    generalize hx : ((a.natAbs : Nat) : Int) = x at SA hk hna
    generalize hy : ((b.natAbs : Nat) : Int) = y at SB hk
    have hxr : 0 < x ∧ x ≤ 1000000000000000 := by omega
    have hyr : 0 ≤ y ∧ y ≤ 1000000000000000 := by omega
    obtain ⟨d, hd⟩ : ∃ d, d = 1000000000000000 / x := ⟨_, rfl⟩
    have hdv : Int.tdiv 1000000000000000 x = d := by rw [hd]; exact Int.tdiv_eq_ediv_of_nonneg (by omega)
    have hdr : 0 ≤ d ∧ d ≤ 1000000000000000 := by
      rw [hd]
      refine ⟨Int.ediv_nonneg (by omega) (by omega), ?_⟩
      exact Int.ediv_le_self _ (by omega)
    rw [← hd] at hk
    have hx0 : (x == 0) = false := by simp; omega
    clear hx hy h0 hd
    by_cases hr : y ≤ d
    · have hm := hk.1 hr
      have e : rangeN (a * b) = true := by unfold rangeN; simp; exact hm
      rw [e]
      have hr' : decide (y ≤ d) = true := decide_eq_true hr
      clear hk hr
      go_enter Tryd.func92, Tryd.ntmps92
      go_wp2_with fail
      refine (SB.out _).mono ?_
      rintro e w1 ⟨rfl, rfl⟩
      go_wp2_with fail
      refine (SA.out _).mono ?_
      rintro e w1 ⟨rfl, rfl⟩
      go_wp2_with fail
      refine (Must_yes _ _).mono ?_
      rintro e w1 ⟨rfl, rfl⟩
      go_wp2_with fail
      go_ret
      exact ⟨rfl, by simp⟩
    · have e : rangeN (a * b) = false := by
        unfold rangeN
        simp only [Bool.and_eq_false_iff, decide_eq_false_iff_not]
        by_cases h : -1000000000000000 ≤ a * b
        · exact Or.inr (fun h' => hr (hk.2 ⟨h, h'⟩))
        · exact Or.inl h
      rw [e]
      have hr' : decide (y ≤ d) = false := decide_eq_false hr
      clear hk hr
      go_enter Tryd.func92, Tryd.ntmps92
      go_wp2_with fail
      refine (SB.out _).mono ?_
      rintro e w1 ⟨rfl, rfl⟩
      go_wp2_with fail
      refine (SA.out _).mono ?_
      rintro e w1 ⟨rfl, rfl⟩
      go_wp2_with fail
      refine (Must_no _ _).mono ?_
      rintro e w1 ⟨rfl, rfl⟩
      go_wp2_with fail
      exact ⟨rfl, rfl, rfl⟩
/-- Which of the four: sums, differences, products, what is less. -/
def opB : Fin 4 → ByteArray
  | 0 => ⟨#[43]⟩
  | 1 => ⟨#[45]⟩
  | 2 => ⟨#[42]⟩
  | 3 => ⟨#[60]⟩
def opOk (f : Fin 4) (a b : Int) : Bool := match f with | 0 => rangeN (a + b) | 1 => rangeN (a - b) | 2 => rangeN (a * b) | 3 => true
def opV (f : Fin 4) (a b : Int) : Value := match f with | 0 => .iface 104 (.int .i64 (a + b)) | 1 => .iface 104 (.int .i64 (a - b)) | 2 => .iface 104 (.int .i64 (a * b)) | 3 => .iface 105 (.bool (decide (a < b)))
set_option maxRecDepth 100000 in
set_option maxHeartbeats 3200000 in
theorem ofNumbers_any (f : Fin 4) (a b : Int) (w : World) (h1 : rangeN a = true) (h2 : rangeN b = true) : Calls Tryd.prog 85 #[.string (opB f), .int .i64 a, .int .i64 b] w (ValOr (opOk f a b) (opV f a b) 6 w) := by
  have hp := product_any a b w h1 h2
  unfold rangeN at h1 h2
  simp only [Bool.and_eq_true, decide_eq_true_eq] at h1 h2
  have PR := hidd hp
  clear hp
  match f with
  | 0 =>
    have CA := hidd (counted_any (a + b) w)
    show Calls Tryd.prog 85 #[.string ⟨#[43]⟩, .int .i64 a, .int .i64 b] w (ValOr (rangeN (a + b)) (.iface 104 (.int .i64 (a + b))) 6 w)
    generalize rangeN (a + b) = q at CA
    go_enter Tryd.func85, Tryd.ntmps85
    go_wp2_with fail
    refine CA.out.mono ?_
    rintro e w1 ⟨rfl, rfl⟩
    cases q
    · go_wp2_with fail
      exact ⟨rfl, rfl, rfl⟩
    · go_wp2_with fail
      go_ret
      exact ⟨rfl, rfl⟩
  | 1 =>
    have CA := hidd (counted_any (a - b) w)
    show Calls Tryd.prog 85 #[.string ⟨#[45]⟩, .int .i64 a, .int .i64 b] w (ValOr (rangeN (a - b)) (.iface 104 (.int .i64 (a - b))) 6 w)
    generalize rangeN (a - b) = q at CA
    go_enter Tryd.func85, Tryd.ntmps85
    go_wp2_with fail
    refine CA.out.mono ?_
    rintro e w1 ⟨rfl, rfl⟩
    cases q
    · go_wp2_with fail
      exact ⟨rfl, rfl, rfl⟩
    · go_wp2_with fail
      go_ret
      exact ⟨rfl, rfl⟩
  | 2 =>
    show Calls Tryd.prog 85 #[.string ⟨#[42]⟩, .int .i64 a, .int .i64 b] w (ValOr (rangeN (a * b)) (.iface 104 (.int .i64 (a * b))) 6 w)
    generalize rangeN (a * b) = q at PR
    go_enter Tryd.func85, Tryd.ntmps85
    go_wp2_with fail
    refine PR.out.mono ?_
    rintro e w1 ⟨rfl, rfl⟩
    cases q
    · go_wp2_with fail
      exact ⟨rfl, rfl, rfl⟩
    · go_wp2_with fail
      go_ret
      exact ⟨rfl, rfl⟩
  | 3 =>
    show Calls Tryd.prog 85 #[.string ⟨#[60]⟩, .int .i64 a, .int .i64 b] w (ValOr true (.iface 105 (.bool (decide (a < b)))) 6 w)
    go_enter Tryd.func85, Tryd.ntmps85
    go_wp2_with fail
    go_ret
    exact ⟨rfl, rfl⟩
end
end Go.Proofs.YthooljlikllnpaaDoor
