/- Chapter 7: package model at work: what throws; expressions without others in them. -/
import Derived.Test.YthooljlikllnpaaDoorK11
namespace Go.Proofs.YthooljlikllnpaaDoor
set_option linter.unusedVariables false
set_option linter.unusedSimpArgs false
open Go.RowKit

theorem cellO {w : World} {N q : Nat} {cs : Array Value} {t : TypeId} (h : w.heap[N]? = some (.cells cs t (0, 0))) : w.cell? ⟨N, q, none⟩ = cs[q]? := by simp [World.cell?, h]
theorem looseO {w : World} {N q : Nat} {cs : Array Value} {t : TypeId} (h : w.heap[N]? = some (.cells cs t (0, 0))) : w.frozen? ⟨N, q, none⟩ = false := by simp [World.frozen?, h]
/-- How a run ends, thrown. -/
def endP (how : Int) : List PanicEntry := [{ v := .iface 101 (.agg #[.int .i64 how]), recovered := false }]
set_option maxHeartbeats 800000 in
theorem Must_yes (how : Int) (w : World) : Calls Tryd.prog 39 #[.bool true, .int .i64 how] w fun e w' => e = .returned (.tuple #[]) ∧ w' = w := by
  go_enter Tryd.func39, Tryd.ntmps39
  go_wp2_with fail
  go_end0
  exact ⟨rfl, rfl⟩
set_option maxHeartbeats 800000 in
theorem Must_no (how : Int) (w : World) : Calls Tryd.prog 39 #[.bool false, .int .i64 how] w fun e w' => e = .panicked (endP how) ∧ w' = w := by
  go_enter Tryd.func39, Tryd.ntmps39
  go_wp2_with fail
  exact ⟨rfl, rfl, rfl⟩
/-- The runner: what was put out, the steps that are left, the calls that go on, the globals. -/
def RN (rb : Nat) (tv : Value) (left calls : Int) (gm : Value) (w : World) : Prop := w.heap[rb]? = some (.cells #[tv, .int .i64 left, .int .i64 calls, gm] 59 (0, 0))
set_option maxRecDepth 100000 in
set_option maxHeartbeats 1600000 in
theorem eval_num (rb cb co : Nat) (tv gm fr : Value) (left calls n : Int) (w : World) (hr : RN rb tv left calls gm w) (hl : 0 < left) (hl9 : left ≤ 1000000) (hc : rb ≠ cb)
    (k0 : w.cell? ⟨cb, co, none⟩ = some (.int .i64 1)) (k2 : w.cell? ⟨cb, co + 2, none⟩ = some (.int .i64 n)) :
    Calls Tryd.prog 28 #[.pointer (some ⟨rb, 0, none⟩), .pointer (some ⟨cb, co, none⟩), fr] w fun e w' => e = .returned (.iface 104 (.int .i64 n)) ∧ w' = w.setCell ⟨rb, 1, none⟩ (.int .i64 (left - 1)) := by
  have c1 : w.cell? ⟨rb, 1, none⟩ = some (.int .i64 left) := (cellO hr).trans rfl
  have z1 := looseO (q := 1) hr
  have hg : decide (left > 0) = true := by simp; omega
  have hg' : decide (0 < left) = true := by simp; omega
  go_enter Tryd.func28, Tryd.ntmps28
  go_wp2_with fail
  refine (Must_yes 2 _).mono ?_
  rintro e w1 ⟨rfl, rfl⟩
  go_wp2_with fail
  go_ret
  exact ⟨rfl, rfl⟩
set_option maxRecDepth 100000 in
set_option maxHeartbeats 1600000 in
theorem eval_prim (rb cb co : Nat) (tv gm fr : Value) (left calls : Int) (s : ByteArray) (w : World) (hr : RN rb tv left calls gm w) (hl : 0 < left) (hl9 : left ≤ 1000000) (hc : rb ≠ cb)
    (k0 : w.cell? ⟨cb, co, none⟩ = some (.int .i64 6)) (k4 : w.cell? ⟨cb, co + 4, none⟩ = some (.string s)) :
    Calls Tryd.prog 28 #[.pointer (some ⟨rb, 0, none⟩), .pointer (some ⟨cb, co, none⟩), fr] w fun e w' => e = .returned (.iface 114 (.string s)) ∧ w' = w.setCell ⟨rb, 1, none⟩ (.int .i64 (left - 1)) := by
  have c1 : w.cell? ⟨rb, 1, none⟩ = some (.int .i64 left) := (cellO hr).trans rfl
  have z1 := looseO (q := 1) hr
  have hg : decide (left > 0) = true := by simp; omega
  have hg' : decide (0 < left) = true := by simp; omega
  go_enter Tryd.func28, Tryd.ntmps28
  go_wp2_with fail
  refine (Must_yes 2 _).mono ?_
  rintro e w1 ⟨rfl, rfl⟩
  go_wp2_with fail
  go_ret
  exact ⟨rfl, rfl⟩
theorem assertN (v : Value) (w : World) : (Instr.typeAssert (.iface 104 v) 77 104 true).run Tryd.prog w = .ok (.tuple #[v, .bool true]) w := by
  simp [Instr.typeAssert, run_underlying Tryd.underlying104]
theorem assertP (v : Value) (w : World) : (Instr.typeAssert (.iface 114 v) 77 114 true).run Tryd.prog w = .ok (.tuple #[v, .bool true]) w := by
  simp [Instr.typeAssert, run_underlying Tryd.underlying114]
set_option maxRecDepth 100000 in
set_option maxHeartbeats 800000 in
theorem numberOf_any (n : Int) (w : World) : Calls Tryd.prog 86 #[.iface 104 (.int .i64 n)] w fun e w' => e = .returned (.int .i64 n) ∧ w' = w := by
  have hta := assertN (.int .i64 n)
  go_enter Tryd.func86, Tryd.ntmps86
  go_wp2_with fail
  refine (Must_yes _ _).mono ?_
  rintro e w1 ⟨rfl, rfl⟩
  go_wp2_with fail
  go_ret
  exact ⟨rfl, rfl⟩
def rangeN (n : Int) : Bool := decide (-1000000000000000 ≤ n) && decide (n ≤ 1000000000000000)
set_option maxHeartbeats 800000 in
theorem InRange_any (n : Int) (w : World) : Calls Tryd.prog 63 #[.int .i64 n] w fun e w' => e = .returned (.bool (rangeN n)) ∧ w' = w := by
  by_cases h1 : -1000000000000000 ≤ n
  · have d1 : decide (-1000000000000000 ≤ n) = true := decide_eq_true h1
    have e : rangeN n = decide (n ≤ 1000000000000000) := by unfold rangeN; rw [d1, Bool.true_and]
    rw [e]
    go_enter Tryd.func63, Tryd.ntmps63
    go_wp2_with fail
    go_ret
    exact ⟨by simp, rfl⟩
  · have d1 : decide (-1000000000000000 ≤ n) = false := decide_eq_false h1
    have e : rangeN n = false := by unfold rangeN; rw [d1, Bool.false_and]
    rw [e]
    go_enter Tryd.func63, Tryd.ntmps63
    go_wp2_with fail
    go_ret
    exact ⟨by simp, rfl⟩
/-- A value, or an end. -/
def ValOr (b : Bool) (v : Value) (how : Int) (w : World) (e : Ending) (w' : World) : Prop := w' = w ∧ e = if b then .returned v else .panicked (endP how)
set_option maxHeartbeats 1600000 in
theorem counted_any (n : Int) (w : World) : Calls Tryd.prog 91 #[.int .i64 n] w (ValOr (rangeN n) (.iface 104 (.int .i64 n)) 6 w) := by
  have IR := hidd (fun w => InRange_any n w)
  cases hq : rangeN n
  · rw [hq] at IR
    clear hq
    go_enter Tryd.func91, Tryd.ntmps91
    go_wp2_with fail
    refine (IR.out _).mono ?_
    rintro e w1 ⟨rfl, rfl⟩
    go_wp2_with fail
    refine (Must_no _ _).mono ?_
    rintro e w1 ⟨rfl, rfl⟩
    go_wp2_with fail
    exact ⟨rfl, rfl, rfl⟩
  · rw [hq] at IR
    clear hq
    go_enter Tryd.func91, Tryd.ntmps91
    go_wp2_with fail
    refine (IR.out _).mono ?_
    rintro e w1 ⟨rfl, rfl⟩
    go_wp2_with fail
    refine (Must_yes _ _).mono ?_
    rintro e w1 ⟨rfl, rfl⟩
    go_wp2_with fail
    go_ret
    exact ⟨rfl, rfl⟩
set_option maxHeartbeats 800000 in
theorem size_any (n : Int) (w : World) (h1 : -1000000000000000 ≤ n) (h2 : n ≤ 1000000000000000) : Calls Tryd.prog 97 #[.int .i64 n] w fun e w' => e = .returned (.int .i64 (n.natAbs : Int)) ∧ w' = w := by
  by_cases h0 : 0 ≤ n
  · have e : ((n.natAbs : Nat) : Int) = n := by omega
    rw [e]
    go_enter Tryd.func97, Tryd.ntmps97
    go_wp2_with fail
    go_ret
    exact ⟨by simp; omega, rfl⟩
  · have e : ((n.natAbs : Nat) : Int) = -n := by omega
    rw [e]
    go_enter Tryd.func97, Tryd.ntmps97
    go_wp2_with fail
    go_ret
    exact ⟨by simp; omega, rfl⟩
end Go.Proofs.YthooljlikllnpaaDoor
