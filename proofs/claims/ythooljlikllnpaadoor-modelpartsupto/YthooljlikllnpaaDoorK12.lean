/- Chapter 7: package model: what is thrown is caught. -/
import Derived.Test.YthooljlikllnpaaDoorK11
import Derived.Defers
import Derived.Recover
namespace Go.Proofs.YthooljlikllnpaaDoor
set_option linter.unusedVariables false
set_option linter.unusedSimpArgs false
open Go.RowKit

theorem assert_ended (v : Value) (w : World) : (Instr.typeAssert (.iface 101 v) 20 101 true).run Tryd.prog w = .ok (.tuple #[v, .bool true]) w := by
  simp [Instr.typeAssert, run_underlying Tryd.underlying101]
set_option maxRecDepth 100000 in
set_option maxHeartbeats 800000 in
theorem Ended_any (how : Int) (w : World) :
    Calls Tryd.prog 27 #[.iface 101 (.agg #[.int .i64 how])] w fun e w' => e = .returned (.int .i64 how) ∧ Below w.heap.size w w' := by
  have hta := assert_ended (.agg #[.int .i64 how])
  go_enter Tryd.func27, Tryd.ntmps27
  go_wp2_with fail
  go_ret
  exact ⟨rfl, (Below.refl _ _).alloc (Nat.le_refl _) _⟩
set_option maxRecDepth 100000 in
set_option maxHeartbeats 1600000 in
theorem catch_ended (N : Nat) (how y : Int) (w : World) (hN : N < w.heap.size) (q0 : w.cell? ⟨N, 0, none⟩ = some (.int .i64 y)) (z0 : w.frozen? ⟨N, 0, none⟩ = false) :
    CallsD Tryd.prog 26 #[.pointer (some ⟨N, 0, none⟩)] (.panicking (endP how)) w fun e u' w' =>
      e = .returned (.tuple #[]) ∧ u' = .panicking [{ v := .iface 101 (.agg #[.int .i64 how]), recovered := true }] ∧ ∃ w1, Below w.heap.size w w1 ∧ w' = w1.setCell ⟨N, 0, none⟩ (.int .i64 how) := by
  unfold endP
  refine callsD_of_wpS Tryd.func26 rfl fun c₀ cs hu => ?_
  apply wpS_seq
  apply wpS_region
  simp [wpOpsS, go_sem, recoverD, hu, Tryd.ntmps26, Exit.thenS]
  refine wpS_of_wp ?_
  have harr : #[Value.pointer (some { block := N, off := 0 })] ++ ((Array.replicate 6 undef).setIfInBounds 1 (Value.iface 101 (Value.agg #[Value.int IntKind.i64 how]))).setIfInBounds 0 (Value.iface 101 (Value.agg #[Value.int IntKind.i64 how])) = #[Value.pointer (some { block := N, off := 0 }), Value.iface 101 (Value.agg #[Value.int IntKind.i64 how]), Value.iface 101 (Value.agg #[Value.int IntKind.i64 how]), undef, undef, undef, undef] := rfl
  rw [harr]
  have CA : Hid (∀ w, Calls Tryd.prog 27 #[.iface 101 (.agg #[.int .i64 how])] w fun e w' => e = .returned (.int .i64 how) ∧ Below w.heap.size w w') := fun w => Ended_any how w
  clear harr
  go_wp2_with fail
  refine (CA.out _).mono ?_
  rintro e w1 ⟨rfl, hb⟩
  have p0 := (hb.cell (p := ⟨N, 0, none⟩) hN).trans q0
  have f0 := (hb.frozen (p := ⟨N, 0, none⟩) hN).trans z0
  have HB : Hid (Below w.heap.size w w1) := hb
  clear hb q0 z0 CA
  go_wp2_with fail
  simp [bodyPostS, results, Tryd.results26]
  exact ⟨w1, HB.out, rfl⟩
set_option maxRecDepth 100000 in
set_option maxHeartbeats 1600000 in
theorem catch_idle (N : Nat) (w : World) :
    CallsD Tryd.prog 26 #[.pointer (some ⟨N, 0, none⟩)] .returning w fun e u' w' => e = .returned (.tuple #[]) ∧ u' = .returning ∧ w' = w := by
  refine callsD_of_wpS Tryd.func26 rfl fun c₀ cs hu => ?_
  apply wpS_seq
  apply wpS_region
  simp [wpOpsS, go_sem, recoverD, hu, Tryd.ntmps26, Exit.thenS]
  refine wpS_of_wp ?_
  have harr : #[Value.pointer (some { block := N, off := 0 })] ++ ((Array.replicate 6 undef).setIfInBounds 1 Value.nilIface).setIfInBounds 0 Value.nilIface = #[Value.pointer (some { block := N, off := 0 }), Value.nilIface, Value.nilIface, undef, undef, undef, undef] := rfl
  rw [harr]
  clear harr
  go_wp2_with fail
  cases c₀
  simp_all [bodyPostS, results, Tryd.results26]
end Go.Proofs.YthooljlikllnpaaDoor
