/- Package text's Read: what is thrown is caught. -/
import Derived.Test.YtagpcafbeplccaaDoorLm
import Derived.Defers
import Derived.Recover
namespace Go.Proofs.YtagpcafbeplccaaDoor
set_option linter.unusedVariables false
set_option linter.unusedSimpArgs false
open Go.RowKit

theorem assert_thrown (v : Value) (w : World) : (Instr.typeAssert (.iface 69 v) 20 69 true).run Tryd.prog w = .ok (.tuple #[v, .bool true]) w := by
  simp [Instr.typeAssert, run_underlying Tryd.underlying69]

set_option maxRecDepth 100000 in
set_option maxHeartbeats 800000 in
theorem caught_any (x : Int × Int) (w : World) :
    Calls Tryd.prog 19 #[.iface 69 (.agg #[.int .i64 x.1, .int .i64 x.2])] w fun e w' => e = .returned (.agg #[.int .i64 x.1, .int .i64 x.2]) ∧ Below w.heap.size w w' := by
  obtain ⟨x1, x2⟩ := x
  simp only
  have hta := assert_thrown (.agg #[.int .i64 x1, .int .i64 x2])
  go_enter Tryd.func19, Tryd.ntmps19
  go_wp2_with fail
  refine bodyPost_ret (v := .agg #[.int .i64 x1, .int .i64 x2]) (by simp [results, Tryd.results19, go_sem]) rfl ⟨rfl, ?_⟩
  exact ((Below.refl _ _).alloc (Nat.le_refl _) _).alloc (by simp) _

set_option maxRecDepth 100000 in
set_option maxHeartbeats 1600000 in
theorem catch_thrown (N : Nat) (x : Int × Int) (y1 y2 : Int) (w : World) (hN : N < w.heap.size) (q0 : w.cell? ⟨N, 0, none⟩ = some (.int .i64 y1)) (q1 : w.cell? ⟨N, 1, none⟩ = some (.int .i64 y2)) (z0 : w.frozen? ⟨N, 0, none⟩ = false) (z1 : w.frozen? ⟨N, 1, none⟩ = false) :
    CallsD Tryd.prog 18 #[.pointer (some ⟨N, 0, none⟩)] (.panicking [{ v := .iface 69 (.agg #[.int .i64 x.1, .int .i64 x.2]), recovered := false }]) w fun e u' w' =>
      e = .returned (.tuple #[]) ∧ u' = .panicking [{ v := .iface 69 (.agg #[.int .i64 x.1, .int .i64 x.2]), recovered := true }] ∧ ∃ w1, Below w.heap.size w w1 ∧ w' = (w1.setCell ⟨N, 0, none⟩ (.int .i64 x.1)).setCell ⟨N, 1, none⟩ (.int .i64 x.2) := by
  refine callsD_of_wpS Tryd.func18 rfl fun c₀ cs hu => ?_
  apply wpS_seq
  apply wpS_region
  simp [wpOpsS, go_sem, recoverD, hu, Tryd.ntmps18, Exit.thenS]
  refine wpS_of_wp ?_
  have harr : #[Value.pointer (some { block := N, off := 0 })] ++ ((Array.replicate 6 undef).setIfInBounds 1 (Value.iface 69 (Value.agg #[Value.int IntKind.i64 x.fst, Value.int IntKind.i64 x.snd]))).setIfInBounds 0 (Value.iface 69 (Value.agg #[Value.int IntKind.i64 x.fst, Value.int IntKind.i64 x.snd])) = #[Value.pointer (some { block := N, off := 0 }), Value.iface 69 (Value.agg #[Value.int IntKind.i64 x.fst, Value.int IntKind.i64 x.snd]), Value.iface 69 (Value.agg #[Value.int IntKind.i64 x.fst, Value.int IntKind.i64 x.snd]), undef, undef, undef, undef] := rfl
  rw [harr]
  have CA : Hid (∀ w, Calls Tryd.prog 19 #[.iface 69 (.agg #[.int .i64 x.1, .int .i64 x.2])] w fun e w' => e = .returned (.agg #[.int .i64 x.1, .int .i64 x.2]) ∧ Below w.heap.size w w') := fun w => caught_any x w
  clear harr
  go_wp2_with fail
  refine (CA.out _).mono ?_
  rintro e w1 ⟨rfl, hb⟩
  have p0 := (hb.cell (p := ⟨N, 0, none⟩) hN).trans q0
  have p1 := (hb.cell (p := ⟨N, 1, none⟩) hN).trans q1
  have f0 := (hb.frozen (p := ⟨N, 0, none⟩) hN).trans z0
  have f1 := (hb.frozen (p := ⟨N, 1, none⟩) hN).trans z1
  have HB : Hid (Below w.heap.size w w1) := hb
  clear hb q0 q1 z0 z1 CA
  go_wp2_with fail
  simp [bodyPostS, results, Tryd.results18]
  exact ⟨w1, HB.out, rfl⟩

set_option maxRecDepth 100000 in
set_option maxHeartbeats 1600000 in
theorem catch_idle (N : Nat) (w : World) :
    CallsD Tryd.prog 18 #[.pointer (some ⟨N, 0, none⟩)] .returning w fun e u' w' => e = .returned (.tuple #[]) ∧ u' = .returning ∧ w' = w := by
  refine callsD_of_wpS Tryd.func18 rfl fun c₀ cs hu => ?_
  apply wpS_seq
  apply wpS_region
  simp [wpOpsS, go_sem, recoverD, hu, Tryd.ntmps18, Exit.thenS]
  refine wpS_of_wp ?_
  have harr : #[Value.pointer (some { block := N, off := 0 })] ++ ((Array.replicate 6 undef).setIfInBounds 1 Value.nilIface).setIfInBounds 0 Value.nilIface = #[Value.pointer (some { block := N, off := 0 }), Value.nilIface, Value.nilIface, undef, undef, undef, undef] := rfl
  rw [harr]
  clear harr
  go_wp2_with fail
  cases c₀
  simp_all [bodyPostS, results, Tryd.results18]

end Go.Proofs.YtagpcafbeplccaaDoor
