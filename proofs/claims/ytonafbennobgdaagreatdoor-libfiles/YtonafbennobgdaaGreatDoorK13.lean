/- Chapter 3: the kinds of sets. -/
import Derived.LoopN
import Derived.Test.YtonafbennobgdaaGreatDoorK12
namespace Go.Proofs.YtonafbennobgdaaGreatDoor
set_option linter.unusedVariables false
set_option linter.unusedSimpArgs false
open Go.RowKit

/-- The words of sets, as the program's variable has them. -/
structure TabW (w : World) : Prop where
  c0 : w.cell? ⟨0, 0, none⟩ = some (.string ⟨#[]⟩)
  c1 : w.cell? ⟨0, 1, none⟩ = some (.string ⟨#[]⟩)
  c2 : w.cell? ⟨0, 2, none⟩ = some (.string bOnly)
  c3 : w.cell? ⟨0, 3, none⟩ = some (.string bExcept)
  c4 : w.cell? ⟨0, 4, none⟩ = some (.string bPrefix)
  c5 : w.cell? ⟨0, 5, none⟩ = some (.string bRename)
theorem TabW.below {B : Nat} {w w' : World} (h : TabW w) (hb : Below B w w') (hB : 0 < B) : TabW w' := by
  have e : ∀ q, w'.cell? ⟨0, q, none⟩ = w.cell? ⟨0, q, none⟩ := fun q => hb.cell (p := ⟨0, q, none⟩) hB
  exact ⟨(e _).trans h.c0, (e _).trans h.c1, (e _).trans h.c2, (e _).trans h.c3, (e _).trans h.c4, (e _).trans h.c5⟩
theorem ix_0 (w : World) : (Instr.index 140 (.agg #[.string ⟨#[]⟩, .string ⟨#[]⟩, .string bOnly, .string bExcept, .string bPrefix, .string bRename]) (.int .i64 0)).run Tryz.prog w = .ok (.string ⟨#[]⟩) w := by
  simp [Instr.index, run_underlying Tryz.underlying140, go_sem]
theorem ix_1 (w : World) : (Instr.index 140 (.agg #[.string ⟨#[]⟩, .string ⟨#[]⟩, .string bOnly, .string bExcept, .string bPrefix, .string bRename]) (.int .i64 1)).run Tryz.prog w = .ok (.string ⟨#[]⟩) w := by
  simp [Instr.index, run_underlying Tryz.underlying140, go_sem]
theorem ix_2 (w : World) : (Instr.index 140 (.agg #[.string ⟨#[]⟩, .string ⟨#[]⟩, .string bOnly, .string bExcept, .string bPrefix, .string bRename]) (.int .i64 2)).run Tryz.prog w = .ok (.string bOnly) w := by
  simp [Instr.index, run_underlying Tryz.underlying140, go_sem]
theorem ix_3 (w : World) : (Instr.index 140 (.agg #[.string ⟨#[]⟩, .string ⟨#[]⟩, .string bOnly, .string bExcept, .string bPrefix, .string bRename]) (.int .i64 3)).run Tryz.prog w = .ok (.string bExcept) w := by
  simp [Instr.index, run_underlying Tryz.underlying140, go_sem]
theorem ix_4 (w : World) : (Instr.index 140 (.agg #[.string ⟨#[]⟩, .string ⟨#[]⟩, .string bOnly, .string bExcept, .string bPrefix, .string bRename]) (.int .i64 4)).run Tryz.prog w = .ok (.string bPrefix) w := by
  simp [Instr.index, run_underlying Tryz.underlying140, go_sem]
theorem ix_5 (w : World) : (Instr.index 140 (.agg #[.string ⟨#[]⟩, .string ⟨#[]⟩, .string bOnly, .string bExcept, .string bPrefix, .string bRename]) (.int .i64 5)).run Tryz.prog w = .ok (.string bRename) w := by
  simp [Instr.index, run_underlying Tryz.underlying140, go_sem]
set_option maxRecDepth 100000 in
set_option maxHeartbeats 3200000 in
theorem setKind_few (a : Option Addr) (n cap : Nat) (hn : n < 2) (w : World) : Calls Tryz.prog 143 #[.slice a n cap] w fun e w' => e = .returned (.int .i64 1) ∧ w' = w := by
  have c1 : decide ((n : Int) < 2) = true := by simp; omega
  go_enter Tryz.func143, Tryz.ntmps143
  go_wp2_with fail
  go_ret
  exact ⟨rfl, rfl⟩
set_option maxRecDepth 100000 in
set_option maxHeartbeats 6400000 in
theorem setKind_a (b o n cap : Nat) (x y : Dat) (xk yk : Value) (w : World) (hn : 2 ≤ n) (c0 : w.cell? ⟨b, o, none⟩ = some (.int .i64 x.kind)) (c2 : w.cell? ⟨b, o + 2, none⟩ = some (.string x.name)) (d0 : w.cell? ⟨b, o + 6, none⟩ = some (.int .i64 y.kind)) (h1 : ¬ x.kind = 3) : Calls Tryz.prog 143 #[.slice (some ⟨b, o, none⟩) n cap] w fun e w' => e = .returned (.int .i64 1) ∧ w' = w := by
  have l1 : decide ((n : Int) < 2) = false := by simp; omega
  have l2 : (0 : Int) < (n : Int) := by omega
  have l3 : (1 : Int) < (n : Int) := by omega
  have k1 : (x.kind != 3) = true := by simpa using h1
  clear h1
  clear hn
  go_enter Tryz.func143, Tryz.ntmps143
  go_wp2_with fail
  go_ret
  exact ⟨rfl, rfl⟩
set_option maxRecDepth 100000 in
set_option maxHeartbeats 6400000 in
theorem setKind_b (b o n cap : Nat) (x y : Dat) (xk yk : Value) (w : World) (hn : 2 ≤ n) (c0 : w.cell? ⟨b, o, none⟩ = some (.int .i64 x.kind)) (c2 : w.cell? ⟨b, o + 2, none⟩ = some (.string x.name)) (d0 : w.cell? ⟨b, o + 6, none⟩ = some (.int .i64 y.kind)) (h1 : x.kind = 3) (h2 : ¬ y.kind = 4) : Calls Tryz.prog 143 #[.slice (some ⟨b, o, none⟩) n cap] w fun e w' => e = .returned (.int .i64 1) ∧ w' = w := by
  have l1 : decide ((n : Int) < 2) = false := by simp; omega
  have l2 : (0 : Int) < (n : Int) := by omega
  have l3 : (1 : Int) < (n : Int) := by omega
  have k1 : (x.kind != 3) = false := by simpa using h1
  have k2 : (y.kind != 4) = true := by simpa using h2
  clear h1 h2
  clear hn
  go_enter Tryz.func143, Tryz.ntmps143
  go_wp2_with fail
  go_ret
  exact ⟨rfl, rfl⟩
set_option maxRecDepth 100000 in
set_option maxHeartbeats 6400000 in
theorem setKind_2 (b o n cap : Nat) (x y : Dat) (xk yk : Value) (w : World) (hn : 2 ≤ n) (c0 : w.cell? ⟨b, o, none⟩ = some (.int .i64 x.kind)) (c2 : w.cell? ⟨b, o + 2, none⟩ = some (.string x.name)) (d0 : w.cell? ⟨b, o + 6, none⟩ = some (.int .i64 y.kind)) (h1 : x.kind = 3) (h2 : y.kind = 4) (h0 : x.name ≠ ⟨#[]⟩) (tw : TabW w) (hx : x.name = bOnly) : Calls Tryz.prog 143 #[.slice (some ⟨b, o, none⟩) n cap] w fun e w' => e = .returned (.int .i64 2) ∧ w' = w := by
  have l1 : decide ((n : Int) < 2) = false := by simp; omega
  have l2 : (0 : Int) < (n : Int) := by omega
  have l3 : (1 : Int) < (n : Int) := by omega
  have k1 : (x.kind != 3) = false := by simpa using h1
  have k2 : (y.kind != 4) = false := by simpa using h2
  obtain ⟨t0, t1, t2, t3, t4, t5⟩ := tw
  have j0 := ix_0
  have j1 := ix_1
  have j2 := ix_2
  have j3 := ix_3
  have j4 := ix_4
  have j5 := ix_5
  have e0 : ((⟨#[]⟩ : ByteArray).toList == x.name.toList) = false := beqS_ne (fun h => h0 h.symm)
  have e0' : x.name.toList.isEmpty = false := by simpa using e0
  have e2 : (bOnly.toList == x.name.toList) = true := by rw [hx]; simp
  clear h1 h2 h0 hx
  clear hn
  go_enter Tryz.func143, Tryz.ntmps143
  go_wp2_with fail
  refine wp_loop_rounds 3 ?_
  rw [rounds_succ]
  go_wp2_with fail
  rw [rounds_succ]
  go_wp2_with fail
  rw [rounds_succ]
  go_wp2_with fail
  go_ret
  exact ⟨rfl, rfl⟩
set_option maxRecDepth 100000 in
set_option maxHeartbeats 6400000 in
theorem setKind_3 (b o n cap : Nat) (x y : Dat) (xk yk : Value) (w : World) (hn : 2 ≤ n) (c0 : w.cell? ⟨b, o, none⟩ = some (.int .i64 x.kind)) (c2 : w.cell? ⟨b, o + 2, none⟩ = some (.string x.name)) (d0 : w.cell? ⟨b, o + 6, none⟩ = some (.int .i64 y.kind)) (h1 : x.kind = 3) (h2 : y.kind = 4) (h0 : x.name ≠ ⟨#[]⟩) (tw : TabW w) (hx : x.name = bExcept) : Calls Tryz.prog 143 #[.slice (some ⟨b, o, none⟩) n cap] w fun e w' => e = .returned (.int .i64 3) ∧ w' = w := by
  have l1 : decide ((n : Int) < 2) = false := by simp; omega
  have l2 : (0 : Int) < (n : Int) := by omega
  have l3 : (1 : Int) < (n : Int) := by omega
  have k1 : (x.kind != 3) = false := by simpa using h1
  have k2 : (y.kind != 4) = false := by simpa using h2
  obtain ⟨t0, t1, t2, t3, t4, t5⟩ := tw
  have j0 := ix_0
  have j1 := ix_1
  have j2 := ix_2
  have j3 := ix_3
  have j4 := ix_4
  have j5 := ix_5
  have e0 : ((⟨#[]⟩ : ByteArray).toList == x.name.toList) = false := beqS_ne (fun h => h0 h.symm)
  have e0' : x.name.toList.isEmpty = false := by simpa using e0
  have e2 : (bOnly.toList == x.name.toList) = false := by rw [hx]; exact beqS_ne (by simp [bOnly, bExcept, bPrefix, bRename])
  have e3 : (bExcept.toList == x.name.toList) = true := by rw [hx]; simp
  clear h1 h2 h0 hx
  clear hn
  go_enter Tryz.func143, Tryz.ntmps143
  go_wp2_with fail
  refine wp_loop_rounds 4 ?_
  rw [rounds_succ]
  go_wp2_with fail
  rw [rounds_succ]
  go_wp2_with fail
  rw [rounds_succ]
  go_wp2_with fail
  rw [rounds_succ]
  go_wp2_with fail
  go_ret
  exact ⟨rfl, rfl⟩
set_option maxRecDepth 100000 in
set_option maxHeartbeats 6400000 in
theorem setKind_4 (b o n cap : Nat) (x y : Dat) (xk yk : Value) (w : World) (hn : 2 ≤ n) (c0 : w.cell? ⟨b, o, none⟩ = some (.int .i64 x.kind)) (c2 : w.cell? ⟨b, o + 2, none⟩ = some (.string x.name)) (d0 : w.cell? ⟨b, o + 6, none⟩ = some (.int .i64 y.kind)) (h1 : x.kind = 3) (h2 : y.kind = 4) (h0 : x.name ≠ ⟨#[]⟩) (tw : TabW w) (hx : x.name = bPrefix) : Calls Tryz.prog 143 #[.slice (some ⟨b, o, none⟩) n cap] w fun e w' => e = .returned (.int .i64 4) ∧ w' = w := by
  have l1 : decide ((n : Int) < 2) = false := by simp; omega
  have l2 : (0 : Int) < (n : Int) := by omega
  have l3 : (1 : Int) < (n : Int) := by omega
  have k1 : (x.kind != 3) = false := by simpa using h1
  have k2 : (y.kind != 4) = false := by simpa using h2
  obtain ⟨t0, t1, t2, t3, t4, t5⟩ := tw
  have j0 := ix_0
  have j1 := ix_1
  have j2 := ix_2
  have j3 := ix_3
  have j4 := ix_4
  have j5 := ix_5
  have e0 : ((⟨#[]⟩ : ByteArray).toList == x.name.toList) = false := beqS_ne (fun h => h0 h.symm)
  have e0' : x.name.toList.isEmpty = false := by simpa using e0
  have e2 : (bOnly.toList == x.name.toList) = false := by rw [hx]; exact beqS_ne (by simp [bOnly, bExcept, bPrefix, bRename])
  have e3 : (bExcept.toList == x.name.toList) = false := by rw [hx]; exact beqS_ne (by simp [bOnly, bExcept, bPrefix, bRename])
  have e4 : (bPrefix.toList == x.name.toList) = true := by rw [hx]; simp
  clear h1 h2 h0 hx
  clear hn
  go_enter Tryz.func143, Tryz.ntmps143
  go_wp2_with fail
  refine wp_loop_rounds 5 ?_
  rw [rounds_succ]
  go_wp2_with fail
  rw [rounds_succ]
  go_wp2_with fail
  rw [rounds_succ]
  go_wp2_with fail
  rw [rounds_succ]
  go_wp2_with fail
  rw [rounds_succ]
  go_wp2_with fail
  go_ret
  exact ⟨rfl, rfl⟩
set_option maxRecDepth 100000 in
set_option maxHeartbeats 6400000 in
theorem setKind_5 (b o n cap : Nat) (x y : Dat) (xk yk : Value) (w : World) (hn : 2 ≤ n) (c0 : w.cell? ⟨b, o, none⟩ = some (.int .i64 x.kind)) (c2 : w.cell? ⟨b, o + 2, none⟩ = some (.string x.name)) (d0 : w.cell? ⟨b, o + 6, none⟩ = some (.int .i64 y.kind)) (h1 : x.kind = 3) (h2 : y.kind = 4) (h0 : x.name ≠ ⟨#[]⟩) (tw : TabW w) (hx : x.name = bRename) : Calls Tryz.prog 143 #[.slice (some ⟨b, o, none⟩) n cap] w fun e w' => e = .returned (.int .i64 5) ∧ w' = w := by
  have l1 : decide ((n : Int) < 2) = false := by simp; omega
  have l2 : (0 : Int) < (n : Int) := by omega
  have l3 : (1 : Int) < (n : Int) := by omega
  have k1 : (x.kind != 3) = false := by simpa using h1
  have k2 : (y.kind != 4) = false := by simpa using h2
  obtain ⟨t0, t1, t2, t3, t4, t5⟩ := tw
  have j0 := ix_0
  have j1 := ix_1
  have j2 := ix_2
  have j3 := ix_3
  have j4 := ix_4
  have j5 := ix_5
  have e0 : ((⟨#[]⟩ : ByteArray).toList == x.name.toList) = false := beqS_ne (fun h => h0 h.symm)
  have e0' : x.name.toList.isEmpty = false := by simpa using e0
  have e2 : (bOnly.toList == x.name.toList) = false := by rw [hx]; exact beqS_ne (by simp [bOnly, bExcept, bPrefix, bRename])
  have e3 : (bExcept.toList == x.name.toList) = false := by rw [hx]; exact beqS_ne (by simp [bOnly, bExcept, bPrefix, bRename])
  have e4 : (bPrefix.toList == x.name.toList) = false := by rw [hx]; exact beqS_ne (by simp [bOnly, bExcept, bPrefix, bRename])
  have e5 : (bRename.toList == x.name.toList) = true := by rw [hx]; simp
  clear h1 h2 h0 hx
  clear hn
  go_enter Tryz.func143, Tryz.ntmps143
  go_wp2_with fail
  refine wp_loop_rounds 6 ?_
  rw [rounds_succ]
  go_wp2_with fail
  rw [rounds_succ]
  go_wp2_with fail
  rw [rounds_succ]
  go_wp2_with fail
  rw [rounds_succ]
  go_wp2_with fail
  rw [rounds_succ]
  go_wp2_with fail
  rw [rounds_succ]
  go_wp2_with fail
  go_ret
  exact ⟨rfl, rfl⟩
set_option maxRecDepth 100000 in
set_option maxHeartbeats 6400000 in
theorem setKind_c (b o n cap : Nat) (x y : Dat) (xk yk : Value) (w : World) (hn : 2 ≤ n) (c0 : w.cell? ⟨b, o, none⟩ = some (.int .i64 x.kind)) (c2 : w.cell? ⟨b, o + 2, none⟩ = some (.string x.name)) (d0 : w.cell? ⟨b, o + 6, none⟩ = some (.int .i64 y.kind)) (h1 : x.kind = 3) (h2 : y.kind = 4) (h0 : x.name ≠ ⟨#[]⟩) (tw : TabW w) (n2 : ¬ x.name = bOnly) (n3 : ¬ x.name = bExcept) (n4 : ¬ x.name = bPrefix) (n5 : ¬ x.name = bRename) : Calls Tryz.prog 143 #[.slice (some ⟨b, o, none⟩) n cap] w fun e w' => e = .returned (.int .i64 1) ∧ w' = w := by
  have l1 : decide ((n : Int) < 2) = false := by simp; omega
  have l2 : (0 : Int) < (n : Int) := by omega
  have l3 : (1 : Int) < (n : Int) := by omega
  have k1 : (x.kind != 3) = false := by simpa using h1
  have k2 : (y.kind != 4) = false := by simpa using h2
  obtain ⟨t0, t1, t2, t3, t4, t5⟩ := tw
  have j0 := ix_0
  have j1 := ix_1
  have j2 := ix_2
  have j3 := ix_3
  have j4 := ix_4
  have j5 := ix_5
  have e0 : ((⟨#[]⟩ : ByteArray).toList == x.name.toList) = false := beqS_ne (fun h => h0 h.symm)
  have e0' : x.name.toList.isEmpty = false := by simpa using e0
  have e2 : (bOnly.toList == x.name.toList) = false := beqS_ne (fun h => n2 h.symm)
  have e3 : (bExcept.toList == x.name.toList) = false := beqS_ne (fun h => n3 h.symm)
  have e4 : (bPrefix.toList == x.name.toList) = false := beqS_ne (fun h => n4 h.symm)
  have e5 : (bRename.toList == x.name.toList) = false := beqS_ne (fun h => n5 h.symm)
  clear h1 h2 h0 n2 n3 n4 n5
  clear hn
  go_enter Tryz.func143, Tryz.ntmps143
  go_wp2_with fail
  refine wp_loop_rounds 7 ?_
  rw [rounds_succ]
  go_wp2_with fail
  rw [rounds_succ]
  go_wp2_with fail
  rw [rounds_succ]
  go_wp2_with fail
  rw [rounds_succ]
  go_wp2_with fail
  rw [rounds_succ]
  go_wp2_with fail
  rw [rounds_succ]
  go_wp2_with fail
  rw [rounds_succ]
  go_wp2_with fail
  go_ret
  exact ⟨rfl, rfl⟩
end Go.Proofs.YtonafbennobgdaaGreatDoor
