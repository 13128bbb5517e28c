/- Chapter 3: the kinds of sets. -/
import Derived.LoopN
import Derived.Test.YtonafbennobgdaaGreatDoorK11
namespace Go.Proofs.YtonafbennobgdaaGreatDoor
set_option linter.unusedVariables false
set_option linter.unusedSimpArgs false
open Go.RowKit
set_option maxRecDepth 100000
set_option maxHeartbeats 6400000
structure TabW (w : World) : Prop where
 c0 : w.cell? ⟨0, 0, none⟩ = some (.string ⟨#[]⟩)
 c1 : w.cell? ⟨0, 1, none⟩ = some (.string ⟨#[]⟩)
 c2 : w.cell? ⟨0, 2, none⟩ = some (.string bOnly)
 c3 : w.cell? ⟨0, 3, none⟩ = some (.string bExcept)
 c4 : w.cell? ⟨0, 4, none⟩ = some (.string bPrefix)
 c5 : w.cell? ⟨0, 5, none⟩ = some (.string bRename)
theorem TabW.below {B : Nat} {w w' : World} (h : TabW w) (hb : Below B w w') (hB : 0 < B) : TabW w' := by
 have e : ∀ q, w'.cell? ⟨0, q, none⟩ = w.cell? ⟨0, q, none⟩ := fun q => hb.cell (p := ⟨0, q, none⟩) hB
 exact ⟨(e _).trans h.c0, (e _).trans h.c1, (e _).trans h.c2, (e _).trans h.c3, (e _).trans h.c4, (e _).trans h.c5⟩
theorem ix_0 (w : World) : (Instr.index 140 (.agg #[.string ⟨#[]⟩, .string ⟨#[]⟩, .string bOnly, .string bExcept, .string bPrefix, .string bRename]) (.int .i64 0)).run Tryz.prog w = .ok (.string ⟨#[]⟩) w := by
 simp [Instr.index, run_underlying Tryz.underlying140, go_sem]
theorem ix_1 (w : World) : (Instr.index 140 (.agg #[.string ⟨#[]⟩, .string ⟨#[]⟩, .string bOnly, .string bExcept, .string bPrefix, .string bRename]) (.int .i64 1)).run Tryz.prog w = .ok (.string ⟨#[]⟩) w := by
 simp [Instr.index, run_underlying Tryz.underlying140, go_sem]
theorem ix_2 (w : World) : (Instr.index 140 (.agg #[.string ⟨#[]⟩, .string ⟨#[]⟩, .string bOnly, .string bExcept, .string bPrefix, .string bRename]) (.int .i64 2)).run Tryz.prog w = .ok (.string bOnly) w := by
 simp [Instr.index, run_underlying Tryz.underlying140, go_sem]
theorem ix_3 (w : World) : (Instr.index 140 (.agg #[.string ⟨#[]⟩, .string ⟨#[]⟩, .string bOnly, .string bExcept, .string bPrefix, .string bRename]) (.int .i64 3)).run Tryz.prog w = .ok (.string bExcept) w := by
 simp [Instr.index, run_underlying Tryz.underlying140, go_sem]
theorem ix_4 (w : World) : (Instr.index 140 (.agg #[.string ⟨#[]⟩, .string ⟨#[]⟩, .string bOnly, .string bExcept, .string bPrefix, .string bRename]) (.int .i64 4)).run Tryz.prog w = .ok (.string bPrefix) w := by
 simp [Instr.index, run_underlying Tryz.underlying140, go_sem]
theorem ix_5 (w : World) : (Instr.index 140 (.agg #[.string ⟨#[]⟩, .string ⟨#[]⟩, .string bOnly, .string bExcept, .string bPrefix, .string bRename]) (.int .i64 5)).run Tryz.prog w = .ok (.string bRename) w := by
 simp [Instr.index, run_underlying Tryz.underlying140, go_sem]
theorem setKind_few (a : Option Addr) (n cap : Nat) (hn : n < 2) (w : World) : Calls Tryz.prog 143 #[.slice a n cap] w fun e w' => e = .returned (.int .i64 1) ∧ w' = w := by
 have c1 : decide ((n : Int) < 2) = true := by simp; omega
 go_enter Tryz.func143, Tryz.ntmps143
 go_wp2_with fail
 go_ret
 exact ⟨rfl, rfl⟩
theorem setKind_a (b o n cap : Nat) (x y : Dat) (xk yk : Value) (w : World) (hn : 2 ≤ n) (c0 : w.cell? ⟨b, o, none⟩ = some (.int .i64 x.kind)) (c2 : w.cell? ⟨b, o + 2, none⟩ = some (.string x.name)) (d0 : w.cell? ⟨b, o + 6, none⟩ = some (.int .i64 y.kind)) (h1 : ¬ x.kind = 3) : Calls Tryz.prog 143 #[.slice (some ⟨b, o, none⟩) n cap] w fun e w' => e = .returned (.int .i64 1) ∧ w' = w := by
 have l1 : decide ((n : Int) < 2) = false := by simp; omega
 have l2 : (0 : Int) < (n : Int) := by omega
 have l3 : (1 : Int) < (n : Int) := by omega
 have k1 : (x.kind != 3) = true := by simpa using h1
 clear h1
 clear hn
 go_enter Tryz.func143, Tryz.ntmps143
 go_wp2_with fail
 go_ret
 exact ⟨rfl, rfl⟩
theorem setKind_b (b o n cap : Nat) (x y : Dat) (xk yk : Value) (w : World) (hn : 2 ≤ n) (c0 : w.cell? ⟨b, o, none⟩ = some (.int .i64 x.kind)) (c2 : w.cell? ⟨b, o + 2, none⟩ = some (.string x.name)) (d0 : w.cell? ⟨b, o + 6, none⟩ = some (.int .i64 y.kind)) (h1 : x.kind = 3) (h2 : ¬ y.kind = 4) : Calls Tryz.prog 143 #[.slice (some ⟨b, o, none⟩) n cap] w fun e w' => e = .returned (.int .i64 1) ∧ w' = w := by
 have l1 : decide ((n : Int) < 2) = false := by simp; omega
 have l2 : (0 : Int) < (n : Int) := by omega
 have l3 : (1 : Int) < (n : Int) := by omega
 have k1 : (x.kind != 3) = false := by simpa using h1
 have k2 : (y.kind != 4) = true := by simpa using h2
 clear h1 h2
 clear hn
 go_enter Tryz.func143, Tryz.ntmps143
 go_wp2_with fail
 go_ret
 exact ⟨rfl, rfl⟩
theorem setKind_2 (b o n cap : Nat) (x y : Dat) (xk yk : Value) (w : World) (hn : 2 ≤ n) (c0 : w.cell? ⟨b, o, none⟩ = some (.int .i64 x.kind)) (c2 : w.cell? ⟨b, o + 2, none⟩ = some (.string x.name)) (d0 : w.cell? ⟨b, o + 6, none⟩ = some (.int .i64 y.kind)) (h1 : x.kind = 3) (h2 : y.kind = 4) (h0 : x.name ≠ ⟨#[]⟩) (tw : TabW w) (hx : x.name = bOnly) : Calls Tryz.prog 143 #[.slice (some ⟨b, o, none⟩) n cap] w fun e w' => e = .returned (.int .i64 2) ∧ w' = w := by
 have l1 : decide ((n : Int) < 2) = false := by simp; omega
 have l2 : (0 : Int) < (n : Int) := by omega
 have l3 : (1 : Int) < (n : Int) := by omega
 have k1 : (x.kind != 3) = false := by simpa using h1
 have k2 : (y.kind != 4) = false := by simpa using h2
 obtain ⟨t0, t1, t2, t3, t4, t5⟩ := tw
 have j0 := ix_0
 have j1 := ix_1
 have j2 := ix_2
 have j3 := ix_3
 have j4 := ix_4
 have j5 := ix_5
 have e0 : ((⟨#[]⟩ : ByteArray).toList == x.name.toList) = false := beqS_ne (fun h => h0 h.symm)
 have e0' : x.name.toList.isEmpty = false := by simpa using e0
 have e2 : (bOnly.toList == x.name.toList) = true := by rw [hx]; simp
 clear h1 h2 h0 hx
 clear hn
 go_enter Tryz.func143, Tryz.ntmps143
 go_wp2_with fail
 refine wp_loop_rounds 3 ?_
 rw [rounds_succ]
 go_wp2_with fail
 rw [rounds_succ]
 go_wp2_with fail
 rw [rounds_succ]
 go_wp2_with fail
 go_ret
 exact ⟨rfl, rfl⟩
theorem setKind_3 (b o n cap : Nat) (x y : Dat) (xk yk : Value) (w : World) (hn : 2 ≤ n) (c0 : w.cell? ⟨b, o, none⟩ = some (.int .i64 x.kind)) (c2 : w.cell? ⟨b, o + 2, none⟩ = some (.string x.name)) (d0 : w.cell? ⟨b, o + 6, none⟩ = some (.int .i64 y.kind)) (h1 : x.kind = 3) (h2 : y.kind = 4) (h0 : x.name ≠ ⟨#[]⟩) (tw : TabW w) (hx : x.name = bExcept) : Calls Tryz.prog 143 #[.slice (some ⟨b, o, none⟩) n cap] w fun e w' => e = .returned (.int .i64 3) ∧ w' = w := by
 have l1 : decide ((n : Int) < 2) = false := by simp; omega
 have l2 : (0 : Int) < (n : Int) := by omega
 have l3 : (1 : Int) < (n : Int) := by omega
 have k1 : (x.kind != 3) = false := by simpa using h1
 have k2 : (y.kind != 4) = false := by simpa using h2
 obtain ⟨t0, t1, t2, t3, t4, t5⟩ := tw
 have j0 := ix_0
 have j1 := ix_1
 have j2 := ix_2
 have j3 := ix_3
 have j4 := ix_4
 have j5 := ix_5
 have e0 : ((⟨#[]⟩ : ByteArray).toList == x.name.toList) = false := beqS_ne (fun h => h0 h.symm)
 have e0' : x.name.toList.isEmpty = false := by simpa using e0
 have e2 : (bOnly.toList == x.name.toList) = false := by rw [hx]; exact beqS_ne (by simp [bOnly, bExcept, bPrefix, bRename])
 have e3 : (bExcept.toList == x.name.toList) = true := by rw [hx]; simp
 clear h1 h2 h0 hx
 clear hn
 go_enter Tryz.func143, Tryz.ntmps143
 go_wp2_with fail
 refine wp_loop_rounds 4 ?_
 rw [rounds_succ]
 go_wp2_with fail
 rw [rounds_succ]
 go_wp2_with fail
 rw [rounds_succ]
 go_wp2_with fail
 rw [rounds_succ]
 go_wp2_with fail
 go_ret
 exact ⟨rfl, rfl⟩
theorem setKind_4 (b o n cap : Nat) (x y : Dat) (xk yk : Value) (w : World) (hn : 2 ≤ n) (c0 : w.cell? ⟨b, o, none⟩ = some (.int .i64 x.kind)) (c2 : w.cell? ⟨b, o + 2, none⟩ = some (.string x.name)) (d0 : w.cell? ⟨b, o + 6, none⟩ = some (.int .i64 y.kind)) (h1 : x.kind = 3) (h2 : y.kind = 4) (h0 : x.name ≠ ⟨#[]⟩) (tw : TabW w) (hx : x.name = bPrefix) : Calls Tryz.prog 143 #[.slice (some ⟨b, o, none⟩) n cap] w fun e w' => e = .returned (.int .i64 4) ∧ w' = w := by
 have l1 : decide ((n : Int) < 2) = false := by simp; omega
 have l2 : (0 : Int) < (n : Int) := by omega
 have l3 : (1 : Int) < (n : Int) := by omega
 have k1 : (x.kind != 3) = false := by simpa using h1
 have k2 : (y.kind != 4) = false := by simpa using h2
 obtain ⟨t0, t1, t2, t3, t4, t5⟩ := tw
 have j0 := ix_0
 have j1 := ix_1
 have j2 := ix_2
 have j3 := ix_3
 have j4 := ix_4
 have j5 := ix_5
 have e0 : ((⟨#[]⟩ : ByteArray).toList == x.name.toList) = false := beqS_ne (fun h => h0 h.symm)
 have e0' : x.name.toList.isEmpty = false := by simpa using e0
 have e2 : (bOnly.toList == x.name.toList) = false := by rw [hx]; exact beqS_ne (by simp [bOnly, bExcept, bPrefix, bRename])
 have e3 : (bExcept.toList == x.name.toList) = false := by rw [hx]; exact beqS_ne (by simp [bOnly, bExcept, bPrefix, bRename])
 have e4 : (bPrefix.toList == x.name.toList) = true := by rw [hx]; simp
 clear h1 h2 h0 hx
 clear hn
 go_enter Tryz.func143, Tryz.ntmps143
 go_wp2_with fail
 refine wp_loop_rounds 5 ?_
 rw [rounds_succ]
 go_wp2_with fail
 rw [rounds_succ]
 go_wp2_with fail
 rw [rounds_succ]
 go_wp2_with fail
 rw [rounds_succ]
 go_wp2_with fail
 rw [rounds_succ]
 go_wp2_with fail
 go_ret
 exact ⟨rfl, rfl⟩
theorem setKind_5 (b o n cap : Nat) (x y : Dat) (xk yk : Value) (w : World) (hn : 2 ≤ n) (c0 : w.cell? ⟨b, o, none⟩ = some (.int .i64 x.kind)) (c2 : w.cell? ⟨b, o + 2, none⟩ = some (.string x.name)) (d0 : w.cell? ⟨b, o + 6, none⟩ = some (.int .i64 y.kind)) (h1 : x.kind = 3) (h2 : y.kind = 4) (h0 : x.name ≠ ⟨#[]⟩) (tw : TabW w) (hx : x.name = bRename) : Calls Tryz.prog 143 #[.slice (some ⟨b, o, none⟩) n cap] w fun e w' => e = .returned (.int .i64 5) ∧ w' = w := by
 have l1 : decide ((n : Int) < 2) = false := by simp; omega
 have l2 : (0 : Int) < (n : Int) := by omega
 have l3 : (1 : Int) < (n : Int) := by omega
 have k1 : (x.kind != 3) = false := by simpa using h1
 have k2 : (y.kind != 4) = false := by simpa using h2
 obtain ⟨t0, t1, t2, t3, t4, t5⟩ := tw
 have j0 := ix_0
 have j1 := ix_1
 have j2 := ix_2
 have j3 := ix_3
 have j4 := ix_4
 have j5 := ix_5
 have e0 : ((⟨#[]⟩ : ByteArray).toList == x.name.toList) = false := beqS_ne (fun h => h0 h.symm)
 have e0' : x.name.toList.isEmpty = false := by simpa using e0
 have e2 : (bOnly.toList == x.name.toList) = false := by rw [hx]; exact beqS_ne (by simp [bOnly, bExcept, bPrefix, bRename])
 have e3 : (bExcept.toList == x.name.toList) = false := by rw [hx]; exact beqS_ne (by simp [bOnly, bExcept, bPrefix, bRename])
 have e4 : (bPrefix.toList == x.name.toList) = false := by rw [hx]; exact beqS_ne (by simp [bOnly, bExcept, bPrefix, bRename])
 have e5 : (bRename.toList == x.name.toList) = true := by rw [hx]; simp
 clear h1 h2 h0 hx
 clear hn
 go_enter Tryz.func143, Tryz.ntmps143
 go_wp2_with fail
 refine wp_loop_rounds 6 ?_
 rw [rounds_succ]
 go_wp2_with fail
 rw [rounds_succ]
 go_wp2_with fail
 rw [rounds_succ]
 go_wp2_with fail
 rw [rounds_succ]
 go_wp2_with fail
 rw [rounds_succ]
 go_wp2_with fail
 rw [rounds_succ]
 go_wp2_with fail
 go_ret
 exact ⟨rfl, rfl⟩
theorem setKind_c (b o n cap : Nat) (x y : Dat) (xk yk : Value) (w : World) (hn : 2 ≤ n) (c0 : w.cell? ⟨b, o, none⟩ = some (.int .i64 x.kind)) (c2 : w.cell? ⟨b, o + 2, none⟩ = some (.string x.name)) (d0 : w.cell? ⟨b, o + 6, none⟩ = some (.int .i64 y.kind)) (h1 : x.kind = 3) (h2 : y.kind = 4) (h0 : x.name ≠ ⟨#[]⟩) (tw : TabW w) (n2 : ¬ x.name = bOnly) (n3 : ¬ x.name = bExcept) (n4 : ¬ x.name = bPrefix) (n5 : ¬ x.name = bRename) : Calls Tryz.prog 143 #[.slice (some ⟨b, o, none⟩) n cap] w fun e w' => e = .returned (.int .i64 1) ∧ w' = w := by
 have l1 : decide ((n : Int) < 2) = false := by simp; omega
 have l2 : (0 : Int) < (n : Int) := by omega
 have l3 : (1 : Int) < (n : Int) := by omega
 have k1 : (x.kind != 3) = false := by simpa using h1
 have k2 : (y.kind != 4) = false := by simpa using h2
 obtain ⟨t0, t1, t2, t3, t4, t5⟩ := tw
 have j0 := ix_0
 have j1 := ix_1
 have j2 := ix_2
 have j3 := ix_3
 have j4 := ix_4
 have j5 := ix_5
 have e0 : ((⟨#[]⟩ : ByteArray).toList == x.name.toList) = false := beqS_ne (fun h => h0 h.symm)
 have e0' : x.name.toList.isEmpty = false := by simpa using e0
 have e2 : (bOnly.toList == x.name.toList) = false := beqS_ne (fun h => n2 h.symm)
 have e3 : (bExcept.toList == x.name.toList) = false := beqS_ne (fun h => n3 h.symm)
 have e4 : (bPrefix.toList == x.name.toList) = false := beqS_ne (fun h => n4 h.symm)
 have e5 : (bRename.toList == x.name.toList) = false := beqS_ne (fun h => n5 h.symm)
 clear h1 h2 h0 n2 n3 n4 n5
 clear hn
 go_enter Tryz.func143, Tryz.ntmps143
 go_wp2_with fail
 refine wp_loop_rounds 7 ?_
 rw [rounds_succ]
 go_wp2_with fail
 rw [rounds_succ]
 go_wp2_with fail
 rw [rounds_succ]
 go_wp2_with fail
 rw [rounds_succ]
 go_wp2_with fail
 rw [rounds_succ]
 go_wp2_with fail
 rw [rounds_succ]
 go_wp2_with fail
 rw [rounds_succ]
 go_wp2_with fail
 go_ret
 exact ⟨rfl, rfl⟩
theorem kind_of {x y : Dat} (r : List Dat) (h1 : x.kind = 3) (h2 : y.kind = 4) (h0 : x.name ≠ ⟨#[]⟩) : kindF (x :: y :: r) = if x.name = bOnly then 2 else if x.name = bExcept then 3 else if x.name = bPrefix then 4 else if x.name = bRename then 5 else 1 := by
 show (if x.kind = 3 ∧ y.kind = 4 then (match placeB x.name 0 setWordsB with | some i => (i : Int) | none => 1) else 1) = _
 rw [if_pos (And.intro h1 h2)]
 simp only [setWordsB, placeB]
 rw [if_neg (fun h => h0 h.symm), if_neg (fun h => h0 h.symm)]
 by_cases a : x.name = bOnly
 ·rw [if_pos a, if_pos a.symm]; rfl
 rw [if_neg a, if_neg (fun h => a h.symm)]
 by_cases b : x.name = bExcept
 ·rw [if_pos b, if_pos b.symm]; rfl
 rw [if_neg b, if_neg (fun h => b h.symm)]
 by_cases c : x.name = bPrefix
 ·rw [if_pos c, if_pos c.symm]; rfl
 rw [if_neg c, if_neg (fun h => c h.symm)]
 by_cases d : x.name = bRename
 ·rw [if_pos d, if_pos d.symm]; rfl
 rw [if_neg d, if_neg (fun h => d h.symm)]
theorem setKind_any (B f : Nat) (l : List Dat) (a : Option Addr) (cap : Nat) (w : World) (hd : Dc (fun k => k < B) w f a l) (ho : okL l) (tw : TabW w) : Calls Tryz.prog 143 #[.slice a l.length cap] w fun e w' => e = .returned (.int .i64 (kindF l)) ∧ w' = w := by
 match l, hd, ho with
 | [], hd, ho => exact setKind_few a 0 cap (by omega) w
 | [x], hd, ho => exact setKind_few a 1 cap (by omega) w
 | x :: y :: r, hd, ho =>
  obtain ⟨g, b, o, xa, xc, hg, ha, hx, _⟩ := hd.at (i := 0) (d := x) rfl
  obtain ⟨g', b', o', ya, yc, hg', ha', hy, _⟩ := hd.at (i := 1) (d := y) rfl
  rw [ha] at ha'
  cases ha'
  subst ha
  have c0 := hx.c0
  have c2 := hx.c2
  have d0 := hy.c0
  rw [Nat.zero_mul, Nat.add_zero] at c0 c2
  rw [Nat.one_mul] at d0
  have hn : 2 ≤ (x :: y :: r).length := by simp
  by_cases h1 : x.kind = 3
  ·by_cases h2 : y.kind = 4
   ·have h0 := (okD_sym (okL_mem ho x (by simp)) h1).2
    rw [kind_of r h1 h2 h0]
    by_cases a2 : x.name = bOnly
    ·rw [if_pos a2]; exact setKind_2 b o _ cap x y undef undef w hn c0 c2 d0 h1 h2 h0 tw a2
    rw [if_neg a2]
    by_cases a3 : x.name = bExcept
    ·rw [if_pos a3]; exact setKind_3 b o _ cap x y undef undef w hn c0 c2 d0 h1 h2 h0 tw a3
    rw [if_neg a3]
    by_cases a4 : x.name = bPrefix
    ·rw [if_pos a4]; exact setKind_4 b o _ cap x y undef undef w hn c0 c2 d0 h1 h2 h0 tw a4
    rw [if_neg a4]
    by_cases a5 : x.name = bRename
    ·rw [if_pos a5]; exact setKind_5 b o _ cap x y undef undef w hn c0 c2 d0 h1 h2 h0 tw a5
    rw [if_neg a5]
    exact setKind_c b o _ cap x y undef undef w hn c0 c2 d0 h1 h2 h0 tw a2 a3 a4 a5
   rw [show kindF (x :: y :: r) = 1 from by show (if x.kind = 3 ∧ y.kind = 4 then (match placeB x.name 0 setWordsB with | some i => (i : Int) | none => 1) else 1) = _; rw [if_neg (fun h => h2 h.2)]]
   exact setKind_b b o _ cap x y undef undef w hn c0 c2 d0 h1 h2
  rw [show kindF (x :: y :: r) = 1 from by show (if x.kind = 3 ∧ y.kind = 4 then (match placeB x.name 0 setWordsB with | some i => (i : Int) | none => 1) else 1) = _; rw [if_neg (fun h => h1 h.1)]]
  exact setKind_a b o _ cap x y undef undef w hn c0 c2 d0 h1
theorem just_len {d : Dat} {n : Nat} {l : List ByteArray} (ho : okD d) (h : justF d n = .ok l) : l.length = n ∧ ∀ x ∈ l, x.size ≤ 20 := by
 unfold justF at h
 by_cases c : d.kind = 4 ∧ d.kids.length = n
 ·rw [if_pos c] at h
  obtain ⟨h1, h2⟩ := namesF_ok (okD_list ho c.1).2 h
  exact ⟨by omega, h2⟩
 rw [if_neg c] at h; cases h
theorem StrR.at {B : Nat} {l : List ByteArray} {v : Value} {w : World} (h : StrR B l v w) (h0 : 0 < l.length) : ∃ g cap, v = .slice (some ⟨g, 0, none⟩) l.length cap ∧ l.length ≤ cap ∧ B ≤ g ∧ g < w.heap.size ∧ v.ownBlock = some g ∧ ∀ j x, l[j]? = some x → w.cell? ⟨g, j, none⟩ = some (.string x) := by
 obtain ⟨g, cap, rfl, h1, h2⟩ := World.ownsRow.form h h0
 obtain ⟨va, vc, he, hle⟩ := own_sliceL h
 cases he
 refine ⟨g, cap, rfl, hle, h1, h2, rfl, fun j x hx => ?_⟩
 have := World.ownsRow.cells h (g := g) rfl j (.string x) (by rw [List.getElem?_map, hx]; rfl)
 rw [addr_add] at this
 exact this
theorem renamesF_at {ds : List Dat} {j : Nat} {d : Dat} (h : ds[j]? = some d) : renamesF (ds.drop j) = (justF d 2).bind fun p => (renamesF (ds.drop (j + 1))).bind fun q => .ok (p.getD 0 ⟨#[]⟩ :: q.1, p.getD 1 ⟨#[]⟩ :: q.2) := by
 obtain ⟨hi, e⟩ := List.getElem?_eq_some_iff.1 h
 rw [List.drop_eq_getElem_cons hi, e, renamesF]
theorem renamesF_step {ds : List Dat} {j : Nat} {d : Dat} {x y : ByteArray} {l m : List ByteArray} (h : ds[j]? = some d) (hp : justF d 2 = .ok [x, y]) (hl : renamesF ds = (renamesF (ds.drop j)).bind fun r => .ok (l ++ r.1, m ++ r.2)) : renamesF ds = (renamesF (ds.drop (j + 1))).bind fun r => .ok (l ++ [x] ++ r.1, m ++ [y] ++ r.2) := by
 rw [hl, renamesF_at h, hp]
 simp only [Er.bind]
 cases renamesF (ds.drop (j + 1)) with
 | no e => rfl
 | ok r => simp
theorem renamesF_bad {ds : List Dat} {j : Nat} {d : Dat} {e : Int} {l m : List ByteArray} (h : ds[j]? = some d) (hp : justF d 2 = .no e) (hl : renamesF ds = (renamesF (ds.drop j)).bind fun r => .ok (l ++ r.1, m ++ r.2)) : renamesF ds = .no e := by
 rw [hl, renamesF_at h, hp]
 rfl
theorem ren_first {w wr w2 w4 : World} {va ua : Option Addr} {vc uc g g1 cp1 : Nat} {l m : List ByteArray} {x y : ByteArray} (hR : Below w.heap.size w wr) (h1 : StrR w.heap.size l (.slice va l.length vc) wr) (h2 : StrR w.heap.size m (.slice ua m.length uc) wr) (hne : ∀ g, (Value.slice va l.length vc).ownBlock = some g → (Value.slice ua m.length uc).ownBlock ≠ some g) (hb2 : Below wr.heap.size wr w2) (hq : w2.cell? ⟨g, 1, none⟩ = some (.string y)) (hgs : g < w2.heap.size) (hgw : wr.heap.size ≤ g)
 (hown : w4.ownsRow w.heap.size 9 1 (.slice (some ⟨g1, 0, none⟩) (l.length + 1) cp1) (l.length + 1) (l.map Value.string ++ [.string x])) (hgrow : (w2.alloc (.cells #[.string x] 9)).grownBy w4 (Value.slice va l.length vc).ownBlock) (hat : (Value.slice va l.length vc).ownBlock = some g1 ∨ g1 = w2.heap.size + 1) :
 Below w.heap.size w w4 ∧ StrR w.heap.size (l ++ [x]) (.slice (some ⟨g1, 0, none⟩) (l.length + 1) cp1) w4 ∧ StrR w.heap.size m (.slice ua m.length uc) w4 ∧ w4.cell? ⟨g, 1, none⟩ = some (.string y) ∧ (Value.slice ua m.length uc).ownBlock ≠ some g1 ∧ w.heap.size ≤ w4.heap.size ∧ g1 < w4.heap.size := by
 have hwr := hR.size
 have hs2 := hb2.size
 have hb4 : Below w.heap.size w w4 := (hR.trans (hb2.mono hwr)).trans (((Below.refl _ _).alloc (by omega) _).trans (grown_below hgrow (by simp; omega) (fun q hq => (own_typeL h1 q hq).1)))
 have key : ∀ k, k < w2.heap.size → (Value.slice va l.length vc).ownBlock ≠ some k → w4.heap[k]? = w2.heap[k]? := fun k hk hn => (hgrow.block k (by simp; omega) (fun e => hn e.symm)).trans (Below.heap_alloc _ _ _ hk)
 refine ⟨hb4, by simpa [StrR] using hown, own_keepL h2 (fun q hq => ?_), ?_, ?_, hb4.size, ?_⟩
 ·have hq' := (own_typeL h2 q hq).2.1
  exact (key q (by omega) (fun e => hne q e hq)).trans (hb2.block q hq')
 ·refine (World.cell?_of_block (a := ⟨g, 1, none⟩) (key g hgs (fun e => ?_))).trans hq
  have := (own_typeL h1 g e).2.1
  omega
 ·intro e
  rcases hat with h | h
  ·exact hne g1 h e
  have := (own_typeL h2 g1 e).2.1
  omega
 exact (own_typeL hown g1 rfl).2.1
theorem ren_second {w w4 w6 : World} {ua : Option Addr} {uc g1 cp1 g2 cp2 n : Nat} {l m : List ByteArray} {y : ByteArray} (hR : Below w.heap.size w w4) (h1 : StrR w.heap.size l (.slice (some ⟨g1, 0, none⟩) n cp1) w4) (h2 : StrR w.heap.size m (.slice ua m.length uc) w4) (hne : (Value.slice ua m.length uc).ownBlock ≠ some g1)
 (hown : w6.ownsRow w.heap.size 9 1 (.slice (some ⟨g2, 0, none⟩) (m.length + 1) cp2) (m.length + 1) (m.map Value.string ++ [.string y])) (hgrow : (w4.alloc (.cells #[.string y] 9)).grownBy w6 (Value.slice ua m.length uc).ownBlock) (hat : (Value.slice ua m.length uc).ownBlock = some g2 ∨ g2 = w4.heap.size + 1) :
 Below w.heap.size w w6 ∧ StrR w.heap.size l (.slice (some ⟨g1, 0, none⟩) n cp1) w6 ∧ StrR w.heap.size (m ++ [y]) (.slice (some ⟨g2, 0, none⟩) (m.length + 1) cp2) w6 ∧ ∀ q, (Value.slice (some ⟨g1, 0, none⟩) n cp1).ownBlock = some q → (Value.slice (some ⟨g2, 0, none⟩) (m.length + 1) cp2).ownBlock ≠ some q := by
 have hs := hR.size
 have hb6 : Below w.heap.size w w6 := hR.trans (((Below.refl _ _).alloc hs _).trans (grown_below hgrow (by simp; omega) (fun q hq => (own_typeL h2 q hq).1)))
 have hg1 := (own_typeL h1 g1 rfl).2.1
 refine ⟨hb6, own_keepL h1 (fun q hq => ?_), by simpa [StrR] using hown, fun q hq e => ?_⟩
 ·cases hq
  exact (hgrow.block g1 (by simp; omega) (fun e => hne e.symm)).trans (Below.heap_alloc _ _ _ hg1)
 cases hq
 have e' : g2 = g1 := by cases e; rfl
 subst e'
 rcases hat with h | h
 ·exact hne h
 omega
set_option maxRecDepth 100000 in
set_option maxHeartbeats 6400000 in
theorem renames_any (B f : Nat) (ds : List Dat) (a : Option Addr) (cap : Nat) (w : World) (hB : B ≤ w.heap.size) (hd : Dc (fun k => k < B) w f a ds) (hn : ds.length ≤ 2000) (hc : ds.length ≤ cap) (ho : okL ds) :
 Calls Tryz.prog 145 #[.slice a ds.length cap] w (ToldE (renamesF ds) (fun q v w' => ∃ v1 v2, v = .tuple #[v1, v2] ∧ StrR w.heap.size q.1 v1 w' ∧ StrR w.heap.size q.2 v2 w') w) := by
 have HD : Hid (∀ W j d, Below w.heap.size w W → ds[j]? = some d → ∃ b o a' cap' g, a = some ⟨b, o, none⟩ ∧ DAt (fun k => k < B) W b (o + j * 6) d a' cap' ∧ Dc (fun k => k < B) W g a' d.kids) := fun W j d hb hj => by
  obtain ⟨g, b, o, a', cap', _, h1, h2, h3⟩ := hd.at hj
  exact ⟨b, o, a', cap', g, h1, h2.below (hb.mono hB), h3.below (hb.mono hB)⟩
 have HJN : Hid (∀ d ∈ ds, ∀ a' cap' g W, Below w.heap.size w W → d.kids.length ≤ cap' → Dc (fun k => k < B) W g a' d.kids → Calls Tryz.prog 141 #[dv d a' cap', .int .i64 2] W (ToldE (justF d 2) (fun l v w' => StrR (W.heap.size + 1) l v w') W)) := fun d hdm a' cap' g W hb hc hk => just_any 2 (by omega) B g d a' cap' W (Nat.le_trans hB hb.size) hk hc (okL_mem ho d hdm)
 have HL : Hid (∀ j, j < ds.length → ∃ d, ds[j]? = some d) := fun j hj => ⟨_, List.getElem?_eq_getElem hj⟩
 have HOK := hidd ho
 obtain ⟨i0, hinf, hz0, hz1, hz2⟩ := info_partsL infoStr
 obtain ⟨n, hn'⟩ : ∃ n, n = ds.length := ⟨_, rfl⟩
 have HN := hidd hn'
 rw [← hn'] at hn hc HL ⊢
 have H0 : Hid (renamesF ds = (renamesF (ds.drop 0)).bind fun r => .ok ([] ++ r.1, [] ++ r.2)) := by
  show _ = _
  simp only [List.drop_zero, List.nil_append]
  cases renamesF ds <;> rfl
 clear hd ho hn'
 go_enter Tryz.func145, Tryz.ntmps145
 go_wp2_with fail
 go_loopw [2, 3, 5, 6, 9] (fun v1 v2 _ _ ix wr => ∃ (j : Nat) (l m : List ByteArray), j ≤ n ∧ ix = .int .i64 j ∧ Hid (l.length = j ∧ m.length = j) ∧ Hid (Below w.heap.size w wr ∧ StrR w.heap.size l v1 wr ∧ StrR w.heap.size m v2 wr ∧ (∀ g, v1.ownBlock = some g → v2.ownBlock ≠ some g) ∧ renamesF ds = (renamesF (ds.drop j)).bind fun r => .ok (l ++ r.1, m ++ r.2))) (fun _ _ _ _ ix _ => n - (intOf ix).toNat)
 case atStart => exact ⟨0, [], [], Nat.zero_le _, rfl, ⟨rfl, rfl⟩, Below.refl _ _, World.ownsRow_nil _ _ _ _, World.ownsRow_nil _ _ _ _, fun g hg => (by cases hg), H0.out⟩
 obtain ⟨j, l, m, hj, rfl, HJ, HR⟩ := hrel
 obtain ⟨va, vc, rfl, hvc⟩ := own_sliceL HR.out.2.1
 obtain ⟨ua, uc, rfl, huc⟩ := own_sliceL HR.out.2.2.1
 have hl : l.length ≤ 100000 := by have := HJ.out.1; omega
 have hm : m.length ≤ 100000 := by have := HJ.out.2; omega
 by_cases hlt : j < n
 rotate_left
 ·obtain rfl : j = n := by omega
  have HE : Hid (renamesF ds = .ok (l, m)) := by
   show _ = _
   rw [HR.out.2.2.2.2, List.drop_eq_nil_of_le (by rw [← HN.out]; exact Nat.le_refl _), renamesF]
   simp [Er.bind]
  go_wp2_with fail
  refine bodyPost_ret (v := .tuple #[.slice va l.length vc, .slice ua m.length uc]) (by simp [results, Tryz.results145]) rfl ⟨HR.out.1, ?_⟩
  rw [HE.out]
  exact ⟨_, rfl, _, _, rfl, HR.out.2.1, HR.out.2.2.1⟩
 obtain ⟨d, hdj⟩ := HL.out j hlt
 obtain ⟨b, o, a', cap', g0, rfl, hA, hK⟩ := HD.out wr j d HR.out.1 hdj
 obtain ⟨_, c0, c1, c2, c3, c4, c5, _, hlk⟩ := hA
 have i1 : (0 : Int) ≤ (j : Int) := by omega
 have i2 : (j : Int) < (n : Int) := by omega
 have HB1 : Hid (Below wr.heap.size wr (wr.alloc (.cells #[.int .i64 d.kind, .int .i64 d.n, .string d.name, .int .i64 d.stamp, .int .i64 d.lib, .slice a' d.kids.length cap'] 26))) := (Below.refl _ _).alloc (Nat.le_refl _) _
 have JN0 := HJN.out d (List.mem_of_getElem? hdj) a' cap' g0 (wr.alloc (.cells #[.int .i64 d.kind, .int .i64 d.n, .string d.name, .int .i64 d.stamp, .int .i64 d.lib, .slice a' d.kids.length cap'] 26)) (HR.out.1.trans (HB1.out.mono HR.out.1.size)) hlk (hK.below (HB1.out.mono (Nat.le_trans hB HR.out.1.size)))
 cases hJ : justF d 2 with
 | ok p =>
  rw [hJ] at JN0
  obtain ⟨hp2, _⟩ := just_len (okL_mem HOK.out d (List.mem_of_getElem? hdj)) hJ
  obtain ⟨x, y, rfl⟩ : ∃ x y, p = [x, y] := by
   match p, hp2 with
   | [x, y], _ => exact ⟨x, y, rfl⟩
  have HST := hidd (renamesF_step hdj hJ HR.out.2.2.2.2)
  unfold ToldE dv at JN0
  simp only at JN0
  have JN := hidd JN0
  clear JN0 hdj hK hJ hp2
  generalize d.kids.length = kn at *
  go_wp2_with fail
  refine JN.out.mono ?_
  rintro e w2 ⟨hb2, v, rfl, hv⟩
  have HB2 : Hid (Below wr.heap.size wr w2) := HB1.out.trans (hb2.mono HB1.out.size)
  obtain ⟨g, gc, rfl, hgc, hgB, hgs, hgo, hcell⟩ := StrR.at hv (by simp)
  have q0 := hcell 0 x rfl
  have q1 := hcell 1 y rfl
  have hw2 : w.heap.size ≤ w2.heap.size := Nat.le_trans HR.out.1.size HB2.out.size
  have hgw : wr.heap.size ≤ g := by have := HB1.out.size; simp at hgB; omega
  have q0a : (w2.alloc (.cells #[.string x] 9)).cell? ⟨g, 0, none⟩ = some (.string x) := (((Below.refl w2.heap.size w2).alloc (Nat.le_refl _) _).cell (p := ⟨g, 0, none⟩) hgs).trans q0
  have HO2 : Hid ((w2.alloc (.cells #[.string x] 9)).ownsRow w.heap.size 9 1 (.slice va l.length vc) l.length (l.map Value.string)) := (own_below HR.out.2.1 HB2.out).alloc _
  have HQ : Hid (w2.cell? ⟨g, 1, none⟩ = some (.string y) ∧ g < w2.heap.size ∧ wr.heap.size ≤ g ∧ w2.ownsRow w.heap.size 9 1 (.slice ua m.length uc) m.length (m.map Value.string)) := ⟨q1, hgs, hgw, own_below HR.out.2.2.1 HB2.out⟩
  clear hb2 JN hv hcell hgB hgo q1 hgs hgw
  go_wp2_with (at_builtin; first
   | (refine wpList_append_lies _ rfl _ _ 23 rfl w.heap.size 9 i0 _ 1 16 Tryz.underlying23 hinf hz0 hz1 hz2 rfl (by decide) (.slice va l.length vc) l.length (l.map Value.string) rfl (by exact HO2.out) ⟨w2.heap.size, 0, none⟩ 1 1 [.string x] rfl rfl (by exact one_newsS w2 _ 9) (by intro u hu; simp at hu; subst hu; rfl) (by decide) (by unfold maxLen; omega) (by omega) (by simp; omega) (w2.heap.size + 1) (by simp) ?_; intro g1 cp1 w4 hown hgrow hat hlt4; have HX := hidd (ren_first HR.out.1 HR.out.2.1 HR.out.2.2.1 HR.out.2.2.2.1 HB2.out HQ.out.1 HQ.out.2.1 HQ.out.2.2.1 hown hgrow hat); have z1 := HX.out.2.2.2.1; have HO3 : Hid ((w4.alloc (.cells #[.string y] 9)).ownsRow w.heap.size 9 1 (.slice ua m.length uc) m.length (m.map Value.string)) := HX.out.2.2.1.alloc _; have hw4 : w.heap.size ≤ w4.heap.size := HX.out.2.2.2.2.2.1; clear hown hgrow hat hlt4)
   | (refine wpList_append_lies _ rfl _ _ 23 rfl w.heap.size 9 i0 _ 1 16 Tryz.underlying23 hinf hz0 hz1 hz2 rfl (by decide) (.slice ua m.length uc) m.length (m.map Value.string) rfl (by exact HO3.out) ⟨w4.heap.size, 0, none⟩ 1 1 [.string y] rfl rfl (by exact one_newsS w4 _ 9) (by intro u hu; simp at hu; subst hu; rfl) (by decide) (by unfold maxLen; omega) (by omega) (by simp; omega) (w4.heap.size + 1) (by simp) ?_; intro g2 cp2 w6 hown hgrow hat hlt4; have HY := hidd (ren_second HX.out.1 HX.out.2.1 HX.out.2.2.1 HX.out.2.2.2.2.1 hown hgrow hat); clear hown hgrow hat hlt4))
  go_roundw
  case rel => exact ⟨j + 1, l ++ [x], m ++ [y], hlt, by go_num, ⟨by have := HJ.out.1; simp; omega, by have := HJ.out.2; simp; omega⟩, HY.out.1, HY.out.2.1, HY.out.2.2.1, HY.out.2.2.2, HST.out⟩
  case measure => simp [intOf]; omega
 | no x =>
  rw [hJ] at JN0
  have HST := hidd (renamesF_bad hdj hJ HR.out.2.2.2.2)
  unfold ToldE dv at JN0
  simp only at JN0
  have JN := hidd JN0
  clear JN0 hdj hK hJ
  generalize d.kids.length = kn at *
  go_wp2_with fail
  refine JN.out.mono ?_
  rintro e w2 ⟨hb2, rfl⟩
  have HB2 : Hid (Below w.heap.size w w2) := HR.out.1.trans ((HB1.out.trans (hb2.mono HB1.out.size)).mono HR.out.1.size)
  clear hb2 JN
  go_wp2_with fail
  refine ⟨rfl, HB2.out, ?_⟩
  rw [HST.out]
def SV (ok : Nat → Prop) (l : List ByteArray) (v : Value) (w : World) : Prop := ∃ a c, v = .slice a l.length c ∧ l.length ≤ c ∧ (l = [] ∨ ∃ b o, a = some ⟨b, o, none⟩ ∧ ok b ∧ ∀ j x, l[j]? = some x → w.cell? ⟨b, o + j, none⟩ = some (.string x))
theorem SV.nil (ok : Nat → Prop) (w : World) : SV ok [] (.slice none 0 0) w := ⟨none, 0, rfl, Nat.le_refl _, Or.inl rfl⟩
theorem SV.stay {ok ok' : Nat → Prop} {w w' : World} {l : List ByteArray} {v : Value} (h : SV ok l v w) (hw : ∀ k, ok k → w'.heap[k]? = w.heap[k]?) (ho : ∀ k, ok k → ok' k) : SV ok' l v w' := by
 obtain ⟨a, c, h1, h2, h3⟩ := h
 refine ⟨a, c, h1, h2, ?_⟩
 rcases h3 with h3 | ⟨b, o, h4, h5, h6⟩
 ·exact Or.inl h3
 exact Or.inr ⟨b, o, h4, ho b h5, fun j x hj => (World.cell?_of_block (a := ⟨b, o + j, none⟩) (hw b h5)).trans (h6 j x hj)⟩
theorem StrR.sv {B : Nat} {l : List ByteArray} {v : Value} {w : World} (h : StrR B l v w) : SV (fun k => B ≤ k ∧ k < w.heap.size) l v w := by
 by_cases h0 : l = []
 ·subst h0
  obtain ⟨a, c, rfl, hc⟩ := own_sliceL h
  exact ⟨a, c, rfl, hc, Or.inl rfl⟩
 obtain ⟨g, cap, rfl, h1, h2, h3, _, h4⟩ := h.at (List.length_pos_iff.2 h0)
 exact ⟨_, cap, rfl, h1, Or.inr ⟨g, 0, rfl, ⟨h2, h3⟩, fun j x hj => by rw [Nat.zero_add]; exact h4 j x hj⟩⟩
inductive SeL (ok : Nat → Prop) (w : World) : List Se → Value → Prop
 | none (a : Option Addr) (c : Nat) : SeL ok w [] (.slice a 0 c)
 | some (ks : List Se) (b o c : Nat) (nv av kv : Nat → Value) : ok b → ks.length ≤ c →
  (∀ (j : Nat) (k : Int) (nm : ByteArray) (ns as_ : List ByteArray) (p : ByteArray) (ks' : List Se), ks[j]? = Option.some (.mk k nm ns as_ p ks') → w.cell? ⟨b, o + j * 6, Option.none⟩ = Option.some (.int .i64 k) ∧ w.cell? ⟨b, o + j * 6 + 1, Option.none⟩ = Option.some (.string nm) ∧ w.cell? ⟨b, o + j * 6 + 2, Option.none⟩ = Option.some (nv j) ∧ w.cell? ⟨b, o + j * 6 + 3, Option.none⟩ = Option.some (av j) ∧ w.cell? ⟨b, o + j * 6 + 4, Option.none⟩ = Option.some (.string p) ∧ w.cell? ⟨b, o + j * 6 + 5, Option.none⟩ = Option.some (kv j) ∧ SV ok ns (nv j) w ∧ SV ok as_ (av j) w) →
  (∀ (j : Nat) (k : Int) (nm : ByteArray) (ns as_ : List ByteArray) (p : ByteArray) (ks' : List Se), ks[j]? = Option.some (.mk k nm ns as_ p ks') → SeL ok w ks' (kv j)) → SeL ok w ks (.slice (Option.some ⟨b, o, Option.none⟩) ks.length c)
theorem SeL.stay {ok ok' : Nat → Prop} {w w' : World} (hw : ∀ k, ok k → w'.heap[k]? = w.heap[k]?) (ho : ∀ k, ok k → ok' k) {ks : List Se} {v : Value} (h : SeL ok w ks v) : SeL ok' w' ks v := by
 induction h with
 | none a c => exact .none a c
 | some ks b o c nv av kv hb hc hcell _ ih =>
  have e : ∀ q, w'.cell? ⟨b, q, Option.none⟩ = w.cell? ⟨b, q, Option.none⟩ := fun q => World.cell?_of_block (a := ⟨b, q, Option.none⟩) (hw b hb)
  refine .some ks b o c nv av kv (ho b hb) hc (fun j k nm ns as_ p ks' hj => ?_) ih
  obtain ⟨g0, g1, g2, g3, g4, g5, g6, g7⟩ := hcell j k nm ns as_ p ks' hj
  exact ⟨(e _).trans g0, (e _).trans g1, (e _).trans g2, (e _).trans g3, (e _).trans g4, (e _).trans g5, g6.stay hw ho, g7.stay hw ho⟩
def SeV (ok : Nat → Prop) (w : World) : Se → Value → Prop
 | .mk k nm ns as_ p ks, v => ∃ nv av kv, v = .agg #[.int .i64 k, .string nm, nv, av, .string p, kv] ∧ SV ok ns nv w ∧ SV ok as_ av w ∧ SeL ok w ks kv
theorem SeV.stay {ok ok' : Nat → Prop} {w w' : World} (hw : ∀ k, ok k → w'.heap[k]? = w.heap[k]?) (ho : ∀ k, ok k → ok' k) {s : Se} {v : Value} (h : SeV ok w s v) : SeV ok' w' s v := by
 cases s
 obtain ⟨nv, av, kv, h1, h2, h3, h4⟩ := h
 exact ⟨nv, av, kv, h1, h2.stay hw ho, h3.stay hw ho, h4.stay hw ho⟩
theorem SeL.one {ok : Nat → Prop} {w : World} {b : Nat} {s : Se} {v0 v1 v2 v3 v4 v5 : Value} (hs : SeV ok w s (.agg #[v0, v1, v2, v3, v4, v5])) (hb : ok b) (hk : w.heap[b]? = Option.some (.cells #[v0, v1, v2, v3, v4, v5] 73 (0, 0))) : SeL ok w [s] (.slice (Option.some ⟨b, 0, Option.none⟩) 1 1) := by
 cases s with
 | mk k nm ns as_ p ks =>
  obtain ⟨nv, av, kv, h1, h2, h3, h4⟩ := hs
  simp at h1
  obtain ⟨rfl, rfl, rfl, rfl, rfl, rfl⟩ := h1
  refine SeL.some [_] b 0 1 (fun _ => v2) (fun _ => v3) (fun _ => v5) hb (Nat.le_refl _) (fun j k' nm' ns' as' p' ks' hj => ?_) (fun j k' nm' ns' as' p' ks' hj => ?_)
  ·match j, hj with
   | 0, hj =>
    simp at hj
    obtain ⟨rfl, rfl, rfl, rfl, rfl, rfl⟩ := hj
    exact ⟨(cellO hk).trans rfl, (cellO hk).trans rfl, (cellO hk).trans rfl, (cellO hk).trans rfl, (cellO hk).trans rfl, (cellO hk).trans rfl, h2, h3⟩
   | j + 1, hj => simp at hj
  match j, hj with
  | 0, hj =>
   simp at hj
   obtain ⟨rfl, rfl, rfl, rfl, rfl, rfl⟩ := hj
   exact h4
  | j + 1, hj => simp at hj
theorem cell_setL {W : World} {M q : Nat} {cs : Array Value} {t : TypeId} (h : W.heap[M]? = some (.cells cs t (0, 0))) (v : Value) : (W.setCell ⟨M, q, none⟩ v).heap[M]? = some (.cells (cs.setIfInBounds q v) t (0, 0)) := heap_setCell_same W M q cs t v h
theorem set6 {W : World} {M : Nat} {c0 c1 c2 c3 c4 c5 : Value} {t : TypeId} (h : W.heap[M]? = some (.cells #[c0, c1, c2, c3, c4, c5] t (0, 0))) (v0 v1 v2 v3 v4 v5 : Value) : ((((((W.setCell ⟨M, 0, none⟩ v0).setCell ⟨M, 1, none⟩ v1).setCell ⟨M, 2, none⟩ v2).setCell ⟨M, 3, none⟩ v3).setCell ⟨M, 4, none⟩ v4).setCell ⟨M, 5, none⟩ v5).heap[M]? = some (.cells #[v0, v1, v2, v3, v4, v5] t (0, 0)) :=
 cell_setL (cell_setL (cell_setL (cell_setL (cell_setL (cell_setL h v0) v1) v2) v3) v4) v5
theorem six_at {w : World} {N : Nat} {c0 c1 c2 c3 c4 c5 : Value} {t : TypeId} (h : w.heap[N]? = some (.cells #[c0, c1, c2, c3, c4, c5] t (0, 0))) :
 w.cell? ⟨N, 0, none⟩ = some c0 ∧ w.cell? ⟨N, 1, none⟩ = some c1 ∧ w.cell? ⟨N, 2, none⟩ = some c2 ∧ w.cell? ⟨N, 3, none⟩ = some c3 ∧ w.cell? ⟨N, 4, none⟩ = some c4 ∧ w.cell? ⟨N, 5, none⟩ = some c5 :=
 ⟨(cellO h).trans rfl, (cellO h).trans rfl, (cellO h).trans rfl, (cellO h).trans rfl, (cellO h).trans rfl, (cellO h).trans rfl⟩
theorem six_fz {w : World} {N : Nat} {cs : Array Value} {t : TypeId} (h : w.heap[N]? = some (.cells cs t (0, 0))) :
 w.frozen? ⟨N, 0, none⟩ = false ∧ w.frozen? ⟨N, 1, none⟩ = false ∧ w.frozen? ⟨N, 2, none⟩ = false ∧ w.frozen? ⟨N, 3, none⟩ = false ∧ w.frozen? ⟨N, 4, none⟩ = false ∧ w.frozen? ⟨N, 5, none⟩ = false :=
 ⟨looseO h, looseO h, looseO h, looseO h, looseO h, looseO h⟩
end Go.Proofs.YtonafbennobgdaaGreatDoor
