/- Chapter 11: one instruction, kind by kind. Chapter 11: one instruction, kind by kind. Chapter 11: one instruction, kind by kind. Chapter 11: one instruction, kind by kind. Chapter 11: one instruction, kind by kind. Chapter 11: one instruction, kind by kind. Chapter 11: one instruction, kind by kind. Chapter 11: one instruction, kind by kind. Chapter 11: one instruction, kind by kind. Chapter 11: one instruction, kind by kind. -/
import Derived.RegionDies
import Derived.Test.YthikdpclifeonaaGreatDoorK40
namespace Go.Proofs.YthikdpclifeonaaGreatDoor.V
section
set_option linter.unusedVariables false
set_option linter.unusedSimpArgs false
open Go.RowKit
open Go.Proofs.YthikdpclifeonaaGreatDoor

/-- Behind the count of a step. -/
def W1 (rb : Nat) (left : Int) (next nq : Nat) (w : World) : World := ((w.setCell ⟨rb, 8, none⟩ (.int .i64 (left - 1))).drewN nq).setCell ⟨rb, 3, none⟩ (.int .i64 ((next : Int) + 1))
/-- What a step meets. -/
structure At0 (rb cb co cl cc : Nat) (left : Int) (next : Nat) (w : World) : Prop where
  c8 : w.cell? ⟨rb, 8, none⟩ = some (.int .i64 left)
  c2 : w.cell? ⟨rb, 2, none⟩ = some (.slice (some ⟨cb, co, none⟩) cl cc)
  c3 : w.cell? ⟨rb, 3, none⟩ = some (.int .i64 (next : Int))
  z8 : w.frozen? ⟨rb, 8, none⟩ = false
  z3 : w.frozen? ⟨rb, 3, none⟩ = false
  ne : rb ≠ cb
  l0 : 0 < left
  l9 : left ≤ 1000000
  n0 : next < cl
  n9 : cl ≤ 6000
set_option maxRecDepth 100000 in
set_option maxHeartbeats 1600000 in
theorem step_out (rb : Nat) (w : World) (c8 : w.cell? ⟨rb, 8, none⟩ = some (.int .i64 0)) : Calls Tryz.prog 32 #[.pointer (some ⟨rb, 0, none⟩)] w fun e w' => e = .panicked (endP 2) ∧ w' = w := by
  go_enter Tryz.func32, Tryz.ntmps32
  go_wp2_with fail
  refine (Must_no 2 _).mono ?_
  rintro e w1 ⟨rfl, rfl⟩
  go_wp2_with fail
  exact ⟨rfl, rfl, rfl⟩
set_option maxRecDepth 100000 in
set_option maxHeartbeats 3200000 in
theorem step_num (rb cb co cl cc : Nat) (left : Int) (next : Nat) (n : Int) (R : World → Prop) (w : World) (h : At0 rb cb co cl cc left next w) (k0 : w.cell? ⟨cb, co + next * 11, none⟩ = some (.int .i64 1))
    (k2 : w.cell? ⟨cb, co + next * 11 + 2, none⟩ = some (.int .i64 n))
    (HP : ∀ nq, Calls Tryz.prog 66 #[.pointer (some ⟨rb, 1, none⟩), .iface 162 (.int .i64 n)] (W1 rb left next nq w).drew fun e w' => e = .returned (.tuple #[]) ∧ R w') :
    Calls Tryz.prog 32 #[.pointer (some ⟨rb, 0, none⟩)] w fun e w' => e = .returned (.bool true) ∧ R w' := by
  obtain ⟨c8, c2, c3, z8, z3, hne, l0, l9, n0, n9⟩ := h
  have hg : decide (left > 0) = true := by simp; omega
  have hg' : decide (0 < left) = true := by simp; omega
  have b3 : (0 : Int) ≤ (next : Int) := by omega
  have b4 : (next : Int) < (cl : Int) := by omega
  have b5 : (cl : Int) ≤ 6000 := by omega
  clear n9
  have HHP := hidd HP
  clear HP
  unfold W1 at HHP
  go_enter Tryz.func32, Tryz.ntmps32
  go_wp2_with fail
  refine (Must_yes 2 _).mono ?_
  rintro e w1 ⟨rfl, rfl⟩
  go_wp2_with fail
  go_quiet (fail)
  go_wp2_with fail
  go_region_with (go_at_call 66; refine (HHP.out _).mono ?_; rintro e w2 ⟨rfl, hR⟩)
  all_goals
    go_wp2_with fail
    go_ret
    exact ⟨rfl, hR⟩
set_option maxRecDepth 100000 in
set_option maxHeartbeats 3200000 in
theorem step_bool (rb cb co cl cc : Nat) (left : Int) (next : Nat) (n : Int) (R : World → Prop) (w : World) (h : At0 rb cb co cl cc left next w) (k0 : w.cell? ⟨cb, co + next * 11, none⟩ = some (.int .i64 2))
    (k2 : w.cell? ⟨cb, co + next * 11 + 2, none⟩ = some (.int .i64 n))
    (HP : ∀ nq, Calls Tryz.prog 66 #[.pointer (some ⟨rb, 1, none⟩), .iface 163 (.bool (n == 1))] (W1 rb left next nq w).drew fun e w' => e = .returned (.tuple #[]) ∧ R w') :
    Calls Tryz.prog 32 #[.pointer (some ⟨rb, 0, none⟩)] w fun e w' => e = .returned (.bool true) ∧ R w' := by
  obtain ⟨c8, c2, c3, z8, z3, hne, l0, l9, n0, n9⟩ := h
  have hg : decide (left > 0) = true := by simp; omega
  have hg' : decide (0 < left) = true := by simp; omega
  have b3 : (0 : Int) ≤ (next : Int) := by omega
  have b4 : (next : Int) < (cl : Int) := by omega
  have b5 : (cl : Int) ≤ 6000 := by omega
  clear n9
  have HHP := hidd HP
  clear HP
  unfold W1 at HHP
  go_enter Tryz.func32, Tryz.ntmps32
  go_wp2_with fail
  refine (Must_yes 2 _).mono ?_
  rintro e w1 ⟨rfl, rfl⟩
  go_wp2_with fail
  go_quiet (fail)
  go_wp2_with fail
  go_region_with (go_at_call 66; refine (HHP.out _).mono ?_; rintro e w2 ⟨rfl, hR⟩)
  all_goals
    go_wp2_with fail
    go_ret
    exact ⟨rfl, hR⟩
set_option maxRecDepth 100000 in
set_option maxHeartbeats 3200000 in
theorem step_prim (rb cb co cl cc : Nat) (left : Int) (next : Nat) (s : ByteArray) (R : World → Prop) (w : World) (h : At0 rb cb co cl cc left next w) (k0 : w.cell? ⟨cb, co + next * 11, none⟩ = some (.int .i64 6))
    (k4 : w.cell? ⟨cb, co + next * 11 + 4, none⟩ = some (.string s))
    (HP : ∀ nq, Calls Tryz.prog 66 #[.pointer (some ⟨rb, 1, none⟩), .iface 168 (.string s)] (W1 rb left next nq w).drew fun e w' => e = .returned (.tuple #[]) ∧ R w') :
    Calls Tryz.prog 32 #[.pointer (some ⟨rb, 0, none⟩)] w fun e w' => e = .returned (.bool true) ∧ R w' := by
  obtain ⟨c8, c2, c3, z8, z3, hne, l0, l9, n0, n9⟩ := h
  have hg : decide (left > 0) = true := by simp; omega
  have hg' : decide (0 < left) = true := by simp; omega
  have b3 : (0 : Int) ≤ (next : Int) := by omega
  have b4 : (next : Int) < (cl : Int) := by omega
  have b5 : (cl : Int) ≤ 6000 := by omega
  clear n9
  have HHP := hidd HP
  clear HP
  unfold W1 at HHP
  go_enter Tryz.func32, Tryz.ntmps32
  go_wp2_with fail
  refine (Must_yes 2 _).mono ?_
  rintro e w1 ⟨rfl, rfl⟩
  go_wp2_with fail
  go_quiet (fail)
  go_wp2_with fail
  go_region_with (go_at_call 66; refine (HHP.out _).mono ?_; rintro e w2 ⟨rfl, hR⟩)
  all_goals
    go_wp2_with fail
    go_ret
    exact ⟨rfl, hR⟩
end
section
set_option linter.unusedVariables false
set_option linter.unusedSimpArgs false
open Go.RowKit
open Go.Proofs.YthikdpclifeonaaGreatDoor

set_option maxRecDepth 100000 in
set_option maxHeartbeats 3200000 in
theorem step_glob_no (rb cb co cl cc : Nat) (left : Int) (next : Nat) (a : Nat) (D : World → Prop) (w : World) (h : At0 rb cb co cl cc left next w) (k0 : w.cell? ⟨cb, co + next * 11, none⟩ = some (.int .i64 5))
    (k1 : w.cell? ⟨cb, co + next * 11 + 1, none⟩ = some (.int .i64 (a : Int)))
    (HA : ∀ nq, Calls Tryz.prog 69 #[.pointer (some ⟨rb, 0, none⟩), .int .i64 (a : Int)] (W1 rb left next nq w).drew fun e w' => e = .panicked (endP 3) ∧ D w') :
    Calls Tryz.prog 32 #[.pointer (some ⟨rb, 0, none⟩)] w fun e w' => e = .panicked (endP 3) ∧ D w' := by
  obtain ⟨c8, c2, c3, z8, z3, hne, l0, l9, n0, n9⟩ := h
  have hg : decide (left > 0) = true := by simp; omega
  have hg' : decide (0 < left) = true := by simp; omega
  have b3 : (0 : Int) ≤ (next : Int) := by omega
  have b4 : (next : Int) < (cl : Int) := by omega
  have b5 : (cl : Int) ≤ 6000 := by omega
  clear n9
  have HHA := hidd HA
  clear HA
  unfold W1 at HHA
  go_enter Tryz.func32, Tryz.ntmps32
  go_wp2_with fail
  refine (Must_yes 2 _).mono ?_
  rintro e w1 ⟨rfl, rfl⟩
  go_wp2_with fail
  go_quiet (fail)
  go_wp2_with fail
  go_region_dies
  all_goals
    refine (HHA.out _).mono ?_
    rintro e w2 ⟨rfl, hD⟩
    go_wp2_with fail
    exact ⟨rfl, rfl, hD⟩
end
section
set_option linter.unusedVariables false
set_option linter.unusedSimpArgs false
open Go.RowKit
open Go.Proofs.YthikdpclifeonaaGreatDoor

set_option maxRecDepth 100000 in
set_option maxHeartbeats 3200000 in
theorem step_glob (rb cb co cl cc : Nat) (left : Int) (next : Nat) (G : Nat) (a : Nat) (t : TypeId) (x : Value) (Q R : World → Prop) (w : World) (h : At0 rb cb co cl cc left next w) (k0 : w.cell? ⟨cb, co + next * 11, none⟩ = some (.int .i64 5))
    (k1 : w.cell? ⟨cb, co + next * 11 + 1, none⟩ = some (.int .i64 (a : Int)))
    (HA : ∀ nq, Calls Tryz.prog 69 #[.pointer (some ⟨rb, 0, none⟩), .int .i64 (a : Int)] (W1 rb left next nq w).drew fun e w' => e = .returned (.pointer (some ⟨G, a, none⟩)) ∧ w'.cell? ⟨G, a, none⟩ = some (.iface t x) ∧ Q w')
    (HP : ∀ W, Q W → Calls Tryz.prog 66 #[.pointer (some ⟨rb, 1, none⟩), .iface t x] W fun e w' => e = .returned (.tuple #[]) ∧ R w') :
    Calls Tryz.prog 32 #[.pointer (some ⟨rb, 0, none⟩)] w fun e w' => e = .returned (.bool true) ∧ R w' := by
  obtain ⟨c8, c2, c3, z8, z3, hne, l0, l9, n0, n9⟩ := h
  have hg : decide (left > 0) = true := by simp; omega
  have hg' : decide (0 < left) = true := by simp; omega
  have b3 : (0 : Int) ≤ (next : Int) := by omega
  have b4 : (next : Int) < (cl : Int) := by omega
  have b5 : (cl : Int) ≤ 6000 := by omega
  clear n9
  have HHA := hidd HA
  clear HA
  have HHP := hidd HP
  clear HP
  unfold W1 at HHA
  go_enter Tryz.func32, Tryz.ntmps32
  go_wp2_with fail
  refine (Must_yes 2 _).mono ?_
  rintro e w1 ⟨rfl, rfl⟩
  go_wp2_with fail
  go_quiet (fail)
  go_wp2_with fail
  go_region_with (first
    | (go_at_call 69; refine (HHA.out _).mono ?_; rintro e w2 ⟨rfl, q0, hQ⟩)
    | (go_at_call 66; refine (HHP.out _ hQ).mono ?_; rintro e w3 ⟨rfl, hR⟩))
  all_goals
    go_wp2_with fail
    go_ret
    exact ⟨rfl, hR⟩
end
section
set_option linter.unusedVariables false
set_option linter.unusedSimpArgs false
open Go.RowKit
open Go.Proofs.YthikdpclifeonaaGreatDoor

set_option maxRecDepth 100000 in
set_option maxHeartbeats 3200000 in
theorem step_def (rb cb co cl cc : Nat) (left : Int) (next : Nat) (G a ng gc : Nat) (t : TypeId) (x st old : Value) (w : World) (h : At0 rb cb co cl cc left next w) (k0 : w.cell? ⟨cb, co + next * 11, none⟩ = some (.int .i64 13))
    (k1 : w.cell? ⟨cb, co + next * 11 + 1, none⟩ = some (.int .i64 (a : Int)))
    (c7 : w.cell? ⟨rb, 7, none⟩ = some (.slice (some ⟨G, 0, none⟩) ng gc)) (c1 : w.cell? ⟨rb, 1, none⟩ = some st) (ha : a < ng) (hng : ng ≤ 100000) (kG : w.cell? ⟨G, a, none⟩ = some old) (zG : w.frozen? ⟨G, a, none⟩ = false) (hGr : rb ≠ G)
    (HT : ∀ nq, Calls Tryz.prog 72 #[st] (W1 rb left next nq w).drew fun e w' => e = .returned (.iface t x) ∧ w' = (W1 rb left next nq w).drew) :
    Calls Tryz.prog 32 #[.pointer (some ⟨rb, 0, none⟩)] w fun e w' => e = .returned (.bool true) ∧ ∃ nq, w' = (W1 rb left next nq w).drew.setCell ⟨G, a, none⟩ (.iface t x) := by
  obtain ⟨c8, c2, c3, z8, z3, hne, l0, l9, n0, n9⟩ := h
  have hg : decide (left > 0) = true := by simp; omega
  have hg' : decide (0 < left) = true := by simp; omega
  have b3 : (0 : Int) ≤ (next : Int) := by omega
  have b4 : (next : Int) < (cl : Int) := by omega
  have b5 : (cl : Int) ≤ 6000 := by omega
  clear n9
  have a1 : (0 : Int) ≤ (a : Int) := by omega
  have a2 : (a : Int) < (ng : Int) := by omega
  have a3 : (ng : Int) ≤ 100000 := by omega
  have HHT := hidd HT
  clear HT
  unfold W1 at HHT
  go_enter Tryz.func32, Tryz.ntmps32
  go_wp2_with fail
  refine (Must_yes 2 _).mono ?_
  rintro e w1 ⟨rfl, rfl⟩
  go_wp2_with fail
  go_quiet (fail)
  go_wp2_with fail
  go_region_with (go_at_call 72; refine (HHT.out nq).mono ?_; rintro e w2 ⟨rfl, rfl⟩)
  all_goals
    go_wp2_with fail
    go_ret
    exact ⟨rfl, nq, rfl⟩
end
section
set_option linter.unusedVariables false
set_option linter.unusedSimpArgs false
open Go.RowKit
open Go.Proofs.YthikdpclifeonaaGreatDoor

set_option maxRecDepth 100000 in
set_option maxHeartbeats 3200000 in
theorem step_clos (rb cb co cl cc : Nat) (left : Int) (next : Nat) (fp pb po np pc a : Nat) (R : World → Prop) (w : World) (h : At0 rb cb co cl cc left next w) (k0 : w.cell? ⟨cb, co + next * 11, none⟩ = some (.int .i64 7))
    (k1 : w.cell? ⟨cb, co + next * 11 + 1, none⟩ = some (.int .i64 (a : Int)))
    (c4 : w.cell? ⟨rb, 4, none⟩ = some (.pointer (some ⟨fp, 0, none⟩))) (c6 : w.cell? ⟨rb, 6, none⟩ = some (.slice (some ⟨pb, po, none⟩) np pc)) (ha : a < np) (hnp : np ≤ 100000)
    (HP : ∀ nq, Calls Tryz.prog 66 #[.pointer (some ⟨rb, 1, none⟩), .iface 169 (.pointer (some ⟨w.heap.size, 0, none⟩))] ((W1 rb left next nq w).alloc (.cells #[.pointer (some ⟨pb, po + a * 2, none⟩), .pointer (some ⟨fp, 0, none⟩)] 172)).drew fun e w' => e = .returned (.tuple #[]) ∧ R w') :
    Calls Tryz.prog 32 #[.pointer (some ⟨rb, 0, none⟩)] w fun e w' => e = .returned (.bool true) ∧ R w' := by
  obtain ⟨c8, c2, c3, z8, z3, hne, l0, l9, n0, n9⟩ := h
  have hg : decide (left > 0) = true := by simp; omega
  have hg' : decide (0 < left) = true := by simp; omega
  have b3 : (0 : Int) ≤ (next : Int) := by omega
  have b4 : (next : Int) < (cl : Int) := by omega
  have b5 : (cl : Int) ≤ 6000 := by omega
  clear n9
  have a1 : (0 : Int) ≤ (a : Int) := by omega
  have a2 : (a : Int) < (np : Int) := by omega
  have a3 : (np : Int) ≤ 100000 := by omega
  have HHP := hidd HP
  clear HP
  unfold W1 at HHP
  go_enter Tryz.func32, Tryz.ntmps32
  go_wp2_with fail
  refine (Must_yes 2 _).mono ?_
  rintro e w1 ⟨rfl, rfl⟩
  go_wp2_with fail
  go_quiet (fail)
  go_wp2_with fail
  go_region_with (go_at_call 66; refine (HHP.out _).mono ?_; rintro e w2 ⟨rfl, hR⟩)
  all_goals
    go_wp2_with fail
    go_ret
    exact ⟨rfl, hR⟩
end
section
set_option linter.unusedVariables false
set_option linter.unusedSimpArgs false
open Go.RowKit
open Go.Proofs.YthikdpclifeonaaGreatDoor

set_option maxRecDepth 100000 in
set_option maxHeartbeats 3200000 in
theorem step_setg_no (rb cb co cl cc : Nat) (left : Int) (next : Nat) (a : Nat) (t : TypeId) (x st : Value) (w : World) (h : At0 rb cb co cl cc left next w) (k0 : w.cell? ⟨cb, co + next * 11, none⟩ = some (.int .i64 12))
    (k1 : w.cell? ⟨cb, co + next * 11 + 1, none⟩ = some (.int .i64 (a : Int)))
    (c1 : w.cell? ⟨rb, 1, none⟩ = some st)
    (HA : ∀ nq, Calls Tryz.prog 69 #[.pointer (some ⟨rb, 0, none⟩), .int .i64 (a : Int)] (W1 rb left next nq w).drew fun e w' => e = .panicked (endP 3) ∧ w' = (W1 rb left next nq w).drew)
    (HT : ∀ nq, Calls Tryz.prog 72 #[st] (W1 rb left next nq w).drew fun e w' => e = .returned (.iface t x) ∧ w' = (W1 rb left next nq w).drew) :
    Calls Tryz.prog 32 #[.pointer (some ⟨rb, 0, none⟩)] w fun e w' => e = .panicked (endP 3) ∧ ∃ nq, w' = (W1 rb left next nq w).drew := by
  obtain ⟨c8, c2, c3, z8, z3, hne, l0, l9, n0, n9⟩ := h
  have hg : decide (left > 0) = true := by simp; omega
  have hg' : decide (0 < left) = true := by simp; omega
  have b3 : (0 : Int) ≤ (next : Int) := by omega
  have b4 : (next : Int) < (cl : Int) := by omega
  have b5 : (cl : Int) ≤ 6000 := by omega
  clear n9
  have HHA := hidd HA
  clear HA
  have HHT := hidd HT
  clear HT
  unfold W1 at HHA HHT
  go_enter Tryz.func32, Tryz.ntmps32
  go_wp2_with fail
  refine (Must_yes 2 _).mono ?_
  rintro e w1 ⟨rfl, rfl⟩
  go_wp2_with fail
  go_quiet (fail)
  go_wp2_with fail
  go_region_dies
  all_goals
    first
      | (refine (HHA.out _).mono ?_
         rintro e w2 ⟨rfl, rfl⟩
         go_wp2_with fail
         exact ⟨rfl, rfl, _, rfl⟩)
      | (refine (HHT.out _).mono ?_
         rintro e w2 ⟨rfl, rfl⟩
         go_wp2_with fail
         refine (HHA.out _).mono ?_
         rintro e w2 ⟨rfl, rfl⟩
         go_wp2_with fail
         exact ⟨rfl, rfl, _, rfl⟩)
end
section
set_option linter.unusedVariables false
set_option linter.unusedSimpArgs false
open Go.RowKit
open Go.Proofs.YthikdpclifeonaaGreatDoor

set_option maxRecDepth 100000 in
set_option maxHeartbeats 3200000 in
theorem step_setg (rb cb co cl cc : Nat) (left : Int) (next : Nat) (G a : Nat) (t : TypeId) (x st old : Value) (w : World) (h : At0 rb cb co cl cc left next w) (k0 : w.cell? ⟨cb, co + next * 11, none⟩ = some (.int .i64 12))
    (k1 : w.cell? ⟨cb, co + next * 11 + 1, none⟩ = some (.int .i64 (a : Int)))
    (c1 : w.cell? ⟨rb, 1, none⟩ = some st) (kG : w.cell? ⟨G, a, none⟩ = some old) (zG : w.frozen? ⟨G, a, none⟩ = false) (hGr : rb ≠ G)
    (HA : ∀ nq, Calls Tryz.prog 69 #[.pointer (some ⟨rb, 0, none⟩), .int .i64 (a : Int)] (W1 rb left next nq w).drew fun e w' => e = .returned (.pointer (some ⟨G, a, none⟩)) ∧ w' = (W1 rb left next nq w).drew)
    (HT : ∀ nq, Calls Tryz.prog 72 #[st] (W1 rb left next nq w).drew fun e w' => e = .returned (.iface t x) ∧ w' = (W1 rb left next nq w).drew) :
    Calls Tryz.prog 32 #[.pointer (some ⟨rb, 0, none⟩)] w fun e w' => e = .returned (.bool true) ∧ ∃ nq, w' = (W1 rb left next nq w).drew.setCell ⟨G, a, none⟩ (.iface t x) := by
  obtain ⟨c8, c2, c3, z8, z3, hne, l0, l9, n0, n9⟩ := h
  have hg : decide (left > 0) = true := by simp; omega
  have hg' : decide (0 < left) = true := by simp; omega
  have b3 : (0 : Int) ≤ (next : Int) := by omega
  have b4 : (next : Int) < (cl : Int) := by omega
  have b5 : (cl : Int) ≤ 6000 := by omega
  clear n9
  have HHA := hidd HA
  clear HA
  have HHT := hidd HT
  clear HT
  unfold W1 at HHA HHT
  go_enter Tryz.func32, Tryz.ntmps32
  go_wp2_with fail
  refine (Must_yes 2 _).mono ?_
  rintro e w1 ⟨rfl, rfl⟩
  go_wp2_with fail
  go_quiet (fail)
  go_wp2_with fail
  go_region_with (first
    | (go_at_call 69; refine (HHA.out nq).mono ?_; rintro e w2 ⟨rfl, rfl⟩)
    | (go_at_call 72; refine (HHT.out nq).mono ?_; rintro e w2 ⟨rfl, rfl⟩))
  all_goals
    go_wp2_with fail
    go_ret
    exact ⟨rfl, nq, rfl⟩
end
section
set_option linter.unusedVariables false
set_option linter.unusedSimpArgs false
open Go.RowKit
open Go.Proofs.YthikdpclifeonaaGreatDoor

set_option maxRecDepth 100000 in
set_option maxHeartbeats 3200000 in
theorem step_setl (rb cb co cl cc : Nat) (left : Int) (next : Nat) (fp K s : Nat) (a : Int) (t : TypeId) (x st old : Value) (Q : Nat → World → Prop) (w : World) (h : At0 rb cb co cl cc left next w) (k0 : w.cell? ⟨cb, co + next * 11, none⟩ = some (.int .i64 11))
    (k1 : w.cell? ⟨cb, co + next * 11 + 1, none⟩ = some (.int .i64 a))
    (c4 : w.cell? ⟨rb, 4, none⟩ = some (.pointer (some ⟨fp, 0, none⟩))) (c1 : w.cell? ⟨rb, 1, none⟩ = some st)
    (HF : ∀ nq W, Q nq W → W.cell? ⟨rb, 1, none⟩ = some st ∧ W.cell? ⟨rb, 4, none⟩ = some (.pointer (some ⟨fp, 0, none⟩)) ∧ W.cell? ⟨cb, co + next * 11 + 1, none⟩ = some (.int .i64 a) ∧ W.cell? ⟨K, s, none⟩ = some old ∧ W.frozen? ⟨K, s, none⟩ = false)
    (HQ : ∀ nq, Q nq (W1 rb left next nq w).drew)
    (HA : ∀ nq W, Q nq W → Calls Tryz.prog 68 #[.pointer (some ⟨fp, 0, none⟩), .int .i64 a] W fun e w' => e = .returned (.pointer (some ⟨K, s, none⟩)) ∧ Q nq w')
    (HT : ∀ nq W, Q nq W → Calls Tryz.prog 72 #[st] W fun e w' => e = .returned (.iface t x) ∧ Q nq w') :
    Calls Tryz.prog 32 #[.pointer (some ⟨rb, 0, none⟩)] w fun e w' => e = .returned (.bool true) ∧ ∃ nq W, Q nq W ∧ w' = W.setCell ⟨K, s, none⟩ (.iface t x) := by
  obtain ⟨c8, c2, c3, z8, z3, hne, l0, l9, n0, n9⟩ := h
  have hg : decide (left > 0) = true := by simp; omega
  have hg' : decide (0 < left) = true := by simp; omega
  have b3 : (0 : Int) ≤ (next : Int) := by omega
  have b4 : (next : Int) < (cl : Int) := by omega
  have b5 : (cl : Int) ≤ 6000 := by omega
  clear n9
  have HHA := hidd HA
  clear HA
  have HHT := hidd HT
  clear HT
  have HHF := hidd HF
  clear HF
  have HHQ := hidd HQ
  clear HQ
  unfold W1 at HHQ
  go_enter Tryz.func32, Tryz.ntmps32
  go_wp2_with fail
  refine (Must_yes 2 _).mono ?_
  rintro e w1 ⟨rfl, rfl⟩
  go_wp2_with fail
  go_quiet (fail)
  go_wp2_with fail
  go_region_with (first
    | (go_at_call 68; (first | (refine (HHA.out _ _ hQ1).mono ?_) | (refine (HHA.out nq _ (HHQ.out nq)).mono ?_)); rintro e w2 ⟨rfl, hQ2⟩; obtain ⟨q1, q4, qa, qk, qz⟩ := HHF.out _ _ hQ2)
    | (go_at_call 72; (first | (refine (HHT.out _ _ hQ2).mono ?_) | (refine (HHT.out nq _ (HHQ.out nq)).mono ?_)); rintro e w3 ⟨rfl, hQ1⟩; obtain ⟨p1, p4, pa, pk, pz⟩ := HHF.out _ _ hQ1))
  all_goals
    go_wp2_with fail
    go_ret
    first
      | exact ⟨rfl, _, _, hQ1, rfl⟩
      | exact ⟨rfl, _, _, hQ2, rfl⟩
end
section
set_option linter.unusedVariables false
set_option linter.unusedSimpArgs false
open Go.RowKit
open Go.Proofs.YthikdpclifeonaaGreatDoor

set_option maxRecDepth 100000 in
set_option maxHeartbeats 3200000 in
theorem step_unless_true (rb cb co cl cc : Nat) (left : Int) (next : Nat) (a : Int) (t : TypeId) (x : Value) (Q : World → Prop) (w : World) (h : At0 rb cb co cl cc left next w) (k0 : w.cell? ⟨cb, co + next * 11, none⟩ = some (.int .i64 10))
    (k1 : w.cell? ⟨cb, co + next * 11 + 1, none⟩ = some (.int .i64 a))
    (HA : ∀ nq, Calls Tryz.prog 71 #[.pointer (some ⟨rb, 1, none⟩)] (W1 rb left next nq w) fun e w' => e = .returned (.iface t x) ∧ w'.cell? ⟨cb, co + next * 11 + 1, none⟩ = some (.int .i64 a) ∧ w'.cell? ⟨rb, 3, none⟩ = some (.int .i64 ((next : Int) + 1)) ∧ w'.frozen? ⟨rb, 3, none⟩ = false ∧ (binOp .eql 155 (.iface t x) (.iface 163 (.bool false))).run Tryz.prog w' = .ok (.bool true) w' ∧ Q w') :
    Calls Tryz.prog 32 #[.pointer (some ⟨rb, 0, none⟩)] w fun e w' => e = .returned (.bool true) ∧ ∃ w2, Q w2 ∧ w' = w2.setCell ⟨rb, 3, none⟩ (.int .i64 a) := by
  obtain ⟨c8, c2, c3, z8, z3, hne, l0, l9, n0, n9⟩ := h
  have hg : decide (left > 0) = true := by simp; omega
  have hg' : decide (0 < left) = true := by simp; omega
  have b3 : (0 : Int) ≤ (next : Int) := by omega
  have b4 : (next : Int) < (cl : Int) := by omega
  have b5 : (cl : Int) ≤ 6000 := by omega
  clear n9
  have HHA := hidd HA
  clear HA
  unfold W1 at HHA
  go_enter Tryz.func32, Tryz.ntmps32
  go_wp2_with fail
  refine (Must_yes 2 _).mono ?_
  rintro e w1 ⟨rfl, rfl⟩
  go_wp2_with fail
  go_quiet (fail)
  go_wp2_with fail
  refine (HHA.out _).mono ?_
  rintro e w2 ⟨rfl, q1, q2, q3, q4, hQ⟩
  go_wp2_with fail
  go_ret
  exact ⟨rfl, w2, hQ, rfl⟩
set_option maxRecDepth 100000 in
set_option maxHeartbeats 3200000 in
theorem step_unless_false (rb cb co cl cc : Nat) (left : Int) (next : Nat) (a : Int) (t : TypeId) (x : Value) (Q : World → Prop) (w : World) (h : At0 rb cb co cl cc left next w) (k0 : w.cell? ⟨cb, co + next * 11, none⟩ = some (.int .i64 10))
    (k1 : w.cell? ⟨cb, co + next * 11 + 1, none⟩ = some (.int .i64 a))
    (HA : ∀ nq, Calls Tryz.prog 71 #[.pointer (some ⟨rb, 1, none⟩)] (W1 rb left next nq w) fun e w' => e = .returned (.iface t x) ∧ w'.cell? ⟨cb, co + next * 11 + 1, none⟩ = some (.int .i64 a) ∧ w'.cell? ⟨rb, 3, none⟩ = some (.int .i64 ((next : Int) + 1)) ∧ w'.frozen? ⟨rb, 3, none⟩ = false ∧ (binOp .eql 155 (.iface t x) (.iface 163 (.bool false))).run Tryz.prog w' = .ok (.bool false) w' ∧ Q w') :
    Calls Tryz.prog 32 #[.pointer (some ⟨rb, 0, none⟩)] w fun e w' => e = .returned (.bool true) ∧ ∃ w2, Q w2 ∧ w' = w2 := by
  obtain ⟨c8, c2, c3, z8, z3, hne, l0, l9, n0, n9⟩ := h
  have hg : decide (left > 0) = true := by simp; omega
  have hg' : decide (0 < left) = true := by simp; omega
  have b3 : (0 : Int) ≤ (next : Int) := by omega
  have b4 : (next : Int) < (cl : Int) := by omega
  have b5 : (cl : Int) ≤ 6000 := by omega
  clear n9
  have HHA := hidd HA
  clear HA
  unfold W1 at HHA
  go_enter Tryz.func32, Tryz.ntmps32
  go_wp2_with fail
  refine (Must_yes 2 _).mono ?_
  rintro e w1 ⟨rfl, rfl⟩
  go_wp2_with fail
  go_quiet (fail)
  go_wp2_with fail
  refine (HHA.out _).mono ?_
  rintro e w2 ⟨rfl, q1, q2, q3, q4, hQ⟩
  go_wp2_with fail
  go_ret
  exact ⟨rfl, w2, hQ, rfl⟩
end
section
set_option linter.unusedVariables false
set_option linter.unusedSimpArgs false
open Go.RowKit
open Go.Proofs.YthikdpclifeonaaGreatDoor

set_option maxRecDepth 100000 in
set_option maxHeartbeats 3200000 in
theorem step_call (rb cb co cl cc : Nat) (left : Int) (next : Nat) (a : Int) (R : World → Prop) (D : Int → World → Prop) (w : World) (h : At0 rb cb co cl cc left next w) (k0 : w.cell? ⟨cb, co + next * 11, none⟩ = some (.int .i64 8))
    (k1 : w.cell? ⟨cb, co + next * 11 + 1, none⟩ = some (.int .i64 a))
    (HA : ∀ nq, Calls Tryz.prog 70 #[.pointer (some ⟨rb, 0, none⟩), .int .i64 a] (W1 rb left next nq w) fun e w' => (e = .returned (.tuple #[]) ∧ R w') ∨ ∃ q, e = .panicked (endP q) ∧ D q w') :
    Calls Tryz.prog 32 #[.pointer (some ⟨rb, 0, none⟩)] w fun e w' => (e = .returned (.bool true) ∧ R w') ∨ ∃ q, e = .panicked (endP q) ∧ D q w' := by
  obtain ⟨c8, c2, c3, z8, z3, hne, l0, l9, n0, n9⟩ := h
  have hg : decide (left > 0) = true := by simp; omega
  have hg' : decide (0 < left) = true := by simp; omega
  have b3 : (0 : Int) ≤ (next : Int) := by omega
  have b4 : (next : Int) < (cl : Int) := by omega
  have b5 : (cl : Int) ≤ 6000 := by omega
  clear n9
  have HHA := hidd HA
  clear HA
  unfold W1 at HHA
  go_enter Tryz.func32, Tryz.ntmps32
  go_wp2_with fail
  refine (Must_yes 2 _).mono ?_
  rintro e w1 ⟨rfl, rfl⟩
  go_wp2_with fail
  go_quiet (fail)
  go_wp2_with fail
  refine (HHA.out _).mono ?_
  rintro e w2 (⟨rfl, hR⟩ | ⟨q, rfl, hD⟩)
  · go_wp2_with fail
    go_ret
    exact Or.inl ⟨rfl, hR⟩
  · go_wp2_with fail
    exact ⟨rfl, Or.inr ⟨q, rfl, hD⟩⟩
set_option maxRecDepth 100000 in
set_option maxHeartbeats 3200000 in
theorem step_jump (rb cb co cl cc : Nat) (left : Int) (next : Nat) (a : Int) (w : World) (h : At0 rb cb co cl cc left next w) (k0 : w.cell? ⟨cb, co + next * 11, none⟩ = some (.int .i64 9))
    (k1 : w.cell? ⟨cb, co + next * 11 + 1, none⟩ = some (.int .i64 a)) :
    Calls Tryz.prog 32 #[.pointer (some ⟨rb, 0, none⟩)] w fun e w' => e = .returned (.bool true) ∧ ∃ nq, w' = (W1 rb left next nq w).setCell ⟨rb, 3, none⟩ (.int .i64 a) := by
  obtain ⟨c8, c2, c3, z8, z3, hne, l0, l9, n0, n9⟩ := h
  have hg : decide (left > 0) = true := by simp; omega
  have hg' : decide (0 < left) = true := by simp; omega
  have b3 : (0 : Int) ≤ (next : Int) := by omega
  have b4 : (next : Int) < (cl : Int) := by omega
  have b5 : (cl : Int) ≤ 6000 := by omega
  clear n9
  go_enter Tryz.func32, Tryz.ntmps32
  go_wp2_with fail
  refine (Must_yes 2 _).mono ?_
  rintro e w1 ⟨rfl, rfl⟩
  go_wp2_with fail
  go_quiet (fail)
  go_wp2_with fail
  go_ret
  exact ⟨rfl, _, rfl⟩
set_option maxRecDepth 100000 in
set_option maxHeartbeats 3200000 in
theorem step_pop (rb cb co cl cc : Nat) (left : Int) (next : Nat) (t : TypeId) (x : Value) (R : World → Prop) (w : World) (h : At0 rb cb co cl cc left next w) (k0 : w.cell? ⟨cb, co + next * 11, none⟩ = some (.int .i64 14))
    (HA : ∀ nq, Calls Tryz.prog 71 #[.pointer (some ⟨rb, 1, none⟩)] (W1 rb left next nq w) fun e w' => e = .returned (.iface t x) ∧ R w') :
    Calls Tryz.prog 32 #[.pointer (some ⟨rb, 0, none⟩)] w fun e w' => e = .returned (.bool true) ∧ R w' := by
  obtain ⟨c8, c2, c3, z8, z3, hne, l0, l9, n0, n9⟩ := h
  have hg : decide (left > 0) = true := by simp; omega
  have hg' : decide (0 < left) = true := by simp; omega
  have b3 : (0 : Int) ≤ (next : Int) := by omega
  have b4 : (next : Int) < (cl : Int) := by omega
  have b5 : (cl : Int) ≤ 6000 := by omega
  clear n9
  have HHA := hidd HA
  clear HA
  unfold W1 at HHA
  go_enter Tryz.func32, Tryz.ntmps32
  go_wp2_with fail
  refine (Must_yes 2 _).mono ?_
  rintro e w1 ⟨rfl, rfl⟩
  go_wp2_with fail
  go_quiet (fail)
  go_wp2_with fail
  refine (HHA.out _).mono ?_
  rintro e w2 ⟨rfl, hR⟩
  go_wp2_with fail
  go_ret
  exact ⟨rfl, hR⟩
set_option maxRecDepth 100000 in
set_option maxHeartbeats 3200000 in
theorem step_ret (rb cb co cl cc : Nat) (left : Int) (next : Nat) (b : Bool) (R : World → Prop) (w : World) (h : At0 rb cb co cl cc left next w) (k0 : w.cell? ⟨cb, co + next * 11, none⟩ = some (.int .i64 15))
    (HA : ∀ nq, Calls Tryz.prog 73 #[.pointer (some ⟨rb, 0, none⟩)] (W1 rb left next nq w) fun e w' => e = .returned (.bool b) ∧ R w') :
    Calls Tryz.prog 32 #[.pointer (some ⟨rb, 0, none⟩)] w fun e w' => e = .returned (.bool b) ∧ R w' := by
  obtain ⟨c8, c2, c3, z8, z3, hne, l0, l9, n0, n9⟩ := h
  have hg : decide (left > 0) = true := by simp; omega
  have hg' : decide (0 < left) = true := by simp; omega
  have b3 : (0 : Int) ≤ (next : Int) := by omega
  have b4 : (next : Int) < (cl : Int) := by omega
  have b5 : (cl : Int) ≤ 6000 := by omega
  clear n9
  have HHA := hidd HA
  clear HA
  unfold W1 at HHA
  go_enter Tryz.func32, Tryz.ntmps32
  go_wp2_with fail
  refine (Must_yes 2 _).mono ?_
  rintro e w1 ⟨rfl, rfl⟩
  go_wp2_with fail
  go_quiet (fail)
  go_wp2_with fail
  refine (HHA.out _).mono ?_
  rintro e w2 ⟨rfl, hR⟩
  go_wp2_with fail
  go_ret
  exact ⟨rfl, hR⟩
end
end Go.Proofs.YthikdpclifeonaaGreatDoor.V
