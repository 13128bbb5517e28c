/- Chapter 11: one instruction, kind by kind. Chapter 11: what is quoted, called, taken, told with the value left open. -/
import Derived.RegionDies
import Derived.Test.YthikdpclifeonaaGreatDoorK40
import Derived.Test.YthikdpclifeonaaGreatDoorK41
namespace Go.Proofs.YthikdpclifeonaaGreatDoor.V
section
set_option linter.unusedVariables false
set_option linter.unusedSimpArgs false
open Go.RowKit
open Go.Proofs.YthikdpclifeonaaGreatDoor

set_option maxRecDepth 100000 in
set_option maxHeartbeats 3200000 in
theorem step_quote (rb cb co cl cc : Nat) (left : Int) (next : Nat) (t : TypeId) (x : Value) (Q R : World → Prop) (w : World) (h : At0 rb cb co cl cc left next w) (k0 : w.cell? ⟨cb, co + next * 11, none⟩ = some (.int .i64 3))
    (HA : ∀ nq, Calls Tryz.prog 67 #[.pointer (some ⟨cb, co + next * 11 + 5, none⟩)] (W1 rb left next nq w).drew fun e w' => e = .returned (.iface t x) ∧ Q w')
    (HP : ∀ W, Q W → Calls Tryz.prog 66 #[.pointer (some ⟨rb, 1, none⟩), .iface t x] W fun e w' => e = .returned (.tuple #[]) ∧ R w') :
    Calls Tryz.prog 32 #[.pointer (some ⟨rb, 0, none⟩)] w fun e w' => e = .returned (.bool true) ∧ R w' := by
  obtain ⟨c8, c2, c3, z8, z3, hne, l0, l9, n0, n9⟩ := h
  have hg : decide (left > 0) = true := by simp; omega
  have hg' : decide (0 < left) = true := by simp; omega
  have b3 : (0 : Int) ≤ (next : Int) := by omega
  have b4 : (next : Int) < (cl : Int) := by omega
  have b5 : (cl : Int) ≤ 6000 := by omega
  clear n9
  have HHA := hidd HA
  clear HA
  have HHP := hidd HP
  clear HP
  unfold W1 at HHA
  go_enter Tryz.func32, Tryz.ntmps32
  go_wp2_with fail
  refine (Must_yes 2 _).mono ?_
  rintro e w1 ⟨rfl, rfl⟩
  go_wp2_with fail
  go_quiet (fail)
  go_wp2_with fail
  go_region_with (first
    | (go_at_call 67; refine (HHA.out _).mono ?_; rintro e w2 ⟨rfl, hQ⟩)
    | (go_at_call 66; refine (HHP.out _ hQ).mono ?_; rintro e w3 ⟨rfl, hR⟩))
  all_goals
    go_wp2_with fail
    go_ret
    exact ⟨rfl, hR⟩
set_option maxRecDepth 100000 in
set_option maxHeartbeats 3200000 in
theorem step_local (rb cb co cl cc : Nat) (left : Int) (next : Nat) (fp K s : Nat) (a : Int) (t : TypeId) (x : Value) (Q R : World → Prop) (w : World) (h : At0 rb cb co cl cc left next w) (k0 : w.cell? ⟨cb, co + next * 11, none⟩ = some (.int .i64 4))
    (k1 : w.cell? ⟨cb, co + next * 11 + 1, none⟩ = some (.int .i64 a))
    (c4 : w.cell? ⟨rb, 4, none⟩ = some (.pointer (some ⟨fp, 0, none⟩)))
    (HA : ∀ nq, Calls Tryz.prog 68 #[.pointer (some ⟨fp, 0, none⟩), .int .i64 a] (W1 rb left next nq w).drew fun e w' => e = .returned (.pointer (some ⟨K, s, none⟩)) ∧ w'.cell? ⟨K, s, none⟩ = some (.iface t x) ∧ Q w')
    (HP : ∀ W, Q W → Calls Tryz.prog 66 #[.pointer (some ⟨rb, 1, none⟩), .iface t x] W fun e w' => e = .returned (.tuple #[]) ∧ R w') :
    Calls Tryz.prog 32 #[.pointer (some ⟨rb, 0, none⟩)] w fun e w' => e = .returned (.bool true) ∧ R w' := by
  obtain ⟨c8, c2, c3, z8, z3, hne, l0, l9, n0, n9⟩ := h
  have hg : decide (left > 0) = true := by simp; omega
  have hg' : decide (0 < left) = true := by simp; omega
  have b3 : (0 : Int) ≤ (next : Int) := by omega
  have b4 : (next : Int) < (cl : Int) := by omega
  have b5 : (cl : Int) ≤ 6000 := by omega
  clear n9
  have HHA := hidd HA
  clear HA
  have HHP := hidd HP
  clear HP
  unfold W1 at HHA
  go_enter Tryz.func32, Tryz.ntmps32
  go_wp2_with fail
  refine (Must_yes 2 _).mono ?_
  rintro e w1 ⟨rfl, rfl⟩
  go_wp2_with fail
  go_quiet (fail)
  go_wp2_with fail
  go_region_with (first
    | (go_at_call 68; refine (HHA.out _).mono ?_; rintro e w2 ⟨rfl, q0, hQ⟩)
    | (go_at_call 66; refine (HHP.out _ hQ).mono ?_; rintro e w3 ⟨rfl, hR⟩))
  all_goals
    go_wp2_with fail
    go_ret
    exact ⟨rfl, hR⟩
end
section
set_option linter.unusedVariables false
set_option linter.unusedSimpArgs false
open Go.RowKit
open Go.Proofs.YthikdpclifeonaaGreatDoor

set_option maxRecDepth 100000 in
set_option maxHeartbeats 3200000 in
theorem step_quoteX (rb cb co cl cc : Nat) (left : Int) (next : Nat) (t : TypeId) (Q : Value → World → Prop) (R : World → Prop) (w : World) (h : At0 rb cb co cl cc left next w) (k0 : w.cell? ⟨cb, co + next * 11, none⟩ = some (.int .i64 3))
    (HA : ∀ nq, Calls Tryz.prog 67 #[.pointer (some ⟨cb, co + next * 11 + 5, none⟩)] (W1 rb left next nq w).drew fun e w' => ∃ x, e = .returned (.iface t x) ∧ Q x w')
    (HP : ∀ x W, Q x W → Calls Tryz.prog 66 #[.pointer (some ⟨rb, 1, none⟩), .iface t x] W fun e w' => e = .returned (.tuple #[]) ∧ R w') :
    Calls Tryz.prog 32 #[.pointer (some ⟨rb, 0, none⟩)] w fun e w' => e = .returned (.bool true) ∧ R w' := by
  obtain ⟨c8, c2, c3, z8, z3, hne, l0, l9, n0, n9⟩ := h
  have hg : decide (left > 0) = true := by simp; omega
  have hg' : decide (0 < left) = true := by simp; omega
  have b3 : (0 : Int) ≤ (next : Int) := by omega
  have b4 : (next : Int) < (cl : Int) := by omega
  have b5 : (cl : Int) ≤ 6000 := by omega
  clear n9
  have HHA := hidd HA
  clear HA
  have HHP := hidd HP
  clear HP
  unfold W1 at HHA
  go_enter Tryz.func32, Tryz.ntmps32
  go_wp2_with fail
  refine (Must_yes 2 _).mono ?_
  rintro e w1 ⟨rfl, rfl⟩
  go_wp2_with fail
  go_quiet (fail)
  go_wp2_with fail
  go_region_with (first
    | (go_at_call 67; refine (HHA.out _).mono ?_; rintro e w2 ⟨x, rfl, hQ⟩)
    | (go_at_call 66; refine (HHP.out _ _ hQ).mono ?_; rintro e w3 ⟨rfl, hR⟩))
  all_goals
    go_wp2_with fail
    go_ret
    exact ⟨rfl, hR⟩
set_option maxRecDepth 100000 in
set_option maxHeartbeats 3200000 in
theorem call_prim_okX (rb n c : Nat) (a : Option Addr) (p : ByteArray) (t' : TypeId) (Q : Value → World → Prop) (R : World → Prop) (w w1 w2 : World)
    (HK : Calls Tryz.prog 107 #[.pointer (some ⟨rb, 1, none⟩), .int .i64 (n : Int)] w fun e w' => e = .returned (.slice a n c) ∧ w' = w1)
    (HO : Calls Tryz.prog 71 #[.pointer (some ⟨rb, 1, none⟩)] w1 fun e w' => e = .returned (.iface 168 (.string p)) ∧ w' = w2)
    (HP : Calls Tryz.prog 108 #[.pointer (some ⟨rb, 0, none⟩), .string p, .slice a n c] w2.drew fun e w' => ∃ x', e = .returned (.iface t' x') ∧ Q x' w')
    (HU : ∀ x' W, Q x' W → Calls Tryz.prog 66 #[.pointer (some ⟨rb, 1, none⟩), .iface t' x'] W fun e w' => e = .returned (.tuple #[]) ∧ R w') :
    Calls Tryz.prog 70 #[.pointer (some ⟨rb, 0, none⟩), .int .i64 (n : Int)] w fun e w' => e = .returned (.tuple #[]) ∧ R w' := by
  have HHK := hidd HK
  have HHO := hidd HO
  clear HK HO
  have HHP := hidd HP
  have HHU := hidd HU
  clear HP HU
  have hta := assertP (.string p)
  go_enter Tryz.func70, Tryz.ntmps70
  go_wp2_with fail
  refine HHK.out.mono ?_
  rintro e w3 ⟨rfl, rfl⟩
  go_wp2_with fail
  refine HHO.out.mono ?_
  rintro e w4 ⟨rfl, rfl⟩
  go_wp2_with fail
  go_region_with (first
    | (go_at_call 108; refine HHP.out.mono ?_; rintro e w5 ⟨x', rfl, hQ⟩)
    | (go_at_call 66; refine (HHU.out _ _ hQ).mono ?_; rintro e w6 ⟨rfl, hR⟩))
  all_goals
    go_wp2_with fail
    (try simp only [Exit.inBlock, Exit.then])
    refine bodyPost_ret (results_none rfl _ _ _) rfl ?_
    exact ⟨rfl, hR⟩
set_option maxRecDepth 100000 in
set_option maxHeartbeats 800000 in
theorem take_rawZ (rb g n : Nat) (w : World) (c1 : w.cell? ⟨rb, 1, none⟩ = some (.slice (some ⟨g, 0, none⟩) n n)) (z1 : w.frozen? ⟨rb, 1, none⟩ = false) (hm : n ≤ 1000000) :
    Calls Tryz.prog 107 #[.pointer (some ⟨rb, 1, none⟩), .int .i64 0] w fun e w' => e = .returned (.slice (some ⟨g, 0, none⟩) 0 0) ∧ w' = w.setCell ⟨rb, 1, none⟩ (.slice (some ⟨g, 0, none⟩) n n) := by
  have h2 : (0 : Int) ≤ (n : Int) := by omega
  have h4 : (n : Int) ≤ 1000000 := by omega
  go_enter Tryz.func107, Tryz.ntmps107
  go_wp2_with fail
  go_ret
  exact ⟨by simp, rfl⟩
set_option maxRecDepth 100000 in
set_option maxHeartbeats 800000 in
theorem take_rawX (rb g r k n cap : Nat) (w : World) (c1 : w.cell? ⟨rb, 1, none⟩ = some (.slice (some ⟨g, 0, none⟩) n cap)) (z1 : w.frozen? ⟨rb, 1, none⟩ = false) (hn : n = r + k) (hc : n ≤ cap) (hm : n ≤ 1000000) :
    Calls Tryz.prog 107 #[.pointer (some ⟨rb, 1, none⟩), .int .i64 (k : Int)] w fun e w' => e = .returned (.slice (some ⟨g, if cap - r = 0 then 0 else r, none⟩) k (cap - r)) ∧ w' = w.setCell ⟨rb, 1, none⟩ (.slice (some ⟨g, 0, none⟩) r cap) := by
  have h1 : (n : Int) - (k : Int) = (r : Int) := by omega
  have h2 : (0 : Int) ≤ (r : Int) := by omega
  have h3 : (r : Int) ≤ (n : Int) := by omega
  have h4 : (n : Int) ≤ 1000000 := by omega
  have h5 : (0 : Int) ≤ (n : Int) := by omega
  have h6 : (0 : Int) ≤ (k : Int) := by omega
  have h7 : (k : Int) ≤ 1000000 := by omega
  have h8 : r ≤ n := by omega
  have h9 : n - r = k := by omega
  have h10 : r ≤ cap := by omega
  by_cases hz : cap - r = 0
  · rw [if_pos hz, hz]
    obtain rfl : k = 0 := by omega
    obtain rfl : r = cap := by omega
    obtain rfl : n = r := by omega
    exact take_rawZ rb g n w c1 z1 hm
  · rw [if_neg hz]
    have hz' : ¬ r = cap := by omega
    have hz'' : r < cap := by omega
    have hz3 : 0 < cap - r := by omega
    go_enter Tryz.func107, Tryz.ntmps107
    go_wp2_with fail
    all_goals
      first
        | (exfalso; omega)
        | (go_ret; exact ⟨rfl, rfl⟩)
end
end Go.Proofs.YthikdpclifeonaaGreatDoor.V
