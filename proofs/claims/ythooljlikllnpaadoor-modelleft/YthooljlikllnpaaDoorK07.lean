/- Data in memory; what package text says of a node alone. -/
import Derived.Test.YthooljlikllnpaaDoorK06
import Derived.RegionTactic
import Derived.ChangeAlike
namespace Go.Proofs.YthooljlikllnpaaDoor
set_option linter.unusedVariables false
set_option linter.unusedSimpArgs false
open Go.RowKit

/-- A datum as a value: its kids lie behind a. -/
def dv (d : Dat) (a : Option Addr) (cap : Nat) : Value :=
  .agg #[.int .i64 d.kind, .int .i64 d.n, .string d.name, .int .i64 d.stamp, .int .i64 d.lib, .slice a d.kids.length cap]

set_option maxHeartbeats 400000 in
theorem inRange_any (n : Int) (w : World) :
    Calls Tryd.prog 93 #[.int .i64 n] w fun e w' => e = .returned (.bool (rangeB n)) ∧ w' = w := by
  by_cases a : -1000000000000000 ≤ n
  · by_cases b : n ≤ 1000000000000000
    · go_enter Tryd.func93, Tryd.ntmps93
      go_wp2
      go_ret
      exact ⟨retB (by unfold rangeB; rw [decide_eq_true a, decide_eq_true b]; rfl), rfl⟩
    · go_enter Tryd.func93, Tryd.ntmps93
      go_wp2
      go_ret
      exact ⟨retB (by unfold rangeB; rw [decide_eq_false (p := n ≤ 1000000000000000) (by omega), Bool.and_false]), rfl⟩
  · have a' : ¬ -1000000000000000 ≤ n := a
    go_enter Tryd.func93, Tryd.ntmps93
    go_wp2
    go_ret
    exact ⟨retB (by unfold rangeB; rw [decide_eq_false (by omega), Bool.false_and]), rfl⟩

def symErr (d : Dat) : Int := if namedB d.name then (if d.stamp = 0 ∧ d.lib = 0 then 0 else 8) else 7

set_option maxHeartbeats 400000 in
theorem wrongSymbol_any (d : Dat) (a : Option Addr) (cap : Nat) (hs : d.name.size ≤ maxLen) (w : World) :
    Calls Tryd.prog 94 #[dv d a cap] w fun e w' => e = .returned (.int .i64 (symErr d)) ∧ Below w.heap.size w w' := by
  obtain ⟨k, n, nm, st, lb, ks⟩ := d
  unfold dv symErr
  simp only at hs ⊢
  obtain ⟨b, HB⟩ : ∃ b, Hid (namedB nm = b) := ⟨_, rfl⟩
  rw [HB.out]
  have na : ∀ w, Calls Tryd.prog 98 #[.string nm] w fun e w' => e = .returned (.bool b) ∧ w' = w := by
    intro w
    rw [← HB.out]
    exact Named_any nm hs w
  have NA : Hid (∀ w, Calls Tryd.prog 98 #[.string nm] w fun e w' => e = .returned (.bool b) ∧ w' = w) := na
  clear na
  cases b
  · go_enter Tryd.func94, Tryd.ntmps94
    go_wp2_with fail
    refine (NA.out _).mono ?_
    rintro e w' ⟨rfl, rfl⟩
    go_wp2_with fail
    go_ret
    exact ⟨rfl, (Below.refl _ _).alloc (Nat.le_refl _) _⟩
  · by_cases h1 : st = 0
    · by_cases h2 : lb = 0
      · subst h1 h2
        go_enter Tryd.func94, Tryd.ntmps94
        go_wp2_with fail
        refine (NA.out _).mono ?_
        rintro e w' ⟨rfl, rfl⟩
        go_wp2_with fail
        go_ret
        exact ⟨rfl, (Below.refl _ _).alloc (Nat.le_refl _) _⟩
      · subst h1
        have h2' : (lb != 0) = true := by simpa using h2
        go_enter Tryd.func94, Tryd.ntmps94
        go_wp2_with fail
        refine (NA.out _).mono ?_
        rintro e w' ⟨rfl, rfl⟩
        go_wp2_with fail
        go_ret
        exact ⟨rfl, (Below.refl _ _).alloc (Nat.le_refl _) _⟩
    · have h1' : (st != 0) = true := by simpa using h1
      go_enter Tryd.func94, Tryd.ntmps94
      go_wp2_with fail
      refine (NA.out _).mono ?_
      rintro e w' ⟨rfl, rfl⟩
      go_wp2_with fail
      go_ret
      exact ⟨rfl, (Below.refl _ _).alloc (Nat.le_refl _) _⟩

theorem alone_num {d : Dat} (h : d.kind = 1) : alone d = if rangeB d.n then 0 else 3 := by unfold alone; rw [if_pos h]
theorem alone_bool {d : Dat} (h : d.kind = 2) : alone d = if d.n = 0 ∨ d.n = 1 then 0 else 3 := by unfold alone; rw [if_neg (by omega), if_pos h]
theorem alone_sym {d : Dat} (h : d.kind = 3) : alone d = symErr d := by unfold alone symErr; rw [if_neg (by omega), if_neg (by omega), if_pos h]
theorem alone_list {d : Dat} (h : d.kind = 4) : alone d = 0 := by unfold alone; rw [if_neg (by omega), if_neg (by omega), if_neg (by omega), if_pos h]
theorem alone_else {d : Dat} (h1 : d.kind ≠ 1) (h2 : d.kind ≠ 2) (h3 : d.kind ≠ 3) (h4 : d.kind ≠ 4) : alone d = 1 := by unfold alone; rw [if_neg h1, if_neg h2, if_neg h3, if_neg h4]

set_option maxHeartbeats 800000 in
theorem wrongAlone_any (d : Dat) (a : Option Addr) (cap : Nat) (hs : d.name.size ≤ maxLen) (w : World) :
    Calls Tryd.prog 87 #[dv d a cap] w fun e w' => e = .returned (.int .i64 (alone d)) ∧ Below w.heap.size w w' := by
  by_cases k1 : d.kind = 1
  · rw [alone_num k1]
    obtain ⟨k, n, nm, st, lb, ks⟩ := d
    simp only at hs k1 ⊢
    subst k1
    unfold dv
    obtain ⟨b, HB⟩ : ∃ b, Hid (rangeB n = b) := ⟨_, rfl⟩
    rw [HB.out]
    have NA : Hid (∀ w, Calls Tryd.prog 93 #[.int .i64 n] w fun e w' => e = .returned (.bool b) ∧ w' = w) := by
      intro w
      rw [← HB.out]
      exact inRange_any n w
    cases b
    all_goals
      go_enter Tryd.func87, Tryd.ntmps87
      go_wp2_with fail
      refine (NA.out _).mono ?_
      rintro e w' ⟨rfl, rfl⟩
      go_wp2_with fail
      go_ret
      exact ⟨rfl, (Below.refl _ _).alloc (Nat.le_refl _) _⟩
  · by_cases k2 : d.kind = 2
    · rw [alone_bool k2]
      obtain ⟨k, n, nm, st, lb, ks⟩ := d
      simp only at hs k2 ⊢
      subst k2
      clear k1
      unfold dv
      by_cases n0 : n = 0
      · subst n0
        go_enter Tryd.func87, Tryd.ntmps87
        go_wp2_with fail
        go_ret
        exact ⟨rfl, (Below.refl _ _).alloc (Nat.le_refl _) _⟩
      · by_cases n1 : n = 1
        · subst n1
          go_enter Tryd.func87, Tryd.ntmps87
          go_wp2_with fail
          go_ret
          exact ⟨rfl, (Below.refl _ _).alloc (Nat.le_refl _) _⟩
        · have n0' : (n != 0) = true := by simpa using n0
          have n1' : (n != 1) = true := by simpa using n1
          go_enter Tryd.func87, Tryd.ntmps87
          go_wp2_with fail
          go_ret
          exact ⟨rfl, (Below.refl _ _).alloc (Nat.le_refl _) _⟩
    · by_cases k3 : d.kind = 3
      · rw [alone_sym k3]
        have ws := fun w => wrongSymbol_any d a cap hs w
        have WS : Hid (∀ w, Calls Tryd.prog 94 #[dv d a cap] w fun e w' => e = .returned (.int .i64 (symErr d)) ∧ Below w.heap.size w w') := ws
        clear ws k1 k2
        generalize symErr d = y at WS ⊢
        obtain ⟨k, n, nm, st, lb, ks⟩ := d
        simp only at hs k3
        subst k3
        unfold dv at WS ⊢
        simp only at WS
        go_enter Tryd.func87, Tryd.ntmps87
        go_wp2_with fail
        refine (WS.out _).mono ?_
        rintro e w' ⟨rfl, hb⟩
        go_wp2_with fail
        go_ret
        exact ⟨rfl, ((Below.refl _ _).alloc (Nat.le_refl _) _).trans (hb.mono (by simp))⟩
      · by_cases k4 : d.kind = 4
        · rw [alone_list k4]
          obtain ⟨k, n, nm, st, lb, ks⟩ := d
          simp only at hs k4
          subst k4
          clear k1 k2 k3
          unfold dv
          go_enter Tryd.func87, Tryd.ntmps87
          go_wp2_with fail
          go_ret
          exact ⟨rfl, (Below.refl _ _).alloc (Nat.le_refl _) _⟩
        · rw [alone_else k1 k2 k3 k4]
          obtain ⟨k, n, nm, st, lb, ks⟩ := d
          simp only at hs k1 k2 k3 k4
          unfold dv
          have k1' : (k == 1) = false := by simpa using k1
          have k2' : (k == 2) = false := by simpa using k2
          have k3' : (k == 3) = false := by simpa using k3
          have k4' : (k == 4) = false := by simpa using k4
          clear k1 k2 k3 k4
          go_enter Tryd.func87, Tryd.ntmps87
          go_wp2_with fail
          go_ret
          exact ⟨rfl, (Below.refl _ _).alloc (Nat.le_refl _) _⟩
end Go.Proofs.YthooljlikllnpaaDoor
