/- Chapter 3: small functions of package lib. -/
import Derived.Test.YtonafbennobgdaaGreatDoorK02
import Derived.Test.YtonafbennobgdaaGreatDoorK09
import Derived.Deep.QuietTactic
import Derived.BigQuiet
import Derived.StillTail
namespace Go.Proofs.YtonafbennobgdaaGreatDoor
set_option linter.unusedVariables false
set_option linter.unusedSimpArgs false
open Go.RowKit
def thrownL (x : Int) : List PanicEntry := [{ v := .iface 90 (.agg #[.int .i64 x]), recovered := false }]
def ToldE {α : Type} (r : Er α) (P : α → Value → World → Prop) (w : World) (e : Ending) (w' : World) : Prop :=
 Below w.heap.size w w' ∧ match r with
  | .ok a => ∃ v, e = .returned v ∧ P a v w'
  | .no x => e = .panicked (thrownL x)
theorem must_yes (x : Int) (w : World) : Calls Tryz.prog 54 #[.bool true, .int .i64 x] w fun e w' => e = .returned (.tuple #[]) ∧ w' = w := by
 go_enter Tryz.func54, Tryz.ntmps54
 go_wp2_with fail
 go_end0
 exact ⟨rfl, rfl⟩
theorem must_no (x : Int) (w : World) : Calls Tryz.prog 54 #[.bool false, .int .i64 x] w fun e w' => e = .panicked (thrownL x) ∧ w' = w := by
 go_enter Tryz.func54, Tryz.ntmps54
 go_wp2_with fail
 exact ⟨rfl, rfl, rfl⟩
set_option maxRecDepth 100000 in
set_option maxHeartbeats 1600000 in
theorem things_any (d : Dat) (a : Option Addr) (cap : Nat) (w : World) : Calls Tryz.prog 77 #[dv d a cap] w (ToldE (thingsF d) (fun l v _ => v = .slice a d.kids.length cap ∧ l = d.kids) w) := by
 have HB : Hid (Below w.heap.size w (w.alloc (.cells #[.int .i64 d.kind, .int .i64 d.n, .string d.name, .int .i64 d.stamp, .int .i64 d.lib, .slice a d.kids.length cap] 26))) := (Below.refl _ _).alloc (Nat.le_refl _) _
 have HY := hidd (must_yes 2)
 have HN := hidd (must_no 2)
 unfold thingsF dv
 by_cases h1 : d.kind = 4
 ·have c1 : (d.kind == 4) = true := by simpa using h1
  by_cases h2 : d.kids = []
  ·rw [if_neg (by simp [h2])]
   have c2 : decide (0 < d.kids.length) = false := by simp [h2]
   clear h1 h2
   generalize d.kids.length = n at *
   go_enter Tryz.func77, Tryz.ntmps77
   go_wp2_with fail
   refine (HN.out _).mono ?_
   rintro e w1 ⟨rfl, rfl⟩
   go_wp2_with fail
   exact ⟨rfl, HB.out, rfl⟩
  rw [if_pos ⟨h1, h2⟩]
  have c0 : 0 < d.kids.length := List.length_pos_iff.2 h2
  have c2 : decide (0 < d.kids.length) = true := by simp; omega
  clear h1 h2
  generalize d.kids.length = n at *
  go_enter Tryz.func77, Tryz.ntmps77
  go_wp2_with fail
  refine (HY.out _).mono ?_
  rintro e w1 ⟨rfl, rfl⟩
  go_wp2_with fail
  go_ret
  exact ⟨HB.out, _, rfl, rfl, rfl⟩
 rw [if_neg (fun h => h1 h.1)]
 have c1 : (d.kind == 4) = false := by simpa using h1
 clear h1
 generalize d.kids.length = n at *
 go_enter Tryz.func77, Tryz.ntmps77
 go_wp2_with fail
 refine (HN.out _).mono ?_
 rintro e w1 ⟨rfl, rfl⟩
 go_wp2_with fail
 exact ⟨rfl, HB.out, rfl⟩
end Go.Proofs.YtonafbennobgdaaGreatDoor
