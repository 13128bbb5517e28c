/- Chapter 7: package value: a primitive of two numbers. -/
import Derived.Test.YthooljlikllnpaaDoorHb
import Derived.Deep.RegionWith
import Derived.RegionDies
namespace Go.Proofs.YthooljlikllnpaaDoor
set_option linter.unusedVariables false
set_option linter.unusedSimpArgs false
open Go.RowKit

set_option maxRecDepth 100000 in
set_option maxHeartbeats 3200000 in
theorem ofTwo_num (f : Fin 4) (a b : Int) (w : World) (h1 : rangeN a = true) (h2 : rangeN b = true) : Calls Tryd.prog 74 #[.string (opB f), .iface 104 (.int .i64 a), .iface 104 (.int .i64 b)] w (ValOr (opOk f a b) (opV f a b) 6 w) := by
  have ON := hidd (ofNumbers_any f a b w h1 h2)
  have NA := hidd (fun w => numberOf_any a w)
  have NB := hidd (fun w => numberOf_any b w)
  obtain ⟨s, hs⟩ : ∃ s, s = opB f := ⟨_, rfl⟩
  have c1 : (s.toList == [99, 111, 110, 115]) = false := by rw [hs]; match f with | 0 => decide +kernel | 1 => decide +kernel | 2 => decide +kernel | 3 => decide +kernel
  have c2 : (s.toList == [101, 113, 63]) = false := by rw [hs]; match f with | 0 => decide +kernel | 1 => decide +kernel | 2 => decide +kernel | 3 => decide +kernel
  rw [← hs] at ON ⊢
  obtain ⟨q, hq⟩ : ∃ q, q = opOk f a b := ⟨_, rfl⟩
  obtain ⟨v, hv⟩ : ∃ v, v = opV f a b := ⟨_, rfl⟩
  rw [← hq, ← hv] at ON ⊢
  clear hs hq hv h1 h2
  go_enter Tryd.func74, Tryd.ntmps74
  go_wp2_with fail
  refine (NA.out _).mono ?_
  rintro e w1 ⟨rfl, rfl⟩
  go_wp2_with fail
  refine (NB.out _).mono ?_
  rintro e w1 ⟨rfl, rfl⟩
  go_wp2_with fail
  refine ON.out.mono ?_
  rintro e w1 ⟨rfl, rfl⟩
  cases q
  · go_wp2_with fail
    exact ⟨rfl, rfl, rfl⟩
  · go_wp2_with fail
    go_ret
    exact ⟨rfl, rfl⟩
/-- A value, or an end; all that was there stays. -/
def ValOrB (b : Bool) (v : Value) (how : Int) (w : World) (e : Ending) (w' : World) : Prop := (e = if b then .returned v else .panicked (endP how)) ∧ Below w.heap.size w w'
set_option maxRecDepth 100000 in
set_option maxHeartbeats 3200000 in
theorem prim_two (f : Fin 4) (a b : Int) (ov : Value) (ab ao c : Nat) (w : World) (h1 : rangeN a = true) (h2 : rangeN b = true) (k0 : w.cell? ⟨ab, ao, none⟩ = some (.iface 104 (.int .i64 a))) (k1 : w.cell? ⟨ab, ao + 1, none⟩ = some (.iface 104 (.int .i64 b))) :
    Calls Tryd.prog 59 #[ov, .string (opB f), .slice (some ⟨ab, ao, none⟩) 2 c] w (ValOrB (opOk f a b) (opV f a b) 6 w) := by
  have OT := hidd (fun w => ofTwo_num f a b w h1 h2)
  obtain ⟨s, hs⟩ : ∃ s, s = opB f := ⟨_, rfl⟩
  have AR : Hid (∀ w, Calls Tryd.prog 64 #[.string s] w fun e w' => e = .returned (.int .i64 2) ∧ w' = w) := fun w => by
    have e : argsB s = 2 := by rw [hs]; match f with | 0 => decide +kernel | 1 => decide +kernel | 2 => decide +kernel | 3 => decide +kernel
    have := argsOf_any s w
    rw [e] at this
    exact this
  have c1 : (s.toList == [111, 117, 116]) = false := by rw [hs]; match f with | 0 => decide +kernel | 1 => decide +kernel | 2 => decide +kernel | 3 => decide +kernel
  rw [← hs] at OT ⊢
  obtain ⟨q, hq⟩ : ∃ q, q = opOk f a b := ⟨_, rfl⟩
  obtain ⟨v, hv⟩ : ∃ v, v = opV f a b := ⟨_, rfl⟩
  rw [← hq, ← hv] at OT ⊢
  clear hs hq hv h1 h2
  go_enter Tryd.func59, Tryd.ntmps59
  go_wp2_with fail
  refine (AR.out _).mono ?_
  rintro e w1 ⟨rfl, rfl⟩
  go_wp2_with fail
  refine (Must_yes _ _).mono ?_
  rintro e w1 ⟨rfl, rfl⟩
  cases q
  · go_wp2_with fail
    go_region_dies
    all_goals
      refine (OT.out _).mono ?_
      rintro e w1 ⟨rfl, rfl⟩
      go_wp2_with fail
      exact ⟨rfl, rfl, Below.drew (Below.refl _ _)⟩
  · go_wp2_with fail
    go_region_with (go_at_call 74; refine (OT.out _).mono ?_; rintro e w1 ⟨rfl, rfl⟩)
    all_goals
      go_wp2_with fail
      go_ret
      exact ⟨rfl, Below.drew (Below.refl _ _)⟩
end Go.Proofs.YthooljlikllnpaaDoor
