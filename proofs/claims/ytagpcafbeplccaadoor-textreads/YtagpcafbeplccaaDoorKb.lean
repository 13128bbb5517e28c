/- From the row's conditions to what the walk asks: a string. -/
import Derived.Test.YtagpcafbeplccaaDoorMc
import Derived.Deep.DeepHandedRow
import Derived.Deep.DeepWitnessRowRef
import Derived.Lay
import Derived.ProofKit
import Derived.OpenShut
import Derived.ChangeAlike
namespace Go.Proofs.YtagpcafbeplccaaDoor
set_option linter.unusedVariables false
set_option linter.unusedSimpArgs false
open Go.ChangeShapes Go.WideShapes Go.ChangeAt Go.RowKit

theorem own : ownKnob Tryd.prog.godebug = none := by kernel_rfl
theorem laidOut : laidOutB Tryd.prog = true := by kernel_rfl

/-- A string among the arguments. -/
theorem str_of {H : Type} {enc : TypeId × Value → H} {W : World} {s : ByteArray} {sp : Nat → Bool} {held : Bool} {fuel : Nat} {x : DataW H × List MemPlace} (h : DataW.trod enc Tryd.prog W 0 sp held fuel 9 [.string s] = some x) : x = (.lit (.string s.data.toList), []) ∧ s.size ≤ maxLen := by
  obtain ⟨s', hs, hx, hm⟩ := DataW.trod_string Tryd.underlying9 h
  simp at hs
  subst hs
  exact ⟨hx, hm⟩

end Go.Proofs.YtagpcafbeplccaaDoor
