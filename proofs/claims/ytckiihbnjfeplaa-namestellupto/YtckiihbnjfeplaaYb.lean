/- From the rows' conditions to what the walks ask: small facts of this program. -/
import Derived.Test.YtckiihbnjfeplaaChecked
import Derived.Test.YtckiihbnjfeplaaYa
import Derived.Deep.DeepHandedRow
import Derived.Deep.DeepWitnessRowRef
import Derived.Lay
import Derived.SizedLaws
namespace Go.Proofs.Ytckiihbnjfeplaa
set_option linter.unusedVariables false
set_option linter.unusedSimpArgs false
open Go.ChangeShapes Go.WideShapes Go.ChangeAt Go.RowKit

theorem own : ownKnob Try.prog.godebug = none := by kernel_rfl
theorem laidOut : laidOutB Try.prog = true := by kernel_rfl

theorem array6 {cs : Array Value} (h : cs.size = 6) : ∃ x0 x1 x2 x3 x4 x5, cs = #[x0, x1, x2, x3, x4, x5] := by
  obtain ⟨l⟩ := cs
  simp at h
  match l, h with
  | [x0, x1, x2, x3, x4, x5], _ => exact ⟨x0, x1, x2, x3, x4, x5, rfl⟩

theorem str_size {H : Type} {enc : TypeId × Value → H} {W : World} {s : ByteArray} {sp : Nat → Bool} {held : Bool} {fuel : Nat} {x : DataW H × List MemPlace} (h : DataW.trod enc Try.prog W 0 sp held fuel 9 [.string s] = some x) : s.size ≤ maxLen := by
  obtain ⟨s', hs, hx, hm⟩ := DataW.trod_string Try.underlying9 h
  simp at hs
  subst hs
  exact hm
end Go.Proofs.Ytckiihbnjfeplaa
