/- The order of texts, as the model has it. -/
import Derived.Test.YtckiihbnjfeplaaFb
namespace Go.Proofs.Ytckiihbnjfeplaa
set_option linter.unusedVariables false
set_option linter.unusedSimpArgs false
open Go.RowKit

theorem bytesLess_cb : ∀ (a b : List UInt8), Op.bytesLess a b = decide (Lib.compareBytes a b < 0)
  | [], [] => rfl
  | [], _ :: _ => rfl
  | _ :: _, [] => rfl
  | x :: a, y :: b => by
    unfold Op.bytesLess Lib.compareBytes
    by_cases h1 : x < y
    · simp [h1]
    · by_cases h2 : y < x
      · have h3 : ¬ x = y := fun e => by subst e; exact h1 h2
        simp [h1, h2, h3]
      · have e : x = y := UInt8.le_antisymm (UInt8.not_lt.1 h2) (UInt8.not_lt.1 h1)
        subst e
        have := bytesLess_cb a b
        simp [h1, this]
theorem bytesLess_ltB (a b : ByteArray) : Op.bytesLess a.toList b.toList = ltB a b := by
  rw [ByteArray.toList_eq, ByteArray.toList_eq, bytesLess_cb]
  rfl

end Go.Proofs.Ytckiihbnjfeplaa
