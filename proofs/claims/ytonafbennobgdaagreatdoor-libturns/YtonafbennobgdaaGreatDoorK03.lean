/- Small functions of the document's answer: what each returns. The document's answer to 'looks like a number': what it returns. -/
import Derived.Lib.SlBytesConst
import Derived.WalkKit
import Derived.WalkLawsBesides
import Derived.WalkSpells
import Derived.Test.YtonafbennobgdaaGreatDoorK01
namespace Go.Proofs.YtonafbennobgdaaGreatDoor
set_option linter.unusedVariables false
set_option linter.unusedSimpArgs false
section
open Go.RowKit

theorem retB {a b : Bool} (h : a = b) : Ending.returned (.bool a) = .returned (.bool b) := by rw [h]
end
section
open Go.RowKit

theorem looks_of {l m : List UInt8} (h : unsign l = m) : looksB l = (allDig m && !m.isEmpty) := by
 unfold looksB; rw [h]
end
end Go.Proofs.YtonafbennobgdaaGreatDoor
