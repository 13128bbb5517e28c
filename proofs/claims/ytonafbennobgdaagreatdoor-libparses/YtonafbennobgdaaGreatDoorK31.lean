/- Data: whether they are the same; the document's Equal and Same tell so. -/
import Derived.Test.YtonafbennobgdaaGreatDoorK30
import Derived.Test.YtonafbennobgdaaGreatDoorK10
namespace Go.Proofs.YtonafbennobgdaaGreatDoor
set_option linter.unusedVariables false
set_option linter.unusedSimpArgs false
open Go.RowKit
mutual
def sameD : Dat → Dat → Bool
 | ⟨k, n, nm, st, lb, ks⟩, e => if k ≠ e.kind then false else if k = 1 ∨ k = 2 then decide (n = e.n) else if k = 3 then decide (nm = e.name) && decide (st = e.stamp) && decide (lb = e.lib) else if k = 4 then sameL ks e.kids else true
def sameL : List Dat → List Dat → Bool
 | [], ys => ys.isEmpty
 | d :: r, ys => match ys with
  | [] => false
  | e :: s => sameD d e && sameL r s
end
abbrev Ans (b : Bool) (w : World) (e : Ending) (w' : World) : Prop := e = .returned (.bool b) ∧ Below w.heap.size w w'
end Go.Proofs.YtonafbennobgdaaGreatDoor
