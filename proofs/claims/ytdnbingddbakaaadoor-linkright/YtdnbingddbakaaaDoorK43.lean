/- Chapter 9, the document's side, plainly: what is wrong with what an instruction has. -/
import Derived.Test.YtdnbingddbakaaaDoorK14
import Derived.Test.YtdnbingddbakaaaDoorK18
import Derived.Test.YtdnbingddbakaaaDoorK22
namespace Go.Proofs.YtdnbingddbakaaaDoor
set_option linter.unusedVariables false
set_option linter.unusedSimpArgs false
open Go.RowKit

theorem field_faultS (a b : Int) (w : World) : (Instr.field 30 (.agg #[.int .i64 a, .int .i64 b]) 0).run Tryd.prog w = .ok (.int .i64 a) w := by
  simp [Instr.field, run_underlying Tryd.underlying30, go_sem, asAgg]
/-- What is wrong with a global: by its number, or by its name. -/
def glN (gn : Int) (x : In) : Int := if 0 ≤ gn then (if 0 ≤ x.a ∧ x.a < gn then 0 else 3) else nameW x
/-- What is wrong with what an instruction has, that makes no procedure. -/
def ownW (ar n gn : Int) (x : In) : Int :=
  if x.op = 1 then (if -1000000000000000 ≤ x.n ∧ x.n ≤ 1000000000000000 then 0 else 3)
  else if x.op = 2 then (if x.n = 0 ∨ x.n = 1 then 0 else 3)
  else if x.op = 3 then (wrong [x.quote]).1
  else if x.op = 4 ∨ x.op = 11 then (if 0 ≤ x.a ∧ x.a < ar then 0 else 3)
  else if x.op = 5 ∨ x.op = 12 ∨ x.op = 13 then glN gn x
  else if x.op = 6 then (if argsB x.own = 0 then 7 else 0)
  else if x.op = 8 then (if 0 ≤ x.a ∧ x.a ≤ 2000 then 0 else 3)
  else if x.op = 9 ∨ x.op = 10 then (if 0 ≤ x.a ∧ x.a < n then 0 else 3)
  else if x.op = 7 ∨ x.op = 14 ∨ x.op = 15 then 0 else 1
end Go.Proofs.YtdnbingddbakaaaDoor
