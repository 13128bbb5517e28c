/- From the rows' conditions to what the walks ask: the table; numbers. -/
import Derived.Test.YthooljlikllnpaaDoorIb
import Derived.Test.YthooljlikllnpaaDoorRows
import Derived.Deep.DeepHandedRow
import Derived.Deep.DeepWitnessRowRef
import Derived.Lay
import Derived.SizedLaws
import Derived.ChangeAlike
import Derived.Lib.LaidTab
import Derived.OpenShut
import Derived.ProofKit
namespace Go.Proofs.YthooljlikllnpaaDoor
set_option linter.unusedVariables false
set_option linter.unusedSimpArgs false
open Go.ChangeShapes Go.WideShapes Go.ChangeAt Go.RowKit

theorem own : ownKnob Tryd.prog.godebug = none := by kernel_rfl
theorem laidOut : laidOutB Tryd.prog = true := by kernel_rfl
theorem gTab : Tryd.prog.globalNamed Tryd.tabName = some 0 := by kernel_rfl
theorem gTabType : (Tryd.prog.globals[0]?).map (·.type) = some 150 := by kernel_rfl
theorem cells150 : Tryd.prog.cellsOf 150 = 20 := by kernel_rfl

theorem laid_tail {P : Program} {w : World} {n : String} {d : DataW Unit} {r : List (String × DataW Unit)} {ps : List MemPlace} (h : DataW.LaidVars P w ((n, d) :: r) ps) : ∃ q, DataW.LaidVars P w r q := by
  obtain ⟨_, _, _, _, _, q, _, _, _, _, h, _⟩ := h
  exact ⟨q, h⟩

theorem cells131 : Tryd.prog.cellsOf 131 = 1 := by kernel_rfl
theorem pow_data : (Rows.laid_internal_strconv_uint64pow10 : DataW Unit) = Lib.tabData .u64 Lib.pow10Tab := by kernel_rfl

/-- What the row's list gives: the table of the powers of ten. -/
theorem table_of {W : World} {x y : String × DataW Unit} {r : List (String × DataW Unit)} (h : laidMet Tryd.prog (x :: y :: (Tryd.tabName, Rows.laid_internal_strconv_uint64pow10) :: r) W) : Tab W.heap.size W := by
  obtain ⟨x1, x2⟩ := x
  obtain ⟨y1, y2⟩ := y
  obtain ⟨ps, hv, _⟩ := h
  obtain ⟨q1, hv1⟩ := laid_tail hv
  obtain ⟨q2, hv2⟩ := laid_tail hv1
  obtain ⟨g, t, cs, fuel, p, q, hg, hty, hvar, hd, _, _⟩ := hv2
  have hg0 : g = 0 := Option.some.inj (hg.symm.trans gTab)
  subst hg0
  have ht0 : t = 150 := Option.some.inj (hty.symm.trans gTabType)
  subst ht0
  rw [pow_data] at hd
  have hc := Lib.cells_of_tab Tryd.underlying150 Tryd.underlying131 cells131 cells150 hd
  have ht : Lib.TabIs Tryd.prog W Tryd.tabName .u64 Lib.pow10Tab := by
    unfold Lib.TabIs
    rw [← hc]
    exact hvar
  have h0 := ht.cell gTab 0 (by decide)
  exact ⟨ht, 0, gTab, World.block_lt_of_cell? _ _ h0⟩
end Go.Proofs.YthooljlikllnpaaDoor
