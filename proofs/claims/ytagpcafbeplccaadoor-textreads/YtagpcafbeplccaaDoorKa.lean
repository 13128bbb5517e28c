/- From the rows' conditions to what the walks ask: tables; strings. -/
import Derived.Test.YtagpcafbeplccaaDoorNa
import Derived.Test.YtagpcafbeplccaaDoorHb
import Derived.Deep.DeepHandedRow
import Derived.Deep.DeepWitnessRowRef
import Derived.Lay
import Derived.SizedLaws
import Derived.Lib.LaidTab
namespace Go.Proofs.YtagpcafbeplccaaDoor
set_option linter.unusedVariables false
set_option linter.unusedSimpArgs false
open Go.ChangeShapes Go.WideShapes Go.ChangeAt Go.RowKit

theorem own : ownKnob Tryd.prog.godebug = none := by kernel_rfl
theorem laidOut : laidOutB Tryd.prog = true := by kernel_rfl
theorem gTab : Tryd.prog.globalNamed Tryd.tabName = some 0 := by kernel_rfl
theorem gTabType : (Tryd.prog.globals[0]?).map (·.type) = some 105 := by kernel_rfl
theorem cells105 : Tryd.prog.cellsOf 105 = 20 := by kernel_rfl

theorem laid_tail {P : Program} {w : World} {n : String} {d : DataW Unit} {r : List (String × DataW Unit)} {ps : List MemPlace} (h : DataW.LaidVars P w ((n, d) :: r) ps) : ∃ q, DataW.LaidVars P w r q := by
  obtain ⟨_, _, _, _, _, q, _, _, _, _, h, _⟩ := h
  exact ⟨q, h⟩

theorem cells96 : Tryd.prog.cellsOf 96 = 1 := by kernel_rfl
theorem pow_data : (Rows.laid_internal_strconv_uint64pow10 : DataW Unit) = Lib.tabData .u64 Lib.pow10Tab := by kernel_rfl

/-- What the row's list gives: the table of the powers of ten. -/
theorem table_of {W : World} {x y : String × DataW Unit} {r : List (String × DataW Unit)} (h : laidMet Tryd.prog (x :: y :: (Tryd.tabName, Rows.laid_internal_strconv_uint64pow10) :: r) W) : Tab W.heap.size W := by
  obtain ⟨x1, x2⟩ := x
  obtain ⟨y1, y2⟩ := y
  obtain ⟨ps, hv, _⟩ := h
  obtain ⟨q1, hv1⟩ := laid_tail hv
  obtain ⟨q2, hv2⟩ := laid_tail hv1
  obtain ⟨g, t, cs, fuel, p, q, hg, hty, hvar, hd, _, _⟩ := hv2
  have hg0 : g = 0 := Option.some.inj (hg.symm.trans gTab)
  subst hg0
  have ht0 : t = 105 := Option.some.inj (hty.symm.trans gTabType)
  subst ht0
  rw [pow_data] at hd
  have hc := Lib.cells_of_tab Tryd.underlying105 Tryd.underlying96 cells96 cells105 hd
  have ht : Lib.TabIs Tryd.prog W Tryd.tabName .u64 Lib.pow10Tab := by
    unfold Lib.TabIs
    rw [← hc]
    exact hvar
  have h0 := ht.cell gTab 0 (by decide)
  exact ⟨ht, 0, gTab, World.block_lt_of_cell? _ _ h0⟩

/-- A string among the arguments. -/
theorem str_of {H : Type} {enc : TypeId × Value → H} {W : World} {s : ByteArray} {sp : Nat → Bool} {held : Bool} {fuel : Nat} {x : DataW H × List MemPlace} (h : DataW.trod enc Tryd.prog W 0 sp held fuel 9 [.string s] = some x) : x = (.lit (.string s.data.toList), []) ∧ s.size ≤ maxLen := by
  obtain ⟨s', hs, hx, hm⟩ := DataW.trod_string Tryd.underlying9 h
  simp at hs
  subst hs
  exact ⟨hx, hm⟩

end Go.Proofs.YtagpcafbeplccaaDoor
