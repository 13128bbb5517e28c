/- Proved: the law ObjectUnlike (what is unlike is written unlike: two right units with the same bytes are the same, in what their instructions have) returns true for every two units that can be read, and leaves them as they were; its condition: the library's tables and errors read as the program's text lays them. -/
import Derived.Test.YtdnbingddbakaaaGreatDoorCards
import Derived.Test.YtdnbingddbakaaaGreatDoorTie
import Derived.Deep.DeepHandedRow
import Derived.Deep.DeepWitnessRowRef
import Derived.Lay
import Derived.Test.YtdnbingddbakaaaGreatDoorK33
import Derived.Test.YtdnbingddbakaaaGreatDoorK49
import Derived.Lib.LaidTab
namespace Go.Proofs.YtdnbingddbakaaaGreatDoor
set_option linter.unusedVariables false
set_option linter.unusedSimpArgs false
open Go.ChangeShapes Go.WideShapes Go.ChangeAt Go.RowKit

theorem own : ownKnob Tryz.prog.godebug = none := by kernel_rfl
theorem laidOut : laidOutB Tryz.prog = true := by kernel_rfl
theorem array2 {α : Type} {cs : Array α} (h : cs.size = 2) : ∃ a b, cs = #[a, b] := by
  obtain ⟨l⟩ := cs
  match l, h with
  | [a, b], _ => exact ⟨a, b, rfl⟩
theorem cells24 : Tryz.prog.cellsOf 24 = 2 := by kernel_rfl
theorem laid_tail {P : Program} {w : World} {n : String} {d : DataW Unit} {r : List (String × DataW Unit)} {ps : List MemPlace} (h : DataW.LaidVars P w ((n, d) :: r) ps) : ∃ q, DataW.LaidVars P w r q := by
  obtain ⟨_, _, _, _, _, q, _, _, _, _, h, _⟩ := h
  exact ⟨q, h⟩
theorem gTab : Tryz.prog.globalNamed "strings.asciiSpace" = some 0 := by kernel_rfl
theorem gTabType : (Tryz.prog.globals[0]?).map (·.type) = some 169 := by kernel_rfl
theorem cells5 : Tryz.prog.cellsOf 5 = 1 := by kernel_rfl
theorem cells169 : Tryz.prog.cellsOf 169 = 256 := by kernel_rfl
theorem tab_data : (Rows.laid_strings_asciiSpace : DataW Unit) = Lib.tabData .u8 Lib.asciiSpaceTab := by kernel_rfl
theorem gPow : Tryz.prog.globalNamed Tryz.tabName = some 3 := by kernel_rfl
theorem gPowType : (Tryz.prog.globals[3]?).map (·.type) = some 236 := by kernel_rfl
theorem cells112 : Tryz.prog.cellsOf 112 = 1 := by kernel_rfl
theorem cells236 : Tryz.prog.cellsOf 236 = 20 := by kernel_rfl
theorem pow_data : (Rows.laid_internal_strconv_uint64pow10 : DataW Unit) = Lib.tabData .u64 Lib.pow10Tab := by kernel_rfl
/-- What the row's list gives: the tables of blanks, and of the powers of ten. -/
theorem table {W : World} (h : laidMetH Tryz.prog Rows.objectUnlikeRow.laid W) : TB2 W := by
  have h1 : laidMet Tryz.prog Rows.objectUnlikeRow.laid W := h
  obtain ⟨ps, hv, _⟩ := h1
  obtain ⟨q1, hv1⟩ := laid_tail hv
  obtain ⟨q2, hv2⟩ := laid_tail hv1
  obtain ⟨q3, hv3⟩ := laid_tail hv2
  obtain ⟨q4, hv4⟩ := laid_tail hv3
  obtain ⟨q5, hv5⟩ := laid_tail hv4
  obtain ⟨q6, hv6⟩ := laid_tail hv5
  obtain ⟨q7, hv7⟩ := laid_tail hv6
  refine ⟨?_, ?_⟩
  · obtain ⟨g, t, cs, fuel, p, q, hg, hty, hvar, hd, _, _⟩ := hv7
    have hg0 : g = 0 := Option.some.inj (hg.symm.trans gTab)
    subst hg0
    have ht0 : t = 169 := Option.some.inj (hty.symm.trans gTabType)
    subst ht0
    rw [tab_data] at hd
    have hc := Lib.cells_of_tab Tryz.underlying169 Tryz.underlying5 cells5 cells169 hd
    unfold TabS Lib.TabIs
    rw [← hc]
    exact hvar
  · obtain ⟨g, t, cs, fuel, p, q, hg, hty, hvar, hd, _, _⟩ := hv2
    have hg0 : g = 3 := Option.some.inj (hg.symm.trans gPow)
    subst hg0
    have ht0 : t = 236 := Option.some.inj (hty.symm.trans gPowType)
    subst ht0
    rw [pow_data] at hd
    have hc := Lib.cells_of_tab Tryz.underlying236 Tryz.underlying112 cells112 cells236 hd
    have ht : Lib.TabIs Tryz.prog W Tryz.tabName .u64 Lib.pow10Tab := by
      unfold Lib.TabIs
      rw [← hc]
      exact hvar
    have h0 := ht.cell gPow 0 (by decide)
    exact ⟨ht, 3, gPow, World.block_lt_of_cell? _ _ h0⟩

set_option maxRecDepth 100000 in
/-- WHAT THE WALK GIVES, for every argument. -/
theorem contract (H : Type) (enc : TypeId × Value → H) (W : World) (base : Nat) (args : Array Value) (ds gs : List (DataW H)) (before : List MemPlace)
    (hval : ∀ (j : Nat) t v, Tryz.f6.params[j]? = some t → args[j]? = some v → Value.okWide Tryz.prog W .any base t v)
    (hW : DataW.Whole enc Tryz.prog Tryz.f6.params.toList Rows.objectUnlikeSpec.vars false W args.toList ds gs before)
    (hz : (DataW.weightsEach Tryz.prog (Tryz.f6.params.toList ++ (OpenSpec.ofChange Rows.objectUnlikeSpec).bare.plain.varTypes Tryz.prog) (ds ++ gs)).all (· ≤ reachBytes) = true) (htab : TB2 W) :
    Calls Tryz.prog 6 args W fun e W' => ∃ v, e = .returned v ∧ Rows.objectUnlikeSpec.post enc Tryz.prog Tryz.f6 false true false false W args v W' := by
  have hW' := hW
  obtain ⟨p, q, hA0, hV, rfl, hfz, hnd⟩ := hW
  have hA : DataW.TrodAll enc Tryz.prog W 0 (fun _ => true) true Tryz.f6.params.toList args.toList ds p := hA0
  rw [Tryz.params6] at hA hval hz
  obtain ⟨v0, vs0, d0, ds0, p0, q0, hargs0, rfl, rfl, h0, r0⟩ := trodAll_cons hA
  obtain ⟨v1, vs1, d1, ds1, p1, q1, hargs1, rfl, rfl, h1, r1⟩ := trodAll_cons r0
  obtain ⟨rfl, rfl, rfl⟩ := trodAll_nil r1
  subst hargs1
  obtain rfl : args = #[v0, v1] := by cases args; simp_all
  obtain ⟨rfl, rfl⟩ := trodVars_none hV
  clear hA0
  simp only [List.append_nil] at hW'
  have hlt : ∀ x ∈ p0 ++ p1, x.block < W.heap.size := fun x hx => hW'.lt x hx
  obtain ⟨f0, g0⟩ := h0
  obtain ⟨f1, g1⟩ := h1
  obtain ⟨cs0, rfl, hz0⟩ := okWide_struct Tryz.underlying24 (hval 0 24 v0 rfl rfl)
  obtain ⟨x0, x1, rfl⟩ := array2 (hz0.trans cells24)
  obtain ⟨nm, PP, pa, pc, rfl, rfl, hpc, hpm, hnm, hpl⟩ := unit_of_trod (by simpa [Value.cells] using g0)
  obtain ⟨cs1, rfl, hz1⟩ := okWide_struct Tryz.underlying24 (hval 1 24 v1 rfl rfl)
  obtain ⟨y0, y1, rfl⟩ := array2 (hz1.trans cells24)
  obtain ⟨nm2, QQ, qa, qc, rfl, rfl, hqc, hqm, hnm2, hql⟩ := unit_of_trod (by simpa [Value.cells] using g1)
  refine (ObjectUnlike_walk nm nm2 PP QQ pa qa PP.length QQ.length pc qc W rfl rfl hnm hnm2 hpl hql hpc hqc hpm hqm htab).mono fun e W' ⟨he, hb⟩ => ?_
  subst he
  exact ⟨_, rfl, ⟨_, _, _, [], p0 ++ (p1 ++ []), [], hW', trodAll_cons_mk (shut_bool Tryz.underlying4 _) trodAll_mk0,
    (trodAll_cons_mk (Below.trod laidOut (by kernel_rfl) (of_decide_eq_true (by kernel_rfl)) ⟨f0, g0⟩ hb (fun x hx => hlt x (List.mem_append_left _ hx))) (trodAll_cons_mk (Below.trod laidOut (by kernel_rfl) (of_decide_eq_true (by kernel_rfl)) ⟨f1, g1⟩ hb (fun x hx => hlt x (List.mem_append_right _ hx))) trodAll_mk0)), rfl, hb.frame _, fun h => by cases h⟩⟩

set_option maxRecDepth 100000 in
theorem lifted (os : Os) (started : os.Started) (H : Type) (enc : TypeId × Value → H) (F : Stop.Interp) :
    ReturnsInHanded {} Tryz.checked os 6 .any ((OpenSpec.ofChange Rows.objectUnlikeSpec).preRow enc Tryz.prog Tryz.f6 Rows.objectUnlikeRow.domain false Rows.objectUnlikeRow.laid) (((OpenSpec.ofChange Rows.objectUnlikeSpec).at F).post enc Tryz.prog Tryz.f6 false true false false) := by
  refine returnsInHanded_of_row (C := Tryz.checked) (s := OpenSpec.ofChange Rows.objectUnlikeSpec) own started (by kernel_rfl) Tryz.func6
    (witness_row_atRef (enc := enc) (C := Tryz.checked) false (World.laidAll Tryz.prog os Rows.objectUnlikeRow.laid)
      #[.agg #[.string ⟨#[]⟩, .slice none 0 0], .agg #[.string ⟨#[]⟩, .slice none 0 0]] (World.laidAll_os _ _ _) (by kernel_rfl) (by kernel_rfl) (by kernel_rfl)
      (OpenSpec.preRow_of_cond 8 (x := ([.agg [.lit (.string []), .nil], .agg [.lit (.string []), .nil]], [], [])) (by kernel_rfl) (by kernel_rfl) (fun k hk => by cases hk) (by kernel_rfl) (laidMet_laidAll _ (by kernel_rfl) (by kernel_rfl)))) ?_
  intro W base args ds gs before hval hW _ hcond hz hL _ _
  exact contract H enc W base args ds gs before hval hW hz (table hL)

theorem said : Rows.ObjectUnlikeSaid :=
  OpenClaim.holds_of_cond 6 Tryz.f6 rfl rfl rfl rfl rfl rfl rfl ⟨rfl, rfl, rfl, rfl, rfl⟩ rfl rfl rfl rfl rfl (by kernel_rfl) Tryz.func6 (by kernel_rfl)
    (of_decide_eq_true (by kernel_rfl)) (by unfold Func.isWrapper; first | (rw [if_pos (by decide +kernel)]; kernel_rfl) | (rw [if_neg (by decide +kernel)]; exact ⟨rfl, rfl⟩))
    (fun os started H enc _ F => by rw [OpenClaim.pre_eq_preRow]; exact lifted os started H enc F)

/-- No parameter wants a stand-in. -/
theorem plain (f : FuncId) (fn : Func) (hf : Tryz.pinned.checked.prog.funcNamed Tryz.f6.name = some f) (hfn : Tryz.pinned.checked.prog.funcs[f]? = some fn) :
    true = Tryz.pinned.checked.prog.looks [] ∧ ∀ (j : Nat) t, fn.params[j]? = some t → Tryz.pinned.checked.prog.wantsStandIn t = false := by
  obtain rfl : f = 6 := Option.some.inj ((show Tryz.prog.funcNamed Tryz.f6.name = some 6 by kernel_rfl).symm.trans hf) |>.symm
  obtain rfl : fn = Tryz.f6 := (Option.some.inj (Tryz.func6.symm.trans hfn)).symm
  refine ⟨by kernel_rfl, fun j t ht => ?_⟩
  rw [Tryz.params6] at ht
  have hm : t = 24 := by
    have hq := Array.mem_of_getElem? ht
    simp at hq
    omega
  subst hm
  exact (show Tryz.prog.wantsStandIn 24 = false by kernel_rfl)

/-- THE LAW ObjectUnlike, TIED TO THE PROGRAM's TEXT. -/
theorem objectUnlike_holds : Rows.ObjectUnlikeCardSaid :=
  Claim7.holds_tied_plain_at .later [] _ _ _ _ said (fun _ h => by cases h) (by kernel_rfl) (fun _ h => by cases h) objectUnlike_row_tie rfl ⟨rfl, rfl⟩ (by kernel_rfl) rfl plain (by kernel_rfl)
#print axioms objectUnlike_holds
end Go.Proofs.YtdnbingddbakaaaGreatDoor
