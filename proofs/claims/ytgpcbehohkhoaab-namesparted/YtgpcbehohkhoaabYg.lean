/- Proved: the law NamesParted (of the names of a set, those that only brings and those that except brings are all, each once) returns true for every set, exports and names that can be read, and leaves them as they were; there is no condition. -/
import Derived.Test.YtgpcbehohkhoaabRows
import Derived.Test.YtgpcbehohkhoaabYb
import Derived.Test.YtgpcbehohkhoaabXh
namespace Go.Proofs.Ytgpcbehohkhoaab
set_option linter.unusedVariables false
set_option linter.unusedSimpArgs false
open Go.ChangeShapes Go.WideShapes Go.ChangeAt Go.RowKit

set_option maxRecDepth 100000 in
/-- WHAT THE WALK GIVES, for every argument. -/
theorem contract (H : Type) (enc : TypeId × Value → H) (W : World) (base : Nat) (args : Array Value) (ds gs : List (DataW H)) (before : List MemPlace)
    (hval : ∀ (j : Nat) t v, Try.f3.params[j]? = some t → args[j]? = some v → Value.okWide Try.prog W .any base t v)
    (hW : DataW.Whole enc Try.prog Try.f3.params.toList Rows.namesPartedSpec.vars false W args.toList ds gs before) :
    Calls Try.prog 3 args W fun e W' => ∃ v, e = .returned v ∧ Rows.namesPartedSpec.post enc Try.prog Try.f3 false true false false W args v W' := by
  have hW' := hW
  obtain ⟨p, q, hA0, hV, rfl, hfz, hnd⟩ := hW
  have hA : DataW.TrodAll enc Try.prog W 0 (fun _ => true) true Try.f3.params.toList args.toList ds p := hA0
  rw [Try.params3] at hA hval
  obtain ⟨v0, vs0, d0, ds0, p0, q0, hargs0, rfl, rfl, h0, r0⟩ := trodAll_cons hA
  obtain ⟨v1, vs1, d1, ds1, p1, q1, hargs1, rfl, rfl, h1, r1⟩ := trodAll_cons r0
  obtain ⟨v2, vs2, d2, ds2, p2, q2, hargs2, rfl, rfl, h2, r2⟩ := trodAll_cons r1
  obtain ⟨rfl, rfl, rfl⟩ := trodAll_nil r2
  subst hargs2
  subst hargs1
  obtain rfl : args = #[v0, v1, v2] := by cases args; simp_all
  obtain ⟨rfl, rfl⟩ := trodVars_none hV
  clear hA0
  simp only [List.append_nil] at hW'
  have hlt : ∀ x ∈ p0 ++ (p1 ++ p2), x.block < W.heap.size := fun x hx => hW'.lt x hx
  obtain ⟨f0, g0⟩ := h0
  obtain ⟨f1, g1⟩ := h1
  obtain ⟨f2, g2⟩ := h2
  obtain ⟨cs0, rfl, hz0⟩ := okWide_struct Try.underlying25 (hval 0 25 v0 rfl rfl)
  obtain ⟨x00, x01, x02, x03, x04, x05, rfl⟩ := array6 (hz0.trans cells25)
  obtain ⟨s0, hs0⟩ := set_of_trod f0 f0 (Nat.le_refl _) _ _ _ _ _ _ _ (by simpa [Value.cells] using g0)
  obtain ⟨e00, e01, e02, c00, c01, c02, hv0, _, _⟩ := hs0.cells
  obtain ⟨ao1, ln1, cp1, hsl1⟩ := okWide_slice Try.underlying22 (hval 1 22 v1 rfl rfl)
  obtain ⟨a1, cap1, l1, hv1, hs1⟩ := strs_of_trod (v := v1) (by rw [hsl1] at g1 ⊢; simpa [Value.cells] using g1)
  obtain ⟨ao2, ln2, cp2, hsl2⟩ := okWide_slice Try.underlying22 (hval 2 22 v2 rfl rfl)
  obtain ⟨a2, cap2, l2, hv2, hs2⟩ := strs_of_trod (v := v2) (by rw [hsl2] at g2 ⊢; simpa [Value.cells] using g2)
  have hagg0 : (Value.agg #[x00, x01, x02, x03, x04, x05]) = setA s0.ly e00 e01 e02 c00 c01 c02 s0.nk := by
    have h : [x00, x01, x02, x03, x04, x05].toArray = (setV s0.ly e00 e01 e02 c00 c01 c02 s0.nk).toArray := by rw [hv0]
    exact congrArg Value.agg h
  rw [hv0] at hs0
  have hcall : Calls Try.prog 3 #[Value.agg #[x00, x01, x02, x03, x04, x05], v1, v2] W fun e w' => e = .returned (.bool true) ∧ Below W.heap.size W w' := by
    rw [hagg0, hv1, hv2]
    exact NamesParted_walk W.heap.size s0 s0.ly.kind s0.ly.name s0.ly.names s0.ly.asn s0.ly.pre e00 e01 e02 c00 c01 c02 s0.nk l1 l2 a1 a2 cap1 cap2 W hs0 hs1 hs2 (Nat.le_refl _)
  refine hcall.mono fun e W' ⟨he, hb⟩ => ?_
  subst he
  exact ⟨_, rfl, ⟨_, _, _, [], p0 ++ (p1 ++ (p2 ++ [])), [], hW', trodAll_cons_mk (shut_bool Try.underlying4 _) trodAll_mk0,
    trodAll_cons_mk (Below.trod laidOut (by kernel_rfl) (of_decide_eq_true (by kernel_rfl)) ⟨f0, g0⟩ hb (fun x hx => hlt x (List.mem_append_left _ hx))) (trodAll_cons_mk (Below.trod laidOut (by kernel_rfl) (of_decide_eq_true (by kernel_rfl)) ⟨f1, g1⟩ hb (fun x hx => hlt x (List.mem_append_right _ (List.mem_append_left _ hx)))) (trodAll_cons_mk (Below.trod laidOut (by kernel_rfl) (of_decide_eq_true (by kernel_rfl)) ⟨f2, g2⟩ hb (fun x hx => hlt x (List.mem_append_right _ (List.mem_append_right _ hx)))) (trodAll_mk0))), rfl, hb.frame _, fun h => by cases h⟩⟩

set_option maxRecDepth 100000 in
theorem lifted (os : Os) (started : os.Started) (H : Type) (enc : TypeId × Value → H) (F : Stop.Interp) :
    ReturnsInHanded {} Try.checked os 3 .any ((OpenSpec.ofChange Rows.namesPartedSpec).preRow enc Try.prog Try.f3 Rows.namesPartedRow.domain false Rows.namesPartedRow.laid) (((OpenSpec.ofChange Rows.namesPartedSpec).at F).post enc Try.prog Try.f3 false true false false) := by
  refine returnsInHanded_of_row (C := Try.checked) (s := OpenSpec.ofChange Rows.namesPartedSpec) own started (by kernel_rfl) Try.func3
    (witness_row_atRef (enc := enc) (C := Try.checked) false (World.laidAll Try.prog os Rows.namesPartedRow.laid)
      #[.agg #[.int .i64 0, .string ⟨#[]⟩, .slice none 0 0, .slice none 0 0, .string ⟨#[]⟩, .slice none 0 0], .slice none 0 0, .slice none 0 0] (World.laidAll_os _ _ _) (by kernel_rfl) (by kernel_rfl) (by kernel_rfl)
      (OpenSpec.preRow_of_cond 8 (x := ([.agg [.lit (.int .i64 0), .lit (.string []), .nil, .nil, .lit (.string []), .nil], .nil, .nil], [], [])) (by kernel_rfl) (by kernel_rfl) (fun k hk => by cases hk) (by kernel_rfl) (laidMet_laidAll _ (by kernel_rfl) (by kernel_rfl)))) ?_
  intro W base args ds gs before hval hW _ _ hz hL _ _
  exact contract H enc W base args ds gs before hval hW

/-- THE LAW NamesParted. -/
theorem namesParted_holds : Rows.NamesPartedSaid :=
  OpenClaim.holds_of_cond 3 Try.f3 rfl rfl rfl rfl rfl rfl rfl ⟨rfl, rfl, rfl, rfl, rfl⟩ rfl rfl rfl rfl rfl (by kernel_rfl) Try.func3 (by kernel_rfl)
    (of_decide_eq_true (by kernel_rfl)) (by unfold Func.isWrapper; first | (rw [if_pos (by decide +kernel)]; kernel_rfl) | (rw [if_neg (by decide +kernel)]; exact ⟨rfl, rfl⟩))
    (fun os started H enc _ F => by rw [OpenClaim.pre_eq_preRow]; exact lifted os started H enc F)
#print axioms namesParted_holds
end Go.Proofs.Ytgpcbehohkhoaab
