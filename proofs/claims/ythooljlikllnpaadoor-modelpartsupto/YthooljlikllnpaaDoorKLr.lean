/- Proved: the law ModelParts (parts run as one that has all their bodies, as far as that is not too many) returns true for all parts that can be read and are of bulk at most 1048576, and all steps, and leaves the parts as they were; its condition: the library's tables read as the program's text lays them. -/
import Derived.Test.YthooljlikllnpaaDoorCards
import Derived.Test.YthooljlikllnpaaDoorTie
import Derived.Test.YthooljlikllnpaaDoorK49
import Derived.Test.YthooljlikllnpaaDoorK51
namespace Go.Proofs.YthooljlikllnpaaDoor
set_option linter.unusedVariables false
set_option linter.unusedSimpArgs false
open Go.ChangeShapes Go.WideShapes Go.ChangeAt Go.RowKit

theorem bulk_pos {H : Type} (d : DataW H) : 1 ≤ Rows.uptoBulk d := by
  cases d with
  | lit l => cases l <;> simp [Rows.uptoBulk]
  | nil => simp [Rows.uptoBulk]
  | ptr d => simp [Rows.uptoBulk]
  | slice elems spare => simp [Rows.uptoBulk]
  | agg parts => simp [Rows.uptoBulk]
  | iface t d => simp [Rows.uptoBulk]
  | map entries => simp [Rows.uptoBulk]
  | held h => simp [Rows.uptoBulk]
theorem bulk_len {H : Type} : ∀ (l : List (DataW H)), l.length ≤ Rows.uptoBulkAll l
  | [] => by simp [Rows.uptoBulkAll]
  | x :: r => by
    have := bulk_len r
    have := bulk_pos x
    simp only [Rows.uptoBulkAll, List.length_cons]
    omega
theorem row_bulk37 {H : Type} {enc : TypeId × Value → H} {w : World} {sp : Nat → Bool} {held : Bool} {fuel m rc : Nat} {ra : Option Addr} {x : DataW H × List MemPlace}
    (e1 : DataW.trod enc Tryd.prog w 0 sp held fuel 37 [.slice ra m rc] = some x) : m ≤ Rows.uptoBulk x.1 := by
  rcases DataW.trod_slice Tryd.underlying37 e1 with ⟨hv, _⟩ | ⟨a, len, cap, elems, rest, n, hn, hv, hy, _, hlc, hcm, hel, hall, _, _⟩
  · simp at hv
    rw [hv.2.1]
    exact Nat.zero_le _
  · simp at hv
    rw [hy, hv.2.1, ← hel]
    have := bulk_len (elems.map (·.1))
    rw [List.length_map] at this
    simp only [Rows.uptoBulk]
    omega
theorem bulk_mem {H : Type} : ∀ (l : List (DataW H)) (i : Nat) (d : DataW H), l[i]? = some d → Rows.uptoBulk d ≤ Rows.uptoBulkAll l
  | [], i, d, h => by simp at h
  | x :: r, 0, d, h => by
    simp at h
    subst h
    simp only [Rows.uptoBulkAll]
    omega
  | x :: r, i + 1, d, h => by
    have := bulk_mem r i d (by simpa using h)
    simp only [Rows.uptoBulkAll]
    omega
theorem part_bulk {H : Type} {enc : TypeId × Value → H} {w : World} {sp : Nat → Bool} {held : Bool} {fuel m cap : Nat} {c0 : Value} {a : Option Addr} {x : DataW H × List MemPlace}
    (ht : DataW.trod enc Tryd.prog w 0 sp held fuel 39 [c0, .slice a m cap] = some x) : m ≤ Rows.uptoBulk x.1 := by
  obtain ⟨xs, k, hm, rfl, _, hxl, hf⟩ := DataW.trod_struct Tryd.underlying39 ht
  have e1 : DataW.trod enc Tryd.prog w 0 sp held k 37 (([c0, .slice a m cap].drop 1).take (Tryd.prog.cellsOf 37)) = xs[1]? := hf 1 _ rfl
  have hx2 : xs.length = 2 := hxl
  rw [List.getElem?_eq_getElem (by omega), cells1_37] at e1
  simp only [List.take_succ_cons, List.take_zero, List.drop_succ_cons, List.drop_zero] at e1
  have h1 := row_bulk37 e1
  have h2 := bulk_mem (xs.map (·.1)) 1 (xs[1]).1 (by rw [List.getElem?_map, List.getElem?_eq_getElem (by omega)]; rfl)
  simp only [Rows.uptoBulk]
  omega
theorem sum_bulk {H : Type} : ∀ (ps : List (ByteArray × List Cor)) (l : List (DataW H)), ps.length = l.length → (∀ (i : Nat) (p : ByteArray × List Cor) (d : DataW H), ps[i]? = some p → l[i]? = some d → p.2.length ≤ Rows.uptoBulk d) → (bodies ps).length ≤ Rows.uptoBulkAll l
  | [], l, _, _ => Nat.zero_le _
  | p :: r, [], h, _ => by simp at h
  | p :: r, x :: l, h, hp => by
    have h1 := sum_bulk r l (by simpa using h) (fun i q d h1 h2 => hp (i + 1) q d h1 h2)
    have h2 := hp 0 p x rfl rfl
    show (p.2 ++ bodies r).length ≤ _
    rw [List.length_append]
    simp only [Rows.uptoBulkAll]
    omega
/-- PARTS AMONG THE ARGUMENTS. -/
theorem parts_of_trodB {H : Type} {enc : TypeId × Value → H} {w : World} {sp : Nat → Bool} {held : Bool} {fuel : Nat} {v : Value} {x : DataW H × List MemPlace} (h : DataW.trod enc Tryd.prog w 0 sp held fuel 22 [v] = some x) (hx : Lt 22 x.1) :
    ∃ (a : Option Addr) (cap : Nat) (ps : List (ByteArray × List Cor)), v = .slice a ps.length cap ∧ ps.length ≤ cap ∧ PsV w.heap.size w a ps ∧ (bodies ps).length ≤ Rows.uptoBulk x.1 ∧ ps.length ≤ Rows.uptoBulk x.1 := by
  rcases DataW.trod_slice Tryd.underlying22 h with ⟨hv, _⟩ | ⟨a, len, cap, elems, rest, n, hn, hv, rfl, _, hlc, hcm, hel, hall, _, _⟩
  · simp at hv
    exact ⟨none, 0, [], hv, Nat.le_refl _, ⟨by simp, Or.inl rfl⟩, Nat.zero_le _, Nat.zero_le _⟩
  · simp at hv
    have key : ∀ i, i < len → ∃ p : ByteArray × List Cor, (i = 0 → a.spot = none) ∧ a.block < w.heap.size ∧ w.cell? ⟨a.block, a.off + i * 2, none⟩ = some (.string p.1) ∧ ∃ a' cap' g, w.cell? ⟨a.block, a.off + i * 2 + 1, none⟩ = some (.slice a' p.2.length cap') ∧ Cc w.heap.size w g a' p.2 ∧ p.2.length ≤ cap' ∧ ∀ d, (elems.map (·.1))[i]? = some d → p.2.length ≤ Rows.uptoBulk d := by
      intro i hi
      have h1 := hall i hi
      rw [cells39', List.getElem?_eq_getElem (by omega)] at h1
      obtain ⟨cs, hcs, ht⟩ := Option.bind_eq_some_iff.1 h1
      obtain ⟨c0, c1, rfl, hs, hb, g0, g1⟩ := two_cellsP hcs
      have hxi : Lt 39 (elems[i]'(by omega)).1 := hx.elem39 (i := i) (by rw [List.getElem?_map, List.getElem?_eq_getElem (by omega)]; rfl)
      obtain ⟨nm, l, a', cap', F, rfl, rfl, hcap, hcc, _, _⟩ := part_of_trod ht hxi
      have hpb := part_bulk ht
      have hadd : (a.add (i * 2)).block = a.block ∧ (a.add (i * 2)).off = a.off + i * 2 := by
        unfold Addr.add
        split
        · rename_i h; rw [h]; exact ⟨rfl, rfl⟩
        · exact ⟨rfl, rfl⟩
      rw [hadd.1, hadd.2] at g0 g1
      rw [hadd.1] at hb
      refine ⟨(nm, l), ?_, hb, g0, a', cap', F, g1, hcc, hcap, fun d hd => by
        rw [List.getElem?_map, List.getElem?_eq_getElem (by omega)] at hd
        simp at hd
        subst hd
        exact hpb⟩
      intro h0
      subst h0
      simpa [Addr.add] using hs
    obtain ⟨ps, hpl, hp⟩ := pick_list _ len key
    have hsum : (bodies ps).length ≤ Rows.uptoBulkAll (elems.map (·.1)) := sum_bulk ps (elems.map (·.1)) (by rw [hpl, List.length_map, hel]) (fun i p d h1 h2 => by
      obtain ⟨_, _, _, _, _, _, _, _, _, h⟩ := hp i p h1
      exact h d h2)
    have hln := bulk_len (elems.map (·.1))
    rw [List.length_map, hel] at hln
    refine ⟨some a, cap, ps, by rw [hv, hpl], by omega, ⟨by unfold maxLen at hcm; omega, ?_⟩, by simp only [Rows.uptoBulk]; omega, by simp only [Rows.uptoBulk]; omega⟩
    by_cases h0 : ps = []
    · exact Or.inl h0
    · have hpos : 0 < ps.length := List.length_pos_iff.2 h0
      obtain ⟨hsp, hbl, _⟩ := hp 0 ps[0] (List.getElem?_eq_getElem hpos)
      have hsp' := hsp rfl
      obtain ⟨b, o, spt⟩ := a
      simp only at hsp' hbl
      subst hsp'
      refine Or.inr ⟨b, o, rfl, hbl, ?_⟩
      intro j nm bd hj
      obtain ⟨_, _, r0, a', cap', g, r1, r2, r3, _⟩ := hp j (nm, bd) hj
      exact ⟨r0, a', cap', g, r1, r2, r3⟩
set_option maxRecDepth 100000 in
/-- WHAT THE WALK GIVES, for every argument and every world that holds the tables. -/
theorem contract (H : Type) (enc : TypeId × Value → H) (W : World) (base : Nat) (args : Array Value) (ds gs : List (DataW H)) (before : List MemPlace)
    (hval : ∀ (j : Nat) t v, Tryd.f5.params[j]? = some t → args[j]? = some v → Value.okWide Tryd.prog W .any base t v)
    (hW : DataW.Whole enc Tryd.prog Tryd.f5.params.toList Rows.modelPartsSpec.vars false W args.toList ds gs before)
    (hz : (DataW.weightsEach Tryd.prog (Tryd.f5.params.toList ++ (Rows.OpenSpec.upto Rows.modelPartsSpec).bare.plain.varTypes Tryd.prog) (ds ++ gs)).all (· ≤ reachBytes) = true) (hk : Rows.uptoSmall H (ds ++ gs) = true)
    (hL : laidMetH Tryd.prog Rows.modelPartsUptoRow.laid W) :
    Calls Tryd.prog 5 args W fun e W' => ∃ v, e = .returned v ∧ Rows.modelPartsSpec.post enc Tryd.prog Tryd.f5 false true false false W args v W' := by
  have hW' := hW
  obtain ⟨p, q, hA0, hV, rfl, hfz, hnd⟩ := hW
  have hA : DataW.TrodAll enc Tryd.prog W 0 (fun _ => true) true Tryd.f5.params.toList args.toList ds p := hA0
  rw [Tryd.params5] at hA hval hz
  obtain ⟨v0, vs0, d0, ds0, p0, q0, hargs, rfl, rfl, h0, r0⟩ := trodAll_cons hA
  obtain ⟨v1, vs1, d1, ds1, p1, q1, hargs1, rfl, rfl, h1, r1⟩ := trodAll_cons r0
  obtain ⟨rfl, rfl, rfl⟩ := trodAll_nil r1
  subst hargs1
  obtain rfl : args = #[v0, v1] := by cases args; simp_all
  obtain ⟨rfl, rfl⟩ := trodVars_none hV
  clear hA0
  simp only [List.append_nil] at hW' hk
  have hlt : ∀ x ∈ p0 ++ p1, x.block < W.heap.size := fun x hx => hW'.lt x hx
  obtain ⟨steps, rfl⟩ := okWide_int Tryd.underlying3 (hval 1 3 v1 rfl rfl)
  obtain ⟨f0, g0⟩ := h0
  obtain ⟨f1, g1⟩ := h1
  have lt0 : Lt 22 d0 := fun n hn => of_decide_eq_true (List.all_eq_true.1 hz n (DataW.weights_mem_each (j := 0) (t := 22) (d := d0) rfl rfl n hn))
  obtain ⟨ao, ln, cp, rfl⟩ := okWide_slice Tryd.underlying22 (hval 0 22 v0 rfl rfl)
  obtain ⟨a, cap, ps, hv, hlc, hps, hbk, hpl⟩ := parts_of_trodB (v := .slice ao ln cp) (by simpa [Value.cells] using g0) lt0
  cases hv
  have hsm : Rows.uptoBulk d0 ≤ 1048576 := by
    have h := of_decide_eq_true hk
    simp only [List.cons_append, List.nil_append, Rows.uptoBulkAll] at h
    omega
  simp only at hbk hpl
  have hT : Tab W.heap.size W := table_of (show laidMet Tryd.prog _ W from hL)
  refine (Parts_walk W.heap.size ps ao cp steps W hps hT (Nat.le_refl _) (by omega) (by omega)).mono fun e W' ⟨he, hb⟩ => ?_
  subst he
  exact ⟨_, rfl, ⟨_, _, _, [], p0 ++ (p1 ++ []), [], hW', trodAll_cons_mk (shut_bool Tryd.underlying4 _) trodAll_mk0,
    trodAll_cons_mk (Below.trod laidOut (by kernel_rfl) (of_decide_eq_true (by kernel_rfl)) ⟨f0, g0⟩ hb (fun x hx => hlt x (List.mem_append_left _ hx)))
      (trodAll_cons_mk (Below.trod laidOut (by kernel_rfl) (of_decide_eq_true (by kernel_rfl)) ⟨f1, g1⟩ hb (fun x hx => hlt x (List.mem_append_right _ hx))) trodAll_mk0), rfl, hb.frame _, fun h => by cases h⟩⟩

set_option maxRecDepth 100000 in
theorem lifted (os : Os) (started : os.Started) (H : Type) (enc : TypeId × Value → H) (F : Stop.Interp) :
    ReturnsInHanded {} Tryd.checked os 5 .any ((Rows.OpenSpec.upto Rows.modelPartsSpec).preRow enc Tryd.prog Tryd.f5 Rows.modelPartsUptoRow.domain false Rows.modelPartsUptoRow.laid) (((Rows.OpenSpec.upto Rows.modelPartsSpec).at F).post enc Tryd.prog Tryd.f5 false true false false) := by
  refine returnsInHanded_of_row (C := Tryd.checked) (s := Rows.OpenSpec.upto Rows.modelPartsSpec) own started (by kernel_rfl) Tryd.func5
    (witness_row_atRef (enc := enc) (C := Tryd.checked) false (World.laidAll Tryd.prog os Rows.modelPartsUptoRow.laid)
      #[.slice none 0 0, .int .i64 0] (World.laidAll_os _ _ _) (by kernel_rfl) (by kernel_rfl) (by kernel_rfl)
      (OpenSpec.preRow_of_cond 8 (x := ([.nil, .lit (.int .i64 0)], [], [])) (by kernel_rfl) (by kernel_rfl) (fun k hk => by cases hk; kernel_rfl) (by kernel_rfl) (laidMet_laidAll _ (by kernel_rfl) (by kernel_rfl)))) ?_
  intro W base args ds gs before hval hW _ hcond hz hL _ _
  exact contract H enc W base args ds gs before hval hW hz (hcond _ rfl) hL

theorem said : Rows.ModelPartsUptoSaid :=
  OpenClaim.holds_of_cond 5 Tryd.f5 rfl rfl rfl rfl rfl rfl rfl ⟨rfl, rfl, rfl, rfl, rfl⟩ rfl rfl rfl rfl rfl (by kernel_rfl) Tryd.func5 (by kernel_rfl)
    (of_decide_eq_true (by kernel_rfl)) (by unfold Func.isWrapper; first | (rw [if_pos (by decide +kernel)]; kernel_rfl) | (rw [if_neg (by decide +kernel)]; exact ⟨rfl, rfl⟩))
    (fun os started H enc _ F => by rw [OpenClaim.pre_eq_preRow]; exact lifted os started H enc F)

/-- No parameter wants a stand-in. -/
theorem plain (f : FuncId) (fn : Func) (hf : Tryd.pinned.checked.prog.funcNamed Tryd.f5.name = some f) (hfn : Tryd.pinned.checked.prog.funcs[f]? = some fn) :
    true = Tryd.pinned.checked.prog.looks [] ∧ ∀ (j : Nat) t, fn.params[j]? = some t → Tryd.pinned.checked.prog.wantsStandIn t = false := by
  obtain rfl : f = 5 := Option.some.inj ((show Tryd.prog.funcNamed Tryd.f5.name = some 5 by kernel_rfl).symm.trans hf) |>.symm
  obtain rfl : fn = Tryd.f5 := (Option.some.inj (Tryd.func5.symm.trans hfn)).symm
  refine ⟨by kernel_rfl, fun j t ht => ?_⟩
  rw [Tryd.params5] at ht
  have hm : t = 22 ∨ t = 3 := by
    have := Array.mem_of_getElem? ht
    simp at this
    omega
  rcases hm with rfl | rfl
  · exact (show Tryd.prog.wantsStandIn 22 = false by kernel_rfl)
  · exact (show Tryd.prog.wantsStandIn 3 = false by kernel_rfl)

/-- THE LAW ModelParts, TIED TO THE PROGRAM's TEXT. -/
theorem modelPartsUpto_holds : Rows.ModelPartsUptoCardSaid :=
  Claim7.holds_tied_plain_at .later [] _ _ _ _ said (fun _ h => by cases h) (by kernel_rfl) (fun _ h => by cases h) modelPartsUpto_row_tie rfl ⟨rfl, rfl⟩ (by kernel_rfl) rfl plain (by kernel_rfl)
#print axioms modelPartsUpto_holds
end Go.Proofs.YthooljlikllnpaaDoor
