/- The maker: sequence. -/
import Derived.Test.YtbbmdhkbndgdkaaCu
namespace Go.Proofs.Ytbbmdhkbndgdkaa
set_option linter.unusedVariables false
set_option linter.unusedSimpArgs false
open Go.RowKit

theorem genL_snoc (c : Cor) : ∀ (l : List Cor) (at0 pr : Nat), genL (l ++ [c]) at0 pr = ((genL l at0 pr).1 ++ (genC c (at0 + (genL l at0 pr).1.length) (pr + (genL l at0 pr).2.length)).1, (genL l at0 pr).2 ++ (genC c (at0 + (genL l at0 pr).1.length) (pr + (genL l at0 pr).2.length)).2)
  | [], at0, pr => by simp [genL]
  | x :: r, at0, pr => by
    rw [List.cons_append, genL, genL, genL_snoc c r]
    simp only [List.append_assoc, List.length_append, Nat.add_assoc]
theorem genS_snoc (c : Cor) : ∀ (l : List Cor) (at0 pr : Nat), genS (l ++ [c]) false at0 pr = ((genS l false at0 pr).1 ++ insO 14 :: (genC c (at0 + (genS l false at0 pr).1.length + 1) (pr + (genS l false at0 pr).2.length)).1, (genS l false at0 pr).2 ++ (genC c (at0 + (genS l false at0 pr).1.length + 1) (pr + (genS l false at0 pr).2.length)).2)
  | [], at0, pr => by simp [genS]
  | x :: r, at0, pr => by
    rw [List.cons_append, genS, genS, genS_snoc c r]
    simp only [List.append_assoc, List.length_append, Nat.add_assoc, Bool.false_eq_true, if_false, List.length_cons, List.length_nil, Nat.zero_add]
theorem genS_snoc1 (c x : Cor) (r : List Cor) (at0 pr : Nat) : genS ((x :: r) ++ [c]) true at0 pr = ((genS (x :: r) true at0 pr).1 ++ insO 14 :: (genC c (at0 + (genS (x :: r) true at0 pr).1.length + 1) (pr + (genS (x :: r) true at0 pr).2.length)).1, (genS (x :: r) true at0 pr).2 ++ (genC c (at0 + (genS (x :: r) true at0 pr).1.length + 1) (pr + (genS (x :: r) true at0 pr).2.length)).2) := by
  rw [List.cons_append, genS, genS, genS_snoc c r]
  simp only [List.append_assoc, List.length_append, Nat.add_assoc, if_true, List.length_cons, List.length_nil, Nat.zero_add, List.nil_append]
theorem genS_one (c : Cor) (at0 pr : Nat) : genS [c] true at0 pr = genC c at0 pr := by
  simp [genS]
/-- One more kid of a sequence. -/
theorem genS_more {l : List Cor} {j : Nat} {c : Cor} (h : l[j]? = some c) (hj : 0 < j) (at0 pr : Nat) : genS (l.take (j + 1)) true at0 pr = ((genS (l.take j) true at0 pr).1 ++ insO 14 :: (genC c (at0 + (genS (l.take j) true at0 pr).1.length + 1) (pr + (genS (l.take j) true at0 pr).2.length)).1, (genS (l.take j) true at0 pr).2 ++ (genC c (at0 + (genS (l.take j) true at0 pr).1.length + 1) (pr + (genS (l.take j) true at0 pr).2.length)).2) := by
  rw [take_more h]
  have hl := (List.getElem?_eq_some_iff.1 h).1
  match hq : l.take j with
  | [] =>
    have := congrArg List.length hq
    rw [List.length_take, List.length_nil] at this
    omega
  | x :: r => exact genS_snoc1 c x r at0 pr
theorem genS_first {l : List Cor} {c : Cor} (h : l[0]? = some c) (at0 pr : Nat) : genS (l.take 1) true at0 pr = genC c at0 pr := by
  rw [take_more h]
  exact genS_one c at0 pr
theorem genL_more {l : List Cor} {j : Nat} {c : Cor} (h : l[j]? = some c) (at0 pr : Nat) : genL (l.take (j + 1)) at0 pr = ((genL (l.take j) at0 pr).1 ++ (genC c (at0 + (genL (l.take j) at0 pr).1.length) (pr + (genL (l.take j) at0 pr).2.length)).1, (genL (l.take j) at0 pr).2 ++ (genC c (at0 + (genL (l.take j) at0 pr).1.length) (pr + (genL (l.take j) at0 pr).2.length)).2) := by
  rw [take_more h]
  exact genL_snoc c _ at0 pr
theorem lonL_mem {l : List Cor} {j : Nat} {c : Cor} (h : l[j]? = some c) : lonC c ≤ lonL l := by
  have h1 := lonL_more h
  have h2 := lonL_append (l.take (j + 1)) (l.drop (j + 1))
  rw [List.take_append_drop] at h2
  omega
/-- Where the maker is, some way on. -/
structure Way (B : Nat) (X : Nat → Prop) (T M : Nat) (tv pv : Value) (is : List IE) (ps : List PE) (g : List In × List Pro) (w w' : World) (tv' pv' : Value) (is' : List IE) (ps' : List PE) : Prop where
  hi : is'.map IE.i = g.1
  hp : ps'.map PE.pro = g.2
  mm : MK B X T M tv' pv' (is ++ is') (ps ++ ps') w'
  fr : FR B T M tv pv tv' pv' w w'
theorem Way.li {B : Nat} {X : Nat → Prop} {T M : Nat} {tv pv : Value} {is : List IE} {ps : List PE} {g : List In × List Pro} {w w' : World} {tv' pv' : Value} {is' : List IE} {ps' : List PE} (h : Way B X T M tv pv is ps g w w' tv' pv' is' ps') : (is ++ is').length = is.length + g.1.length := by
  rw [List.length_append, ← h.hi, List.length_map]
theorem Way.lp {B : Nat} {X : Nat → Prop} {T M : Nat} {tv pv : Value} {is : List IE} {ps : List PE} {g : List In × List Pro} {w w' : World} {tv' pv' : Value} {is' : List IE} {ps' : List PE} (h : Way B X T M tv pv is ps g w w' tv' pv' is' ps') : (ps ++ ps').length = ps.length + g.2.length := by
  rw [List.length_append, ← h.hp, List.length_map]

set_option maxRecDepth 100000 in
set_option maxHeartbeats 1600000 in
theorem sequence_any (B0 B f : Nat) (hB : B0 ≤ B) (hC : CoreW B0 B f) (X : Nat → Prop) (T M : Nat) (tv pv : Value) (is : List IE) (ps : List PE) (l : List Cor) (a : Option Addr) (cap : Nat) (w : World)
    (hc : Cc B0 w (f + 1) a l) (hcap : l.length ≤ cap) (hok : okL l) (hsm : smCL l) (hs : is.length + sizL l + l.length ≤ 100000001) (hp : ps.length + lamL l ≤ 100000000) (hl : lonL l ≤ 100000000) (h : MK B X T M tv pv is ps w) :
    Calls Try.prog 39 #[.pointer (some ⟨M, 0, none⟩), .pointer (some ⟨T, 0, none⟩), .slice a l.length cap] w (ToldM B X T M tv pv is ps (genS l true is.length ps.length) w) := by
  have hlen := hc.len
  have HL := hidd hc
  have HC := hidd hC
  have HO : Hid (okL l ∧ smCL l ∧ (∀ c ∈ l, Len c) ∧ lonL l ≤ 100000000) := ⟨hok, hsm, each_len l hok, hl⟩
  have W0 : Hid (Way B X T M tv pv is ps (genS (l.take 0) true is.length ps.length) w w tv pv [] []) := ⟨by simp [genS], by simp [genS], by simpa using h, FR.refl _ _ _ _ _ _⟩
  clear hc hC hok hsm h hl
  obtain ⟨G, hG⟩ : ∃ G, G = genS l true is.length ps.length := ⟨_, rfl⟩
  rw [← hG]
  have HG := hidd hG
  clear hG
  go_enter Try.func39, Try.ntmps39
  go_wp2_with fail
  go_loopw [9] (fun ix wr => ∃ (j : Nat) (tv' pv' : Value) (is' : List IE) (ps' : List PE), j ≤ l.length ∧ ix = .int .i64 j ∧ Hid (Way B X T M tv pv is ps (genS (l.take j) true is.length ps.length) w wr tv' pv' is' ps')) (fun ix _ => l.length - (intOf ix).toNat)
  case atStart => exact ⟨0, tv, pv, [], [], Nat.zero_le _, rfl, W0.out⟩
  case round =>
    clear W0
    obtain ⟨j, tv1, pv1, is1, ps1, hj, rfl, HW⟩ := hrel
    by_cases hlt : j < l.length
    · obtain ⟨c, hc⟩ : ∃ c, l[j]? = some c := ⟨l[j], List.getElem?_eq_getElem hlt⟩
      have hne : l ≠ [] := by intro e; rw [e] at hlt; simp at hlt
      obtain ⟨g', b, o, hg, ha, hall⟩ := HL.out.at hne
      obtain rfl : f = g' := by omega
      subst ha
      have CN := hidd (hall j c hc)
      have b1 := sizL_more hc
      have b2 := lamL_more hc
      have t1 := sizL_take l (j + 1)
      have t2 := lamL_take l (j + 1)
      have t3 := lonL_mem hc
      have hoc := okL_at l j c HO.out.1 hc
      have hsc := smCL_at l j c HO.out.2.1 hc
      have hl9 := HO.out.2.2.2
      have li := HW.out.li
      have lp := HW.out.lp
      have HC2 : Hid (okC c ∧ smC c ∧ lonC c ≤ 100000000 ∧ Len c) := ⟨hoc, hsc, by omega, HO.out.2.2.1 c (List.mem_of_getElem? hc)⟩
      have hmem : ∀ x ∈ l.take j, Len x := fun x hx => HO.out.2.2.1 x (List.mem_of_mem_take hx)
      by_cases h0 : j = 0
      · subst h0
        have hg1 : Hid (genS (l.take (0 + 1)) true is.length ps.length = genC c is.length ps.length) := genS_first hc is.length ps.length
        have e1 : is1 = [] := by have := HW.out.hi; simpa [genS] using this
        have e2 : ps1 = [] := by have := HW.out.hp; simpa [genS] using this
        subst e1 e2
        have mk := HW.out.mm
        rw [List.append_nil, List.append_nil] at mk
        have CALL := hidd (HC.out X T M tv1 pv1 is ps b (o + 0 * 12) c wr (CN.out.below (HW.out.fr.low.mono hB)) HC2.out.1 HC2.out.2.1 (by have : sizL (l.take 0) = 0 := (by simp [sizL]); omega) (by have : lamL (l.take 0) = 0 := (by simp [lamL]); omega) HC2.out.2.2.1 mk)
        clear mk b1 b2 t1 t2 t3 hoc hsc hl9 li lp hall hne hmem hc
        go_wp2_with fail
        refine CALL.out.mono ?_
        rintro e w2 ⟨rfl, tv2, pv2, is2, ps2, hi2, hp2, mk2, fr2⟩
        have HW2 : Hid (Way B X T M tv pv is ps (genS (l.take (0 + 1)) true is.length ps.length) w w2 tv2 pv2 is2 ps2) := by
          show Way _ _ _ _ _ _ _ _ _ _ _ _ _ _ _
          rw [hg1.out]
          exact ⟨hi2, hp2, mk2, HW.out.fr.trans fr2⟩
        clear hi2 hp2 mk2 fr2 CALL HW
        go_wp2_with fail
        go_roundw
        case rel => exact ⟨0 + 1, _, _, _, _, by omega, by go_num, HW2.out⟩
        case measure => simp [intOf]; omega
      · have hj0 : 0 < j := by omega
        have hg1 := hidd (genS_more hc hj0 is.length ps.length)
        have hsl : (genS (l.take j) true is.length ps.length).1.length = sizL (l.take j) + j - 1 ∧ (genS (l.take j) true is.length ps.length).2.length = lamL (l.take j) := by
          match hq : l.take j, hmem with
          | [], _ =>
            have := congrArg List.length hq
            rw [List.length_take, List.length_nil] at this
            omega
          | x :: r, hmem =>
            have h5 := genS_len1 x r hmem is.length ps.length
            have h6 := congrArg List.length hq
            rw [List.length_take] at h6
            rw [show (x :: r).length = j by omega] at h5
            exact h5
        obtain ⟨L1, hL1⟩ : ∃ L, L = is ++ is1 := ⟨_, rfl⟩
        obtain ⟨P1, hP1⟩ : ∃ P, P = ps ++ ps1 := ⟨_, rfl⟩
        have mk1 := HW.out.mm
        rw [← hL1] at mk1 li
        rw [← hP1] at mk1 lp
        have PU := hidd (put_plain 14 B X T M tv1 pv1 L1 P1 wr mk1 (by omega))
        have BD : Hid ((L1 ++ [IE.mk (insO 14) none 0]).length + sizC c ≤ 100000000 ∧ P1.length + lamC c ≤ 100000000 ∧ L1 = is ++ is1 ∧ P1 = ps ++ ps1 ∧ L1.length = is.length + (genS (l.take j) true is.length ps.length).1.length ∧ P1.length = ps.length + (genS (l.take j) true is.length ps.length).2.length) := ⟨by rw [List.length_append, List.length_singleton]; omega, by omega, hL1, hP1, li, lp⟩
        have hj0' : (0 : Int) < (j : Int) := by omega
        clear mk1 b1 b2 t1 t2 t3 hoc hsc hl9 li lp hall hne hmem hc hsl hL1 hP1 h0
        go_wp2_with fail
        refine PU.out.mono ?_
        rintro e w2 ⟨rfl, tv2, mk2, fr2⟩
        have F2 := hidd (HW.out.fr.trans fr2)
        have CALL := hidd (HC.out X T M tv2 pv1 (L1 ++ [IE.mk (insO 14) none 0]) P1 b (o + j * 12) c w2 (CN.out.below (F2.out.low.mono hB)) HC2.out.1 HC2.out.2.1 BD.out.1 BD.out.2.1 HC2.out.2.2.1 mk2)
        clear PU fr2 mk2
        go_wp2_with fail
        refine CALL.out.mono ?_
        rintro e w3 ⟨rfl, tv3, pv3, is3, ps3, hi3, hp3, mk3, fr3⟩
        have HW2 : Hid (Way B X T M tv pv is ps (genS (l.take (j + 1)) true is.length ps.length) w w3 tv3 pv3 (is1 ++ IE.mk (insO 14) none 0 :: is3) (ps1 ++ ps3)) := by
          show Way _ _ _ _ _ _ _ _ _ _ _ _ _ _ _
          obtain ⟨_, _, d1, d2, d3, d4⟩ := BD.out
          rw [List.length_append, List.length_singleton, d3, d4] at hi3 hp3
          rw [d1, d2] at mk3
          rw [hg1.out]
          refine ⟨?_, ?_, by simpa using mk3, F2.out.trans fr3⟩
          · simp only [List.map_append, List.map_cons, HW.out.hi, hi3]
          · simp only [List.map_append, HW.out.hp, hp3]
        clear hi3 hp3 mk3 fr3 CALL HW F2 BD hg1
        go_wp2_with fail
        go_roundw
        case rel => exact ⟨j + 1, _, _, _, _, by omega, by go_num, HW2.out⟩
        case measure => simp [intOf]; omega
    · obtain rfl : j = l.length := by omega
      rw [List.take_length] at HW
      clear HL HC HO
      go_wp2_with fail
      go_end0
      rw [HG.out]
      exact ⟨rfl, _, _, _, _, HW.out.hi, HW.out.hp, HW.out.mm, HW.out.fr⟩
end Go.Proofs.Ytbbmdhkbndgdkaa
