/- The maker: choice. The maker: sequence. The maker: a closure that writes one kid's code. -/
import Derived.Test.YtfmanhkeclogfaaGreatDoorK08
import Derived.Test.YtfmanhkeclogfaaGreatDoorK18
namespace Go.Proofs.YtfmanhkeclogfaaGreatDoor
section
set_option linter.unusedVariables false
set_option linter.unusedSimpArgs false
open Go.RowKit

mutual
/-- No name is too long to be copied, nothing that is quoted. -/
def smC : Cor → Prop
  | ⟨k, i, n, lb, ow, q, ks⟩ => lb.size ≤ 281474976710656 ∧ ow.size ≤ 281474976710656 ∧ (k = 3 → smQ q) ∧ smCL ks
def smCL : List Cor → Prop
  | [] => True
  | c :: r => smC c ∧ smCL r
end
theorem smCL_at : ∀ (l : List Cor) (j : Nat) (c : Cor), smCL l → l[j]? = some c → smC c
  | x :: r, 0, c, h, hj => by
    rw [smCL] at h
    simp at hj
    subst hj
    exact h.1
  | x :: r, j + 1, c, h, hj => by
    rw [smCL] at h
    exact smCL_at r j c h.2 (by simpa using hj)
/-- WHAT THE MAKER'S core PROMISES of expressions so deep. -/
def CoreW (B0 B f : Nat) : Prop :=
  ∀ (X : Nat → Prop) (T M : Nat) (tv pv : Value) (is : List IE) (ps : List PE) (b o : Nat) (c : Cor) (w : World), Cn B0 w f b o c → okC c → smC c → is.length + sizC c ≤ 100000000 → ps.length + lamC c ≤ 100000000 → lonC c ≤ 100000000 → MK B X T M tv pv is ps w →
    Calls Tryz.prog 72 #[.pointer (some ⟨M, 0, none⟩), .pointer (some ⟨T, 0, none⟩), .pointer (some ⟨b, o, none⟩)] w (ToldM B X T M tv pv is ps (genC c is.length ps.length) w)
/-- One instruction without anything. -/
theorem put_plain (op : Int) (B : Nat) (X : Nat → Prop) (T M : Nat) (tv pv : Value) (is : List IE) (ps : List PE) (w : World) (h : MK B X T M tv pv is ps w) (hlen : is.length ≤ 1000000000) :
    Calls Tryz.prog 73 #[.pointer (some ⟨T, 0, none⟩), .agg #[.int .i64 op, .int .i64 0, .int .i64 0, .string ⟨#[]⟩, .string ⟨#[]⟩, .int .i64 0, .int .i64 0, .string ⟨#[]⟩, .int .i64 0, .int .i64 0, .slice none 0 0]] w fun e w' => e = .returned (.int .i64 is.length) ∧ ∃ tv', MK B X T M tv' pv (is ++ [IE.mk (insO op) none 0]) ps w' ∧ FR B T M tv pv tv' pv w w' :=
  put_any B X T M tv pv is ps w (insO op) none 0 h ⟨Nat.zero_le _, Nat.zero_le _, Nat.zero_le _, Nat.le_refl _, 0, rfl⟩ hlen

set_option maxRecDepth 100000 in
set_option maxHeartbeats 1600000 in
theorem choice_any (B0 B f : Nat) (hB : B0 ≤ B) (hC : CoreW B0 B f) (X : Nat → Prop) (T M : Nat) (tv pv : Value) (is : List IE) (ps : List PE) (x y z : Cor) (a : Option Addr) (cap : Nat) (w : World)
    (hc : Cc B0 w (f + 1) a [x, y, z]) (hcap : 3 ≤ cap) (hok : okL [x, y, z]) (hsm : smCL [x, y, z]) (hs : is.length + sizL [x, y, z] + 2 ≤ 100000000) (hp : ps.length + lamL [x, y, z] ≤ 100000000) (hl : lonL [x, y, z] ≤ 100000000) (h : MK B X T M tv pv is ps w)
    (i n : Int) (lb ow : ByteArray) (q : Dat) :
    Calls Tryz.prog 102 #[.pointer (some ⟨M, 0, none⟩), .pointer (some ⟨T, 0, none⟩), .slice a 3 cap] w (ToldM B X T M tv pv is ps (genC ⟨7, i, n, lb, ow, q, [x, y, z]⟩ is.length ps.length) w) := by
  obtain ⟨g', b, o, hg, ha, hall⟩ := hc.at (by simp)
  obtain rfl : f = g' := by omega
  subst ha
  have c0 := hall 0 x rfl
  have c1 := hall 1 y rfl
  have c2 := hall 2 z rfl
  simp only [Nat.zero_mul, Nat.add_zero, Nat.one_mul, Nat.reduceMul] at c0 c1 c2
  have o0 := okL_at _ 0 x hok rfl
  have o1 := okL_at _ 1 y hok rfl
  have o2 := okL_at _ 2 z hok rfl
  have s0 := smCL_at _ 0 x hsm rfl
  have s1 := smCL_at _ 1 y hsm rfl
  have s2 := smCL_at _ 2 z hsm rfl
  simp only [sizL, lamL, lonL] at hs hp hl
  have ALL : Hid ((Cn B0 w f b o x ∧ Cn B0 w f b (o + 12) y ∧ Cn B0 w f b (o + 24) z) ∧ (okC x ∧ okC y ∧ okC z) ∧ (smC x ∧ smC y ∧ smC z)) := ⟨⟨c0, c1, c2⟩, ⟨o0, o1, o2⟩, ⟨s0, s1, s2⟩⟩
  have HC := hidd hC
  have H0 := hidd h
  clear c0 c1 c2 o0 o1 o2 s0 s1 s2 hall hc hok hsm hC h
  have CX := hidd (HC.out X T M tv pv is ps b o x w ALL.out.1.1 ALL.out.2.1.1 ALL.out.2.2.1 (by omega) (by omega) (by omega) H0.out)
  obtain ⟨gx, hgx⟩ : ∃ gx, genC x is.length ps.length = gx := ⟨_, rfl⟩
  have lx := genC_len x ALL.out.2.1.1 is.length ps.length
  rw [hgx] at CX lx
  have GX := hidd hgx
  clear hgx
  go_enter Tryz.func102, Tryz.ntmps102
  go_wp2_with fail
  refine CX.out.mono ?_
  rintro e w1 ⟨rfl, tv1, pv1, is1, ps1, hi1, hp1, mk1, fr1⟩
  have li1 : is1.length = gx.1.length := by rw [← hi1, List.length_map]
  have lp1 : ps1.length = gx.2.length := by rw [← hp1, List.length_map]
  obtain ⟨L1, hL1⟩ : ∃ L, L = is ++ is1 := ⟨_, rfl⟩
  obtain ⟨P1, hP1⟩ : ∃ P, P = ps ++ ps1 := ⟨_, rfl⟩
  rw [← hL1, ← hP1] at mk1
  have ll1 : L1.length = is.length + sizC x := by rw [hL1, List.length_append]; omega
  have lq1 : P1.length = ps.length + lamC x := by rw [hP1, List.length_append]; omega
  have E1 : Hid (is1.map IE.i = gx.1 ∧ ps1.map PE.pro = gx.2 ∧ L1 = is ++ is1 ∧ P1 = ps ++ ps1 ∧ L1.length = is.length + gx.1.length ∧ P1.length = ps.length + gx.2.length) := ⟨hi1, hp1, hL1, hP1, by omega, by omega⟩
  have M1 := hidd mk1
  have F1 := hidd fr1
  have PU := hidd (put_plain 10 B X T M tv1 pv1 L1 P1 w1 mk1 (by omega))
  have LL1 := hidd (⟨ll1, lq1⟩ : _ ∧ _)
  clear mk1 fr1 hi1 hp1 hL1 hP1 CX li1 lp1 ll1 lq1 lx
  go_wp2_with fail
  refine PU.out.mono ?_
  rintro e w2 ⟨rfl, tv2, mk2, fr2⟩
  have F2 := hidd (F1.out.trans fr2)
  obtain ⟨l1, l2⟩ := LL1.out
  have hle2 : Below B0 w w2 := F2.out.low.mono hB
  have CY := hidd (HC.out X T M tv2 pv1 (L1 ++ [IE.mk (insO 10) none 0]) P1 b (o + 12) y w2 (ALL.out.1.2.1.below hle2) ALL.out.2.1.2.1 ALL.out.2.2.2.1 (by rw [List.length_append, List.length_singleton]; omega) (by omega) (by omega) mk2)
  obtain ⟨gy, hgy⟩ : ∃ gy, genC y (L1 ++ [IE.mk (insO 10) none 0]).length P1.length = gy := ⟨_, rfl⟩
  have ly := genC_len y ALL.out.2.1.2.1 (L1 ++ [IE.mk (insO 10) none 0]).length P1.length
  rw [hgy] at CY ly
  have GY := hidd hgy
  have LY := hidd ly
  clear hgy ly fr2 mk2 PU F1 M1 l1 l2 hle2
  go_wp2_with fail
  refine CY.out.mono ?_
  rintro e w3 ⟨rfl, tv3, pv3, is3, ps3, hi3, hp3, mk3, fr3⟩
  obtain ⟨l1, l2⟩ := LL1.out
  have li3 : is3.length = sizC y := by rw [← LY.out.1, ← hi3, List.length_map]
  have lp3 : ps3.length = lamC y := by rw [← LY.out.2, ← hp3, List.length_map]
  obtain ⟨L3, hL3⟩ : ∃ L, L = L1 ++ [IE.mk (insO 10) none 0] ++ is3 := ⟨_, rfl⟩
  obtain ⟨P3, hP3⟩ : ∃ P, P = P1 ++ ps3 := ⟨_, rfl⟩
  rw [← hL3, ← hP3] at mk3
  have LL3 : Hid (L3.length = L1.length + 1 + sizC y ∧ P3.length = P1.length + lamC y) := ⟨by rw [hL3]; simp; omega, by rw [hP3, List.length_append]; omega⟩
  have E3 : Hid (is3.map IE.i = gy.1 ∧ ps3.map PE.pro = gy.2 ∧ L3 = L1 ++ [IE.mk (insO 10) none 0] ++ is3 ∧ P3 = P1 ++ ps3) := ⟨hi3, hp3, hL3, hP3⟩
  have F3 := hidd (F2.out.trans fr3)
  have PU := hidd (put_plain 9 B X T M tv3 pv3 L3 P3 w3 mk3 (by have := LL3.out; omega))
  clear mk3 fr3 hi3 hp3 hL3 hP3 CY li3 lp3 F2 l1 l2
  go_wp2_with fail
  refine PU.out.mono ?_
  rintro e w4 ⟨rfl, tv4, mk4, fr4⟩
  have F4 := hidd (F3.out.trans fr4)
  have LND := hidd (land_any B X T M tv4 pv3 (L3 ++ [IE.mk (insO 9) none 0]) P3 w4 mk4 L1.length (IE.mk (insO 10) none 0) (by rw [E3.out.2.2.1]; simp) (by have := LL3.out; have := LL1.out; simp; omega))
  obtain ⟨ta, tc, htv, _⟩ := mk4.tslice
  have n4 : w4.cell? ⟨T, 0, none⟩ = some tv4 := by simp [World.cell?, mk4.tb]
  rw [List.length_append, List.length_singleton] at htv
  subst htv
  clear PU F3 mk4 fr4
  go_wp2_with fail
  refine LND.out.mono ?_
  rintro e w5 ⟨rfl, mk5, fr5⟩
  have F5 := hidd (F4.out.trans fr5)
  have hset : ∀ v : Int, (L3 ++ [IE.mk (insO 9) none 0]).set L1.length ((IE.mk (insO 10) none 0).at v) = L1 ++ [(IE.mk (insO 10) none 0).at v] ++ is3 ++ [IE.mk (insO 9) none 0] := fun v => by
    rw [E3.out.2.2.1]
    simp
  rw [hset] at mk5
  obtain ⟨u5, hu5⟩ : ∃ u : Nat, u = (L3 ++ [IE.mk (insO 9) none 0]).length := ⟨_, rfl⟩
  rw [← hu5] at mk5
  have HU5 : Hid (u5 = L3.length + 1) := by show _ = _; rw [hu5]; simp
  obtain ⟨L5, hL5⟩ : ∃ L, L = L1 ++ [(IE.mk (insO 10) none 0).at (u5 : Int)] ++ is3 ++ [IE.mk (insO 9) none 0] := ⟨_, rfl⟩
  rw [← hL5] at mk5
  have LL5 : Hid (L5.length = L3.length + 1) := by show _ = _; rw [hL5, E3.out.2.2.1]; simp; omega
  have E5 := hidd hL5
  clear hu5
  have hle5 : Below B0 w w5 := F5.out.low.mono hB
  have b1 := LL1.out
  have b3 := LL3.out
  have b5 := LL5.out
  have CZ := hidd (HC.out X T M _ pv3 L5 P3 b (o + 24) z w5 (ALL.out.1.2.2.below hle5) ALL.out.2.1.2.2 ALL.out.2.2.2.2 (by omega) (by omega) (by omega) mk5)
  obtain ⟨gz, hgz⟩ : ∃ gz, genC z L5.length P3.length = gz := ⟨_, rfl⟩
  have lz := genC_len z ALL.out.2.1.2.2 L5.length P3.length
  rw [hgz] at CZ lz
  have GZ := hidd hgz
  have LZ := hidd lz
  clear hgz lz fr5 mk5 LND F4 n4 hset hL5 hle5 b1 b3 b5
  go_wp2_with fail
  refine CZ.out.mono ?_
  rintro e w6 ⟨rfl, tv6, pv6, is6, ps6, hi6, hp6, mk6, fr6⟩
  have F6 := hidd (F5.out.trans fr6)
  have li6 : is6.length = sizC z := by rw [← LZ.out.1, ← hi6, List.length_map]
  have h5e := E5.out
  have LND := hidd (land_any B X T M tv6 pv6 (L5 ++ is6) (P3 ++ ps6) w6 mk6 L3.length (IE.mk (insO 9) none 0) (by rw [h5e, E3.out.2.2.1]; simp) (by have := LL5.out; have := LL3.out; have := LL1.out; rw [List.length_append]; omega))
  obtain ⟨ta6, tc6, htv6, _⟩ := mk6.tslice
  have n6 : w6.cell? ⟨T, 0, none⟩ = some tv6 := by simp [World.cell?, mk6.tb]
  have E6 : Hid (is6.map IE.i = gz.1 ∧ ps6.map PE.pro = gz.2) := ⟨hi6, hp6⟩
  generalize (L5 ++ is6).length = n6l at htv6
  subst htv6
  clear mk6 fr6 CZ F5 hi6 hp6 h5e
  go_wp2_with fail
  refine LND.out.mono ?_
  rintro e w7 ⟨rfl, mk7, fr7⟩
  have F7 := hidd (F6.out.trans fr7)
  have M7 := hidd mk7
  clear LND n6 mk7 fr7 F6
  go_wp2_with fail
  go_end0
  obtain ⟨e1a, e1b, e1c, e1d, e1e, e1f⟩ := E1.out
  obtain ⟨e3a, e3b, e3c, e3d⟩ := E3.out
  have q1 := LL1.out
  have q3 := LL3.out
  have q5 := LL5.out
  have qu := HU5.out
  have qy := LY.out
  have qz := LZ.out
  have z1 : gx.1.length = sizC x := by omega
  have z2 : gx.2.length = lamC x := by omega
  have gy' : genC y (is.length + gx.1.length + 1) (ps.length + gx.2.length) = gy := by
    have := GY.out
    rwa [List.length_append, List.length_singleton, e1e, e1f] at this
  have gz' : genC z (is.length + gx.1.length + 1 + gy.1.length + 1) (ps.length + gx.2.length + gy.2.length) = gz := by
    have := GZ.out
    rwa [show L5.length = is.length + gx.1.length + 1 + gy.1.length + 1 by omega, show P3.length = ps.length + gx.2.length + gy.2.length by omega] at this
  have hgen : genC ⟨7, i, n, lb, ow, q, [x, y, z]⟩ is.length ps.length = (gx.1 ++ insA 10 ((is.length + gx.1.length + 1 + gy.1.length + 1 : Nat) : Int) :: gy.1 ++ insA 9 ((is.length + gx.1.length + 1 + gy.1.length + 1 + gz.1.length : Nat) : Int) :: gz.1, gx.2 ++ gy.2 ++ gz.2) := by
    rw [genC]
    simp only [Int.reduceEq, if_false, if_true]
    rw [GX.out, gy', gz']
  rw [hgen]
  have hm := M7.out
  have hset2 : ∀ v : Int, (L5 ++ is6).set L3.length ((IE.mk (insO 9) none 0).at v) = is ++ (is1 ++ (IE.mk (insO 10) none 0).at (u5 : Int) :: is3 ++ (IE.mk (insO 9) none 0).at v :: is6) := fun v => by
    rw [E5.out, e3c, e1c]
    simp
  have hP : P3 ++ ps6 = ps ++ (ps1 ++ (ps3 ++ ps6)) := by rw [e3d, e1d]; simp
  rw [hset2, hP] at hm
  refine ⟨rfl, _, _, _, ps1 ++ (ps3 ++ ps6), ?_, ?_, hm, F7.out⟩
  · simp only [List.map_append, List.map_cons, e1a, e3a, E6.out.1]
    have hl6 : (L5 ++ is6).length = is.length + gx.1.length + 1 + gy.1.length + 1 + gz.1.length := by rw [List.length_append]; omega
    rw [hl6, show u5 = is.length + gx.1.length + 1 + gy.1.length + 1 by omega]
    rfl
  · simp only [List.map_append, e1b, e3b, E6.out.2, List.append_assoc]
end
section
set_option linter.unusedVariables false
set_option linter.unusedSimpArgs false
open Go.RowKit

theorem genL_snoc (c : Cor) : ∀ (l : List Cor) (at0 pr : Nat), genL (l ++ [c]) at0 pr = ((genL l at0 pr).1 ++ (genC c (at0 + (genL l at0 pr).1.length) (pr + (genL l at0 pr).2.length)).1, (genL l at0 pr).2 ++ (genC c (at0 + (genL l at0 pr).1.length) (pr + (genL l at0 pr).2.length)).2)
  | [], at0, pr => by simp [genL]
  | x :: r, at0, pr => by
    rw [List.cons_append, genL, genL, genL_snoc c r]
    simp only [List.append_assoc, List.length_append, Nat.add_assoc]
theorem genS_snoc (c : Cor) : ∀ (l : List Cor) (at0 pr : Nat), genS (l ++ [c]) false at0 pr = ((genS l false at0 pr).1 ++ insO 14 :: (genC c (at0 + (genS l false at0 pr).1.length + 1) (pr + (genS l false at0 pr).2.length)).1, (genS l false at0 pr).2 ++ (genC c (at0 + (genS l false at0 pr).1.length + 1) (pr + (genS l false at0 pr).2.length)).2)
  | [], at0, pr => by simp [genS]
  | x :: r, at0, pr => by
    rw [List.cons_append, genS, genS, genS_snoc c r]
    simp only [List.append_assoc, List.length_append, Nat.add_assoc, Bool.false_eq_true, if_false, List.length_cons, List.length_nil, Nat.zero_add]
theorem genS_snoc1 (c x : Cor) (r : List Cor) (at0 pr : Nat) : genS ((x :: r) ++ [c]) true at0 pr = ((genS (x :: r) true at0 pr).1 ++ insO 14 :: (genC c (at0 + (genS (x :: r) true at0 pr).1.length + 1) (pr + (genS (x :: r) true at0 pr).2.length)).1, (genS (x :: r) true at0 pr).2 ++ (genC c (at0 + (genS (x :: r) true at0 pr).1.length + 1) (pr + (genS (x :: r) true at0 pr).2.length)).2) := by
  rw [List.cons_append, genS, genS, genS_snoc c r]
  simp only [List.append_assoc, List.length_append, Nat.add_assoc, if_true, List.length_cons, List.length_nil, Nat.zero_add, List.nil_append]
theorem genS_one (c : Cor) (at0 pr : Nat) : genS [c] true at0 pr = genC c at0 pr := by
  simp [genS]
/-- One more kid of a sequence. -/
theorem genS_more {l : List Cor} {j : Nat} {c : Cor} (h : l[j]? = some c) (hj : 0 < j) (at0 pr : Nat) : genS (l.take (j + 1)) true at0 pr = ((genS (l.take j) true at0 pr).1 ++ insO 14 :: (genC c (at0 + (genS (l.take j) true at0 pr).1.length + 1) (pr + (genS (l.take j) true at0 pr).2.length)).1, (genS (l.take j) true at0 pr).2 ++ (genC c (at0 + (genS (l.take j) true at0 pr).1.length + 1) (pr + (genS (l.take j) true at0 pr).2.length)).2) := by
  rw [take_more h]
  have hl := (List.getElem?_eq_some_iff.1 h).1
  match hq : l.take j with
  | [] =>
    have := congrArg List.length hq
    rw [List.length_take, List.length_nil] at this
    omega
  | x :: r => exact genS_snoc1 c x r at0 pr
theorem genS_first {l : List Cor} {c : Cor} (h : l[0]? = some c) (at0 pr : Nat) : genS (l.take 1) true at0 pr = genC c at0 pr := by
  rw [take_more h]
  exact genS_one c at0 pr
theorem genL_more {l : List Cor} {j : Nat} {c : Cor} (h : l[j]? = some c) (at0 pr : Nat) : genL (l.take (j + 1)) at0 pr = ((genL (l.take j) at0 pr).1 ++ (genC c (at0 + (genL (l.take j) at0 pr).1.length) (pr + (genL (l.take j) at0 pr).2.length)).1, (genL (l.take j) at0 pr).2 ++ (genC c (at0 + (genL (l.take j) at0 pr).1.length) (pr + (genL (l.take j) at0 pr).2.length)).2) := by
  rw [take_more h]
  exact genL_snoc c _ at0 pr
theorem lonL_mem {l : List Cor} {j : Nat} {c : Cor} (h : l[j]? = some c) : lonC c ≤ lonL l := by
  have h1 := lonL_more h
  have h2 := lonL_append (l.take (j + 1)) (l.drop (j + 1))
  rw [List.take_append_drop] at h2
  omega
/-- Where the maker is, some way on. -/
structure Way (B : Nat) (X : Nat → Prop) (T M : Nat) (tv pv : Value) (is : List IE) (ps : List PE) (g : List In × List Pro) (w w' : World) (tv' pv' : Value) (is' : List IE) (ps' : List PE) : Prop where
  hi : is'.map IE.i = g.1
  hp : ps'.map PE.pro = g.2
  mm : MK B X T M tv' pv' (is ++ is') (ps ++ ps') w'
  fr : FR B T M tv pv tv' pv' w w'
theorem Way.li {B : Nat} {X : Nat → Prop} {T M : Nat} {tv pv : Value} {is : List IE} {ps : List PE} {g : List In × List Pro} {w w' : World} {tv' pv' : Value} {is' : List IE} {ps' : List PE} (h : Way B X T M tv pv is ps g w w' tv' pv' is' ps') : (is ++ is').length = is.length + g.1.length := by
  rw [List.length_append, ← h.hi, List.length_map]
theorem Way.lp {B : Nat} {X : Nat → Prop} {T M : Nat} {tv pv : Value} {is : List IE} {ps : List PE} {g : List In × List Pro} {w w' : World} {tv' pv' : Value} {is' : List IE} {ps' : List PE} (h : Way B X T M tv pv is ps g w w' tv' pv' is' ps') : (ps ++ ps').length = ps.length + g.2.length := by
  rw [List.length_append, ← h.hp, List.length_map]

set_option maxRecDepth 100000 in
set_option maxHeartbeats 1600000 in
theorem sequence_any (B0 B f : Nat) (hB : B0 ≤ B) (hC : CoreW B0 B f) (X : Nat → Prop) (T M : Nat) (tv pv : Value) (is : List IE) (ps : List PE) (l : List Cor) (a : Option Addr) (cap : Nat) (w : World)
    (hc : Cc B0 w (f + 1) a l) (hcap : l.length ≤ cap) (hok : okL l) (hsm : smCL l) (hs : is.length + sizL l + l.length ≤ 100000001) (hp : ps.length + lamL l ≤ 100000000) (hl : lonL l ≤ 100000000) (h : MK B X T M tv pv is ps w) :
    Calls Tryz.prog 103 #[.pointer (some ⟨M, 0, none⟩), .pointer (some ⟨T, 0, none⟩), .slice a l.length cap] w (ToldM B X T M tv pv is ps (genS l true is.length ps.length) w) := by
  have hlen := hc.len
  have HL := hidd hc
  have HC := hidd hC
  have HO : Hid (okL l ∧ smCL l ∧ (∀ c ∈ l, Len c) ∧ lonL l ≤ 100000000) := ⟨hok, hsm, each_len l hok, hl⟩
  have W0 : Hid (Way B X T M tv pv is ps (genS (l.take 0) true is.length ps.length) w w tv pv [] []) := ⟨by simp [genS], by simp [genS], by simpa using h, FR.refl _ _ _ _ _ _⟩
  clear hc hC hok hsm h hl
  obtain ⟨G, hG⟩ : ∃ G, G = genS l true is.length ps.length := ⟨_, rfl⟩
  rw [← hG]
  have HG := hidd hG
  clear hG
  go_enter Tryz.func103, Tryz.ntmps103
  go_wp2_with fail
  go_loopw [9] (fun ix wr => ∃ (j : Nat) (tv' pv' : Value) (is' : List IE) (ps' : List PE), j ≤ l.length ∧ ix = .int .i64 j ∧ Hid (Way B X T M tv pv is ps (genS (l.take j) true is.length ps.length) w wr tv' pv' is' ps')) (fun ix _ => l.length - (intOf ix).toNat)
  case atStart => exact ⟨0, tv, pv, [], [], Nat.zero_le _, rfl, W0.out⟩
  case round =>
    clear W0
    obtain ⟨j, tv1, pv1, is1, ps1, hj, rfl, HW⟩ := hrel
    by_cases hlt : j < l.length
    · obtain ⟨c, hc⟩ : ∃ c, l[j]? = some c := ⟨l[j], List.getElem?_eq_getElem hlt⟩
      have hne : l ≠ [] := by intro e; rw [e] at hlt; simp at hlt
      obtain ⟨g', b, o, hg, ha, hall⟩ := HL.out.at hne
      obtain rfl : f = g' := by omega
      subst ha
      have CN := hidd (hall j c hc)
      have b1 := sizL_more hc
      have b2 := lamL_more hc
      have t1 := sizL_take l (j + 1)
      have t2 := lamL_take l (j + 1)
      have t3 := lonL_mem hc
      have hoc := okL_at l j c HO.out.1 hc
      have hsc := smCL_at l j c HO.out.2.1 hc
      have hl9 := HO.out.2.2.2
      have li := HW.out.li
      have lp := HW.out.lp
      have HC2 : Hid (okC c ∧ smC c ∧ lonC c ≤ 100000000 ∧ Len c) := ⟨hoc, hsc, by omega, HO.out.2.2.1 c (List.mem_of_getElem? hc)⟩
      have hmem : ∀ x ∈ l.take j, Len x := fun x hx => HO.out.2.2.1 x (List.mem_of_mem_take hx)
      by_cases h0 : j = 0
      · subst h0
        have hg1 : Hid (genS (l.take (0 + 1)) true is.length ps.length = genC c is.length ps.length) := genS_first hc is.length ps.length
        have e1 : is1 = [] := by have := HW.out.hi; simpa [genS] using this
        have e2 : ps1 = [] := by have := HW.out.hp; simpa [genS] using this
        subst e1 e2
        have mk := HW.out.mm
        rw [List.append_nil, List.append_nil] at mk
        have CALL := hidd (HC.out X T M tv1 pv1 is ps b (o + 0 * 12) c wr (CN.out.below (HW.out.fr.low.mono hB)) HC2.out.1 HC2.out.2.1 (by have : sizL (l.take 0) = 0 := (by simp [sizL]); omega) (by have : lamL (l.take 0) = 0 := (by simp [lamL]); omega) HC2.out.2.2.1 mk)
        clear mk b1 b2 t1 t2 t3 hoc hsc hl9 li lp hall hne hmem hc
        go_wp2_with fail
        refine CALL.out.mono ?_
        rintro e w2 ⟨rfl, tv2, pv2, is2, ps2, hi2, hp2, mk2, fr2⟩
        have HW2 : Hid (Way B X T M tv pv is ps (genS (l.take (0 + 1)) true is.length ps.length) w w2 tv2 pv2 is2 ps2) := by
          show Way _ _ _ _ _ _ _ _ _ _ _ _ _ _ _
          rw [hg1.out]
          exact ⟨hi2, hp2, mk2, HW.out.fr.trans fr2⟩
        clear hi2 hp2 mk2 fr2 CALL HW
        go_wp2_with fail
        go_roundw
        case rel => exact ⟨0 + 1, _, _, _, _, by omega, by go_num, HW2.out⟩
        case measure => simp [intOf]; omega
      · have hj0 : 0 < j := by omega
        have hg1 := hidd (genS_more hc hj0 is.length ps.length)
        have hsl : (genS (l.take j) true is.length ps.length).1.length = sizL (l.take j) + j - 1 ∧ (genS (l.take j) true is.length ps.length).2.length = lamL (l.take j) := by
          match hq : l.take j, hmem with
          | [], _ =>
            have := congrArg List.length hq
            rw [List.length_take, List.length_nil] at this
            omega
          | x :: r, hmem =>
            have h5 := genS_len1 x r hmem is.length ps.length
            have h6 := congrArg List.length hq
            rw [List.length_take] at h6
            rw [show (x :: r).length = j by omega] at h5
            exact h5
        obtain ⟨L1, hL1⟩ : ∃ L, L = is ++ is1 := ⟨_, rfl⟩
        obtain ⟨P1, hP1⟩ : ∃ P, P = ps ++ ps1 := ⟨_, rfl⟩
        have mk1 := HW.out.mm
        rw [← hL1] at mk1 li
        rw [← hP1] at mk1 lp
        have PU := hidd (put_plain 14 B X T M tv1 pv1 L1 P1 wr mk1 (by omega))
        have BD : Hid ((L1 ++ [IE.mk (insO 14) none 0]).length + sizC c ≤ 100000000 ∧ P1.length + lamC c ≤ 100000000 ∧ L1 = is ++ is1 ∧ P1 = ps ++ ps1 ∧ L1.length = is.length + (genS (l.take j) true is.length ps.length).1.length ∧ P1.length = ps.length + (genS (l.take j) true is.length ps.length).2.length) := ⟨by rw [List.length_append, List.length_singleton]; omega, by omega, hL1, hP1, li, lp⟩
        have hj0' : (0 : Int) < (j : Int) := by omega
        clear mk1 b1 b2 t1 t2 t3 hoc hsc hl9 li lp hall hne hmem hc hsl hL1 hP1 h0
        go_wp2_with fail
        refine PU.out.mono ?_
        rintro e w2 ⟨rfl, tv2, mk2, fr2⟩
        have F2 := hidd (HW.out.fr.trans fr2)
        have CALL := hidd (HC.out X T M tv2 pv1 (L1 ++ [IE.mk (insO 14) none 0]) P1 b (o + j * 12) c w2 (CN.out.below (F2.out.low.mono hB)) HC2.out.1 HC2.out.2.1 BD.out.1 BD.out.2.1 HC2.out.2.2.1 mk2)
        clear PU fr2 mk2
        go_wp2_with fail
        refine CALL.out.mono ?_
        rintro e w3 ⟨rfl, tv3, pv3, is3, ps3, hi3, hp3, mk3, fr3⟩
        have HW2 : Hid (Way B X T M tv pv is ps (genS (l.take (j + 1)) true is.length ps.length) w w3 tv3 pv3 (is1 ++ IE.mk (insO 14) none 0 :: is3) (ps1 ++ ps3)) := by
          show Way _ _ _ _ _ _ _ _ _ _ _ _ _ _ _
          obtain ⟨_, _, d1, d2, d3, d4⟩ := BD.out
          rw [List.length_append, List.length_singleton, d3, d4] at hi3 hp3
          rw [d1, d2] at mk3
          rw [hg1.out]
          refine ⟨?_, ?_, by simpa using mk3, F2.out.trans fr3⟩
          · simp only [List.map_append, List.map_cons, HW.out.hi, hi3]
          · simp only [List.map_append, HW.out.hp, hp3]
        clear hi3 hp3 mk3 fr3 CALL HW F2 BD hg1
        go_wp2_with fail
        go_roundw
        case rel => exact ⟨j + 1, _, _, _, _, by omega, by go_num, HW2.out⟩
        case measure => simp [intOf]; omega
    · obtain rfl : j = l.length := by omega
      rw [List.take_length] at HW
      clear HL HC HO
      go_wp2_with fail
      go_end0
      rw [HG.out]
      exact ⟨rfl, _, _, _, _, HW.out.hi, HW.out.hp, HW.out.mm, HW.out.fr⟩
end
section
set_option linter.unusedVariables false
set_option linter.unusedSimpArgs false
open Go.RowKit

/-- The two boxes of core, and two of the node's cells. -/
structure Bx (bm bc M b o : Nat) (i : Int) (ka : Option Addr) (kn kc : Nat) (u : World) : Prop where
  bm : u.heap[bm]? = some (.cells #[.pointer (some ⟨M, 0, none⟩)] 125 (0, 0))
  bc : u.heap[bc]? = some (.cells #[.pointer (some ⟨b, o, none⟩)] 129 (0, 0))
  i : u.cell? ⟨b, o + 1, none⟩ = some (.int .i64 i)
  k : u.cell? ⟨b, o + 11, none⟩ = some (.slice ka kn kc)
theorem Bx.next {bm bc M b o : Nat} {i : Int} {ka : Option Addr} {kn kc : Nat} {u u' : World} (h : Bx bm bc M b o i ka kn kc u) {B T : Nat} {tv pv tv' pv' : Value} (hm : Fr T M tv pv bm) (hc : Fr T M tv pv bc) (hf : FR B T M tv pv tv' pv' u u') (hb : b < B) : Bx bm bc M b o i ka kn kc u' :=
  ⟨(hf.keep _ (Array.getElem?_eq_some_iff.1 h.bm).1 hm).trans h.bm, (hf.keep _ (Array.getElem?_eq_some_iff.1 h.bc).1 hc).trans h.bc, (hf.low.cell (p := ⟨b, o + 1, none⟩) hb).trans h.i, (hf.low.cell (p := ⟨b, o + 11, none⟩) hb).trans h.k⟩
theorem Bx.drew {bm bc M b o : Nat} {i : Int} {ka : Option Addr} {kn kc : Nat} {u : World} (h : Bx bm bc M b o i ka kn kc u) : Bx bm bc M b o i ka kn kc u.drew := ⟨h.bm, h.bc, h.i, h.k⟩

set_option maxRecDepth 100000 in
set_option maxHeartbeats 800000 in
theorem clos37_any (B : Nat) (X : Nat → Prop) (T M : Nat) (tv pv : Value) (is : List IE) (ps : List PE) (g : List In × List Pro) (bm bc b o kb ko kc : Nat) (i : Int) (w : World) (hbx : Bx bm bc M b o i (some ⟨kb, ko, none⟩) 1 kc w) (hkc : 1 ≤ kc) (hfm : Fr T M tv pv bm) (hfc : Fr T M tv pv bc) (hbB : b < B) (hble : B ≤ w.heap.size)
    (hcall : Calls Tryz.prog 72 #[.pointer (some ⟨M, 0, none⟩), .pointer (some ⟨T, 0, none⟩), .pointer (some ⟨kb, ko, none⟩)] w.drew (ToldM B X T M tv pv is ps g w.drew)) :
    Calls Tryz.prog 101 #[.pointer (some ⟨T, 0, none⟩), .pointer (some ⟨bm, 0, none⟩), .pointer (some ⟨bc, 0, none⟩)] w (ToldM B X T M tv pv is ps g w) := by
  have CALL := hidd hcall
  clear hcall
  go_enter Tryz.func101, Tryz.ntmps101
  refine wp_region_held_drew (S := fun u => Bx bm bc M b o i (some ⟨kb, ko, none⟩) 1 kc u) (by kernel_rfl) hbx.drew (fun hS => ?_)
  refine wpAnyH_take (i := 0) (oi := { dst := some 4, op := Op.load 125 (Operand.tmp 1), type := 125, pos := _, after := _, guard := none }) (v := .pointer (some ⟨M, 0, none⟩)) rfl (by kernel_rfl) (by kernel_rfl) (by kernel_rfl) (fun _ _ _ h => h) (Or.inl ⟨by rfl, fun u hu => by (have z : u.cell? ⟨bm, 0, none⟩ = some (.pointer (some ⟨M, 0, none⟩)) := (by simp [World.cell?, show u.heap[bm]? = _ from hu.bm]); go_simp)⟩) hS ?_
  simp only [Act.put, List.setIfInBounds_toArray, List.set_cons_zero, List.set_cons_succ]
  refine wpAnyH_take (i := 1) (oi := { dst := some 5, op := Op.move (Operand.tmp 0), type := 127, pos := _, after := _, guard := none }) (v := .pointer (some ⟨T, 0, none⟩)) rfl (by kernel_rfl) (by kernel_rfl) (by kernel_rfl) (fun _ _ _ h => h) (Or.inl ⟨by rfl, fun u hu => by go_simp⟩) hS ?_
  simp only [Act.put, List.setIfInBounds_toArray, List.set_cons_zero, List.set_cons_succ]
  refine wpAnyH_take (i := 2) (oi := { dst := some 6, op := Op.load 129 (Operand.tmp 2), type := 129, pos := _, after := _, guard := none }) (v := .pointer (some ⟨b, o, none⟩)) rfl (by kernel_rfl) (by kernel_rfl) (by kernel_rfl) (fun _ _ _ h => h) (Or.inl ⟨by rfl, fun u hu => by (have z : u.cell? ⟨bc, 0, none⟩ = some (.pointer (some ⟨b, o, none⟩)) := (by simp [World.cell?, show u.heap[bc]? = _ from hu.bc]); go_simp)⟩) hS ?_
  simp only [Act.put, List.setIfInBounds_toArray, List.set_cons_zero, List.set_cons_succ]
  refine wpAnyH_take (i := 3) (oi := { dst := some 7, op := Op.nilCheck (Operand.tmp 6), type := 0, pos := _, after := _, guard := none }) (v := .pointer (some ⟨b, o, none⟩)) rfl (by kernel_rfl) (by kernel_rfl) (by kernel_rfl) (fun _ _ _ h => h) (Or.inl ⟨by rfl, fun u hu => by go_simp⟩) hS ?_
  simp only [Act.put, List.setIfInBounds_toArray, List.set_cons_zero, List.set_cons_succ]
  refine wpAnyH_take (i := 4) (oi := { dst := some 8, op := Op.fieldAddr 90 (Operand.tmp 7) 6, type := 0, pos := _, after := _, guard := none }) (v := .pointer (some ⟨b, o + 11, none⟩)) rfl (by kernel_rfl) (by kernel_rfl) (by kernel_rfl) (fun _ _ _ h => h) (Or.inl ⟨by rfl, fun u hu => by go_simp⟩) hS ?_
  simp only [Act.put, List.setIfInBounds_toArray, List.set_cons_zero, List.set_cons_succ]
  refine wpAnyH_take (i := 5) (oi := { dst := some 9, op := Op.load 37 (Operand.tmp 8), type := 37, pos := _, after := _, guard := none }) (v := .slice (some ⟨kb, ko, none⟩) 1 kc) rfl (by kernel_rfl) (by kernel_rfl) (by kernel_rfl) (fun _ _ _ h => h) (Or.inl ⟨by rfl, fun u hu => by (have z := hu.k; go_simp)⟩) hS ?_
  simp only [Act.put, List.setIfInBounds_toArray, List.set_cons_zero, List.set_cons_succ]
  refine wpAnyH_take (i := 6) (oi := { dst := some 10, op := Op.indexAddr 37 (Operand.tmp 9) (Operand.const (Value.int IntKind.i64 0)), type := 0, pos := _, after := _, guard := none }) (v := .pointer (some ⟨kb, ko, none⟩)) rfl (by kernel_rfl) (by kernel_rfl) (by kernel_rfl) (fun _ _ _ h => h) (Or.inl ⟨by rfl, fun u hu => by go_simp⟩) hS ?_
  simp only [Act.put, List.setIfInBounds_toArray, List.set_cons_zero, List.set_cons_succ]
  refine wpAnyH_ready (rs := [7]) (by kernel_rfl) (by simp) (AllReadyH.cons (o := { dst := some 11, op := Op.call { callee := Callee.value (Operand.func 72), args := #[Operand.tmp 4, Operand.tmp 5, Operand.tmp 10], argTypes := #[125, 127, 129] }, type := 0, pos := _, after := _, guard := none }) rfl (fun K hK => ?_) AllReadyH.nil)
  go_simp
  refine CALL.out.mono ?_
  rintro e w2 hto
  obtain ⟨rfl, tv2, pv2, is2, ps2, hi2, hp2, mk2, fr2⟩ := hto
  have hS2 := hS.next hfm hfc fr2 hbB
  have TO : Hid (ToldM B X T M tv pv is ps g w (.returned (.tuple #[])) w2) := ⟨rfl, tv2, pv2, is2, ps2, hi2, hp2, mk2, (FR.of_below (Below.drew (Below.refl _ _)) hble).trans fr2⟩
  clear hi2 hp2 mk2 fr2
  show K _ w2
  refine hK.out _ _ hS2 (fun hS => ?_)
  clear hK K
  refine wpAnyH_done (by kernel_rfl) ?_ _
  go_wp2_with fail
  go_end0
  exact TO.out
end
end Go.Proofs.YtfmanhkeclogfaaGreatDoor
