/- Chapter 9, the document's side: what is wrong with procedures. -/
import Derived.Test.YtdnbingddbakaaaDoorK28
import Derived.Test.YtdnbingddbakaaaDoorK25
import Derived.Test.YtdnbingddbakaaaDoorK39
namespace Go.Proofs.YtdnbingddbakaaaDoor
set_option linter.unusedVariables false
set_option linter.unusedSimpArgs false
open Go.RowKit

theorem wrapS (x : Int) (h : 0 ≤ x ∧ x ≤ 1000000000) : IntKind.i64.wrap x = x := by
  first
    | (simp [IntKind.wrap, IntKind.bits]; omega)
    | (simp [IntKind.wrap, show IntKind.i64.bits = 64 from rfl]; omega)
    | (simp [IntKind.wrap, show IntKind.i64.bits = 64 from rfl, show IntKind.i64.signed = true from rfl]; split <;> omega)
theorem CLmono {B B' : Nat} {w : World} {a : Option Addr} {code : List In} (h : CL B w a code) (hB : B ≤ B') : CL B' w a code := by
  rcases h with h | ⟨b, o, ha, hb, h⟩
  · exact Or.inl h
  · refine Or.inr ⟨b, o, ha, Nat.lt_of_lt_of_le hb hB, fun i x hx => ?_⟩
    obtain ⟨qa, qc, hi⟩ := h i x hx
    obtain ⟨f, hf⟩ := hi.lk
    exact ⟨qa, qc, hi.c0, hi.c1, hi.c2, hi.c3, hi.c4, hi.c5, hi.c6, hi.c7, hi.c8, hi.c9, hi.c10, hi.l3, hi.l4, hi.l7, hi.lq, f, Dc.stay (fun _ _ => rfl) (fun _ hk => Nat.lt_of_lt_of_le hk hB) f _ _ hf⟩
set_option maxRecDepth 100000 in
set_option maxHeartbeats 25600000 in
theorem Protos_any (PP : List Pro) (bs : List Int) (pa ba : Option Addr) (n pc m bc : Nat) (gn : Int) (w : World) (hn : n = PP.length) (hm : m = bs.length) (hl : PL w.heap.size w pa PP) (hpc : n ≤ pc) (hn2 : n ≤ 20000) (hbl : NL w.heap.size w ba bs) (hbc : m ≤ bc) (hm2 : m ≤ 1000) (hbv : ∀ b ∈ bs, 0 ≤ b ∧ b < (n : Int)) :
    Calls Tryd.prog 21 #[.slice pa n pc, .slice ba m bc, .int .i64 gn] w fun e w' => e = .returned (.int .i64 (wrongPs PP bs (glN gn))) ∧ Below w.heap.size w w' := by
  obtain ⟨R, hR⟩ : ∃ r, r = wrongPs PP bs (glN gn) := ⟨_, rfl⟩
  rw [← hR]
  unfold wrongPs at hR
  have HRR := hidd hR
  have HN := hidd hn
  have HM := hidd hm
  have HL := hidd hl
  have HBL := hidd hbl
  have HBV := hidd hbv
  clear hR hn hm hl hbl hbv
  go_enter Tryd.func21, Tryd.ntmps21
  go_wp2_with fail
  go_loopw [23] (fun i wr => ∃ k : Nat, k ≤ n ∧ i = .int .i64 k ∧ Hid (sizesW (PP.drop k) = sizesW PP ∧ Below w.heap.size w wr)) (fun i _ => n - (intOf i).toNat)
  case atStart => exact ⟨0, Nat.zero_le _, rfl, rfl, Below.refl _ _⟩
  case round =>
  obtain ⟨k, hk, rfl, HK⟩ := hrel
  by_cases hkl : k < n
  · obtain ⟨P, hP⟩ : ∃ P, PP[k]? = some P := ⟨_, List.getElem?_eq_getElem (by rw [← HN.out]; exact hkl)⟩
    have HSZ := hidd (sizesW_drop hP)
    obtain ⟨pb, po, rfl, hpb, hallp⟩ := HL.out.at hP
    obtain ⟨ca, cc, s0, s1, hcc, hcl⟩ := hallp k _ hP
    have s0' := (HK.out.2.cell (p := ⟨pb, po + k * 2, none⟩) hpb).trans s0
    have s1' := (HK.out.2.cell (p := ⟨pb, po + k * 2 + 1, none⟩) hpb).trans s1
    obtain ⟨cn, hcn⟩ : ∃ c, c = P.code.length := ⟨_, rfl⟩
    rw [← hcn] at s1' HSZ
    have ba2 := (Below.refl wr.heap.size wr).alloc (Nat.le_refl _) (.cells #[.int .i64 P.args, .slice ca cn cc] 46)
    have HBW := hidd (HK.out.2.trans (ba2.mono HK.out.2.size))
    have HS1 := hidd HK.out.1
    have NB := World.alloc_heap_new wr (.cells #[.int .i64 P.args, .slice ca cn cc] 46)
    have q0 : (wr.alloc (.cells #[.int .i64 P.args, .slice ca cn cc] 46)).cell? ⟨wr.heap.size, 0, none⟩ = some (.int .i64 P.args) := (cellO NB).trans rfl
    have q1 : (wr.alloc (.cells #[.int .i64 P.args, .slice ca cn cc] 46)).cell? ⟨wr.heap.size, 1, none⟩ = some (.slice ca cn cc) := (cellO NB).trans rfl
    clear s0 s1 hcl hallp hP hcn ba2 NB HK hcc
    go_upto_region 4 with fail
    clear s0' s1'
    generalize wr.alloc (.cells #[.int .i64 P.args, .slice ca cn cc] 46) = V at HBW q0 q1 ⊢
    generalize wr.heap.size = vb at q0 q1 ⊢
    have RV : Hid (∀ z, sizeW P.args cn = z → z ≠ 0 → R = z) := fun z hz h0 => by
      have h1 := HSZ.out
      rw [hz, if_neg h0, HS1.out] at h1
      rw [HRR.out, if_pos (by rw [h1]; exact h0), h1]
    generalize P.args = pr at q0 RV HSZ
    by_cases c0 : cn = 0
    · subst c0
      have hy := RV.out 5 (by unfold sizeW; rw [if_pos (by omega)]) (by decide)
      subst hy
      go_wp2_with fail
      go_ret
      exact ⟨rfl, HBW.out⟩
    · have d0 : ((cn : Int) == 0) = false := by simp; omega
      by_cases c6 : 6000 < cn
      · have hy := RV.out 5 (by unfold sizeW; rw [if_pos (by omega)]) (by decide)
        have d1 : decide ((cn : Int) > 6000) = true := by simp; omega
        have d1' : decide (6000 < (cn : Int)) = true := by simp; omega
        subst hy
        clear c0 c6
        go_wp2_with fail
        go_ret
        exact ⟨rfl, HBW.out⟩
      · have d1 : decide ((cn : Int) > 6000) = false := by simp; omega
        have d1' : decide (6000 < (cn : Int)) = false := by simp; omega
        by_cases c1 : pr < 0
        · have hy := RV.out 3 (by unfold sizeW; rw [if_neg (by omega), if_pos (by omega)]) (by decide)
          have d2 : decide (pr < 0) = true := by simpa using c1
          subst hy
          clear c0 c6 c1
          go_wp2_with fail
          go_ret
          exact ⟨rfl, HBW.out⟩
        · have d2 : decide (pr < 0) = false := by simpa using c1
          by_cases c2 : 2000 < pr
          · have hy := RV.out 3 (by unfold sizeW; rw [if_neg (by omega), if_pos (by omega)]) (by decide)
            have d3 : decide (pr > 2000) = true := by simpa using c2
            have d3' : decide (2000 < pr) = true := by simpa using c2
            subst hy
            clear c0 c6 c1 c2
            go_wp2_with fail
            go_ret
            exact ⟨rfl, HBW.out⟩
          · have d3 : decide (pr > 2000) = false := by simpa using c2
            have d3' : decide (2000 < pr) = false := by simpa using c2
            have hs2 := HSZ.out
            rw [show sizeW pr cn = 0 by unfold sizeW; rw [if_neg (by omega), if_neg (by omega)], if_pos rfl, HS1.out] at hs2
            have HS2 := hidd hs2.symm
            clear hs2 c0 c6 c1 c2
            go_wp2_with fail
            go_roundw
            case rel => exact ⟨k + 1, by omega, by go_num, HS2.out, HBW.out⟩
            case measure => simp [intOf]; omega
  obtain rfl : k = n := by omega
  have hsz : sizesW PP = 0 := by
    have := HK.out.1
    rw [List.drop_of_length_le (by rw [← HN.out]; exact Nat.le_refl _)] at this
    rw [← this]; rfl
  have HAR := hidd (sizesW_all hsz)
  have hR2 := HRR.out
  rw [if_neg (by rw [hsz]; decide)] at hR2
  have HR2 := hidd hR2
  have HPS := hidd (PK.start (w := w) k HK.out.2)
  clear hsz hR2 HRR HK
  have hmm := @run_makeMap Tryd.prog
  go_upto_region 11 with fail
  clear hmm
  generalize (wr.alloc (.map #[] 0)).alloc (.map #[] 0) = V at HPS ⊢
  generalize wr.heap.size + 1 = T at HPS ⊢
  generalize wr.heap.size = A at HPS ⊢
  go_wp2_with fail
  go_loopw [50] (fun i wr => ∃ (q : Nat) (K : Kn), q ≤ m ∧ i = .int .i64 q ∧ Hid (PK w A T q K wr ∧ K.length = k ∧ KB K ∧ bodiesW PP (bs.drop q) K = bodiesW PP bs (List.replicate PP.length none))) (fun i _ => m - (intOf i).toNat)
  case atStart => exact ⟨0, _, Nat.zero_le _, rfl, HPS.out, by simp, kb_none _, by rw [← HN.out]; rfl⟩
  case round =>
  obtain ⟨q, K, hq, rfl, HQ⟩ := hrel
  by_cases hql : q < m
  · obtain ⟨b, hb⟩ : ∃ b, bs[q]? = some b := ⟨_, List.getElem?_eq_getElem (by rw [← HM.out]; exact hql)⟩
    obtain ⟨hb0, hb1⟩ := HBV.out b (List.mem_of_getElem? hb)
    obtain ⟨u, rfl⟩ : ∃ u : Nat, b = (u : Int) := ⟨b.toNat, by omega⟩
    have hul : u < k := by omega
    obtain ⟨bb, bo, rfl, hbb, hbcell⟩ : ∃ b o, ba = some ⟨b, o, none⟩ ∧ b < w.heap.size ∧ ∀ i v, bs[i]? = some v → w.cell? ⟨b, o + i, none⟩ = some (.int .i64 v) := by
      rcases HBL.out with h | h
      · rw [h] at hb; simp at hb
      · exact h
    have t0 := (HQ.out.1.bl.cell (p := ⟨bb, bo + q, none⟩) hbb).trans (hbcell q _ hb)
    obtain ⟨P, hP⟩ : ∃ P, PP[u]? = some P := ⟨_, List.getElem?_eq_getElem (by rw [← HN.out]; exact hul)⟩
    obtain ⟨pb, po, rfl, hpb, hallp⟩ := HL.out.at hP
    obtain ⟨ca, cc, s0, s1, hcc, hcl⟩ := hallp u _ hP
    have s0' := (HQ.out.1.bl.cell (p := ⟨pb, po + u * 2, none⟩) hpb).trans s0
    have har := HAR.out P (List.mem_of_getElem? hP)
    have hgd : (PP.getD (u : Int).toNat ⟨0, []⟩).args = P.args := by rw [Int.toNat_natCast, List.getD_eq_getElem?_getD, hP]; rfl
    have BW : Hid (bodyW PP (u : Int) K = (if P.args = 0 then 0 else 3, K.set u (some (true, 0)))) := by
      unfold Hid bodyW
      rw [if_neg (by rw [← HN.out]; omega), hgd, Int.toNat_natCast]
    have BD := hidd (fun h => bodiesW_drop (PP := PP) (K := K) hb h)
    have BX := hidd (fun h => bodiesW_bad (PP := PP) (K := K) hb h)
    obtain ⟨W1, W2, r1, r2, pk2⟩ := HQ.out.1.body (by omega) (k := u) (by rw [HQ.out.2.1]; exact hul) (by omega)
    have PK2 := hidd pk2
    have HQ2 := hidd HQ.out.2
    have HBQ := hidd HQ.out.1.bl
    clear hb hbcell hP hallp s0 s1 hcl hgd pk2 hb0 hb1 HQ hcc
    by_cases ha0 : P.args = 0
    · rw [ha0] at s0'
      have hbw := BW.out
      rw [if_pos ha0] at hbw
      have hbd := BD.out (by rw [hbw])
      rw [hbw, HQ2.out.2.2] at hbd
      have HBD := hidd hbd.symm
      have KL : Hid ((K.set u (some (true, 0))).length = k) := by show (K.set u (some (true, 0))).length = k; rw [List.length_set]; exact HQ2.out.1
      clear hbw hbd ha0 har BD BX BW
      go_wp2_with fail
      go_roundw
      case rel => exact ⟨q + 1, _, by omega, by go_num, PK2.out, KL.out, HQ2.out.2.1.body u, HBD.out⟩
      case measure => simp [intOf]; omega
    · have d0 : decide (P.args > 0) = true := by simp; omega
      have d0' : decide (0 < P.args) = true := by simp; omega
      have hy : R = 3 := by
        have hbw := BW.out
        rw [if_neg ha0] at hbw
        have hbx := BX.out (by rw [hbw]; simp)
        rw [hbw, HQ2.out.2.2] at hbx
        rw [HR2.out, if_pos (by rw [hbx]; simp), hbx]
      subst hy
      clear ha0 har r1 r2
      go_wp2_with fail
      go_ret
      exact ⟨rfl, HBQ.out⟩
  obtain rfl : q = m := by omega
  have hbz := HQ.out.2.2.2
  rw [List.drop_of_length_le (by rw [← HM.out]; exact Nat.le_refl _), bodiesW] at hbz
  have hR3 := HR2.out
  rw [← hbz, if_neg (by simp)] at hR3
  simp only at hR3
  have HR3 := hidd hR3
  have HP3 := hidd HQ.out.1
  have HK3 := hidd (And.intro HQ.out.2.1 HQ.out.2.2.1)
  clear hbz hR3 HR2 HQ
  go_wp2_with fail
  go_loopw [67] (fun i wr => ∃ (p : Nat) (K : Kn) (na : Nat), p ≤ k ∧ i = .int .i64 p ∧ Hid (PK w A T na K wr ∧ K.length = k ∧ KB K ∧ na ≤ 1000 + p * 6000 ∧ protosW PP (glN gn) (PP.length - p) p K = R)) (fun i _ => k - (intOf i).toNat)
  case atStart => exact ⟨0, _, _, Nat.zero_le _, rfl, HP3.out, HK3.out.1, HK3.out.2, by omega, HR3.out.symm⟩
  case round =>
  clear HP3 HK3 HR3 HPS
  obtain ⟨p, K, na, hp, rfl, HQ⟩ := hrel
  by_cases hpl : p < k
  · obtain ⟨P, hP⟩ : ∃ P, PP[p]? = some P := ⟨_, List.getElem?_eq_getElem (by rw [← HN.out]; exact hpl)⟩
    have hpn := protosW_next (PP := PP) (gl := glN gn) (K := K) (q := p) (by rw [← HN.out]; exact hpl)
    rw [HQ.out.2.2.2.2] at hpn
    have hgd : PP.getD p ⟨0, []⟩ = P := by rw [List.getD_eq_getElem?_getD, hP]; rfl
    have hKp : p < K.length := by rw [HQ.out.2.1]; exact hpl
    have lk := HQ.out.1.a.look (p : Int) (by omega)
    cases hKq : K[p]? with
    | none => rw [List.getElem?_eq_getElem hKp] at hKq; simp at hKq
    | some so =>
    cases so with
    | none =>
      rw [aroG_no hKq] at lk
      have hy : R = 8 := by
        rw [hpn]
        unfold protoW
        rw [List.getD_eq_getElem?_getD, hKq]
        simp
      subst hy
      have HB9 := hidd HQ.out.1.bl
      clear hpn hKq hKp hP hgd HQ
      simp only [Option.getD_none, Option.isSome_none] at lk
      go_wp2_with fail
      go_ret
      exact ⟨rfl, HB9.out⟩
    | some s =>
      rw [aroG_at hKq] at lk
      simp only [Option.getD_some, Option.isSome_some] at lk
      have hkb := HQ.out.2.2.1 p s hKq
      obtain ⟨pb, po, rfl, hpb, hallp⟩ := HL.out.at hP
      have HALL := hidd hallp
      obtain ⟨ca, cc, s0, s1, hcc, hcl⟩ := hallp p _ hP
      have s1' := (HQ.out.1.bl.cell (p := ⟨pb, po + p * 2 + 1, none⟩) hpb).trans s1
      have hpw : R = if (codeW PP (glN gn) p P.code.length P.code K).1 = 0 then (if stackOk P.code s.1 then protosW PP (glN gn) (PP.length - (p + 1)) (p + 1) (codeW PP (glN gn) p P.code.length P.code K).2 else 8) else (codeW PP (glN gn) p P.code.length P.code K).1 := by
        rw [hpn]
        unfold protoW
        rw [List.getD_eq_getElem?_getD, hKq]
        simp only [Option.getD_some]
        rw [hgd]
        by_cases e1 : (codeW PP (glN gn) p P.code.length P.code K).1 = 0
        · rw [if_pos e1, if_pos e1]
          by_cases e2 : stackOk P.code s.1 = true
          · rw [if_pos e2, if_pos e2]; simp
          · rw [if_neg e2, if_neg e2]; simp
        · rw [if_neg e1, if_neg e1, if_neg e1]
      obtain ⟨cn, hcn⟩ : ∃ c, c = P.code.length := ⟨_, rfl⟩
      have har := HAR.out P (List.mem_of_getElem? hP)
      rw [← hcn] at s1 s1' hpw hcc har
      have HPW := hidd hpw
      have HCN := hidd hcn
      have HCL := hidd hcl
      have HKS := hidd hKq
      have HS1 := hidd s1
      have HPK := hidd HQ.out.1
      have HKR := hidd (And.intro HQ.out.2.1 (And.intro HQ.out.2.2.1 HQ.out.2.2.2.1))
      have HPP := hidd hP
      obtain ⟨sv, hsv⟩ : ∃ v, v = s.2 := ⟨_, rfl⟩
      have HSV := hidd hsv
      rw [← hsv] at lk hkb
      have hc6 : cn ≤ 6000 := har.2.2.2
      clear hpn hKq hKp hP hgd HQ hallp hpw hcn hcl s0 s1 hsv har
      go_wp2_with fail
      clear lk s1'
      go_loopw [84] (fun i wz => ∃ (j : Nat) (K' : Kn), j ≤ cn ∧ i = .int .i64 j ∧ Hid (PK w A T (na + j) K' wz ∧ K'.length = k ∧ KB K' ∧ Kge K K' ∧ codeW PP (glN gn) p cn (P.code.drop j) K' = codeW PP (glN gn) p cn P.code K)) (fun i _ => cn - (intOf i).toNat)
      case atStart => exact ⟨0, K, Nat.zero_le _, rfl, HPK.out, HKR.out.1, HKR.out.2.1, fun _ _ h => h, rfl⟩
      case round =>
      obtain ⟨j, K', hj, rfl, HJ⟩ := hrel
      have hna : na + j ≤ 130000000 := by have := HKR.out.2.2; omega
      by_cases hjl : j < cn
      · obtain ⟨x, hx⟩ : ∃ x, P.code[j]? = some x := ⟨_, List.getElem?_eq_getElem (by rw [← HCN.out]; exact hjl)⟩
        have hcd := codeW_drop (PP := PP) (gl := glN gn) (q := p) (len := cn) (K := K') hx
        rw [HJ.out.2.2.2.2] at hcd
        have HCD := hidd hcd
        obtain ⟨ib, io, rfl, hib, hins⟩ : ∃ b o, ca = some ⟨b, o, none⟩ ∧ b < w.heap.size ∧ ∀ i x, P.code[i]? = some x → ∃ qa qc, IL w.heap.size w b (o + i * 11) x qa qc := by
          rcases HCL.out with h | h
          · rw [h] at hx; simp at hx
          · exact h
        obtain ⟨xa, xc, hil⟩ := hins j x hx
        have hilz := hil.below hib HJ.out.1.bl
        have a0 := hilz.c0
        have a1 := hilz.c1
        have a2 := hilz.c2
        have a3 := hilz.c3
        have a4 := hilz.c4
        have a5 := hilz.c5
        have a6 := hilz.c6
        have a7 := hilz.c7
        have a8 := hilz.c8
        have a9 := hilz.c9
        have a10 := hilz.c10
        have LZ := hidd (And.intro hil.l3 (And.intro hil.l4 (And.intro hil.l7 hil.lk)))
        have bx := (Below.refl wr.heap.size wr).alloc (Nat.le_refl _) (.cells #[.int .i64 x.op, .int .i64 x.a, .int .i64 x.n, .string x.lib, .string x.own, .int .i64 x.quote.kind, .int .i64 x.quote.n, .string x.quote.name, .int .i64 x.quote.stamp, .int .i64 x.quote.lib, .slice xa x.quote.kids.length xc] 51)
        have PKX := hidd (HJ.out.1.on bx)
        have XBX := hidd (World.alloc_heap_new wr (.cells #[.int .i64 x.op, .int .i64 x.a, .int .i64 x.n, .string x.lib, .string x.own, .int .i64 x.quote.kind, .int .i64 x.quote.n, .string x.quote.name, .int .i64 x.quote.stamp, .int .i64 x.quote.lib, .slice xa x.quote.kids.length xc] 51))
        have XGE : Hid (w.heap.size ≤ wr.heap.size ∧ A < wr.heap.size ∧ T < wr.heap.size) := ⟨HJ.out.1.bl.size, HJ.out.1.a.lt, HJ.out.1.t.lt⟩
        have HJ2 := hidd HJ.out.2
        have hKj : K'[p]? = some (some s) := HJ.out.2.2.2.1 p s HKS.out
        have HKJ := hidd hKj
        clear hcd hx hil hins hilz bx HJ hKj
        go_upto_region 27 with fail
        clear a0 a1 a2 a3 a4 a5 a6 a7 a8 a9 a10
        generalize wr.alloc (.cells #[.int .i64 x.op, .int .i64 x.a, .int .i64 x.n, .string x.lib, .string x.own, .int .i64 x.quote.kind, .int .i64 x.quote.n, .string x.quote.name, .int .i64 x.quote.stamp, .int .i64 x.quote.lib, .slice xa x.quote.kids.length xc] 51) = V2 at PKX XBX ⊢
        obtain ⟨xb, hxb⟩ : ∃ u, u = wr.heap.size := ⟨_, rfl⟩
        rw [← hxb] at XBX XGE ⊢
        clear hxb
        have y0 : V2.cell? ⟨xb, 0, none⟩ = some (.int .i64 x.op) := (cellO XBX.out).trans rfl
        have y1 : V2.cell? ⟨xb, 1, none⟩ = some (.int .i64 x.a) := (cellO XBX.out).trans rfl
        by_cases h7 : x.op = 7
        · rw [h7] at y0
          have hins := insW_close (PP := PP) (gl := glN gn) (q := p) (len := cn) (K := K') h7
          rw [hins] at HCD
          clear hins h7
          by_cases c1 : x.a ≤ (p : Int)
          · have d1 : decide (x.a ≤ (p : Int)) = true := by simpa using c1
            have hy : R = 3 := by
              have h := HCD.out
              rw [show closeW PP p x.a K' = (3, K') by unfold closeW; rw [if_pos (Or.inl c1)]] at h
              rw [if_neg (by simp)] at h
              rw [HPW.out, h, if_neg (by simp)]
            subst hy
            clear c1
            go_wp2_with fail
            go_ret
            exact ⟨rfl, PKX.out.bl⟩
          · have d1 : decide (x.a ≤ (p : Int)) = false := by simpa using c1
            by_cases c2 : (k : Int) ≤ x.a
            · have d2 : decide (x.a ≥ (k : Int)) = true := by simpa using c2
              have d2' : decide ((k : Int) ≤ x.a) = true := by simpa using c2
              have hy : R = 3 := by
                have h := HCD.out
                rw [show closeW PP p x.a K' = (3, K') by unfold closeW; rw [if_pos (Or.inr (by rw [← HN.out]; exact c2))]] at h
                rw [if_neg (by simp)] at h
                rw [HPW.out, h, if_neg (by simp)]
              subst hy
              clear c1 c2
              go_wp2_with fail
              go_ret
              exact ⟨rfl, PKX.out.bl⟩
            · have d2 : decide (x.a ≥ (k : Int)) = false := by simp; omega
              have d2' : decide ((k : Int) ≤ x.a) = false := by simp; omega
              obtain ⟨u, hu⟩ : ∃ u : Nat, x.a = (u : Int) := ⟨x.a.toNat, by omega⟩
              have HXA0 := hidd hu
              rw [hu] at y1 d1 d2 d2' HCD
              have hul : u < k := by omega
              have hup : p < u := by omega
              have hKl : u < K'.length := by rw [HJ2.out.1]; exact hul
              have lk := PKX.out.a.look (u : Int) (by omega)
              have hcw : closeW PP p (u : Int) K' = if (K'.getD u none).isSome then (8, K') else (0, K'.set u (some (false, aro K' p + (PP.getD u ⟨0, []⟩).args))) := by
                unfold closeW
                rw [if_neg (by rw [← HN.out]; omega)]
                simp only [Int.toNat_natCast]
              rw [hcw] at HCD
              cases hKu : K'[u]? with
              | none => rw [List.getElem?_eq_getElem hKl] at hKu; simp at hKu
              | some so =>
              cases so with
              | some z =>
                rw [aroG_at hKu] at lk
                simp only [Option.getD_some, Option.isSome_some] at lk
                have hy : R = 8 := by
                  have h := HCD.out
                  rw [List.getD_eq_getElem?_getD, hKu] at h
                  simp only [Option.getD_some, Option.isSome_some, if_true] at h
                  rw [if_neg (by simp)] at h
                  rw [HPW.out, h, if_neg (by simp)]
                subst hy
                clear c1 c2 hu hKu hcw
                go_wp2_with fail
                go_ret
                exact ⟨rfl, PKX.out.bl⟩
              | none =>
                rw [aroG_no hKu] at lk
                simp only [Option.getD_none, Option.isSome_none] at lk
                obtain ⟨Q, hQ⟩ : ∃ Q, PP[u]? = some Q := ⟨_, List.getElem?_eq_getElem (by rw [← HN.out]; exact hul)⟩
                have hqd : PP.getD u ⟨0, []⟩ = Q := by rw [List.getD_eq_getElem?_getD, hQ]; rfl
                have harq := HAR.out Q (List.mem_of_getElem? hQ)
                obtain ⟨cq, ccq, z0, z1, _, _⟩ := HALL.out u Q hQ
                have hcd2 := HCD.out
                rw [List.getD_eq_getElem?_getD, hKu, hqd, aro_of HKJ.out, ← HSV.out] at hcd2
                simp only [Option.getD_some, Option.isSome_none, if_true, Bool.false_eq_true, if_false] at hcd2
                have HCD2 := hidd hcd2.symm
                obtain ⟨qr, hqr⟩ : ∃ v, v = Q.args := ⟨_, rfl⟩
                rw [← hqr] at HCD2 harq z0
                have hqr0 : 0 ≤ qr ∧ qr ≤ 2000 := ⟨harq.1, harq.2.1⟩
                have hsum : 0 ≤ sv + qr ∧ sv + qr ≤ 1000000000 := by omega
                have KL2 : Hid ((K'.set u (some (false, sv + qr))).length = k) := by show (K'.set u (some (false, sv + qr))).length = k; rw [List.length_set]; exact HJ2.out.1
                have hkb2 : KB (K'.set u (some (false, sv + qr))) := by
                  intro t z hz
                  by_cases e : u = t
                  · subst e
                    rw [List.getElem?_set_self hKl] at hz
                    simp at hz
                    rw [← hz]
                    refine ⟨hsum.1, ?_⟩
                    show sv + qr ≤ (u : Int) * 2000
                    omega
                  · rw [List.getElem?_set_ne e] at hz
                    exact HJ2.out.2.1 t z hz
                have hge2 : Kge K (K'.set u (some (false, sv + qr))) := by
                  intro t z hz
                  have hz' := HJ2.out.2.2.1 t z hz
                  by_cases e : u = t
                  · subst e; rw [hKu] at hz'; simp at hz'
                  · rw [List.getElem?_set_ne e]; exact hz'
                have KB2 := hidd hkb2
                have GE2 := hidd hge2
                have PCL := hidd (fun (W : World) (h : PK w A T (na + j) K' W) => h.close (by omega) hKu (by omega) (sv + qr) hsum)
                have xlt := (Array.getElem?_eq_some_iff.1 XBX.out).1
                clear c1 c2 hu hKu hcw hQ hqd harq z1 hcd2 hqr HCD hkb2 hge2 hKl
                go_upto_region 33 with fail
                clear lk
                have hS0 : Below w.heap.size w V2.drew ∧ V2.drew.heap[xb]? = some (.cells #[.int .i64 x.op, .int .i64 x.a, .int .i64 x.n, .string x.lib, .string x.own, .int .i64 x.quote.kind, .int .i64 x.quote.n, .string x.quote.name, .int .i64 x.quote.stamp, .int .i64 x.quote.lib, .slice xa x.quote.kids.length xc] 51 (0, 0)) ∧ PK w A T (na + j) K' V2.drew := ⟨PKX.out.bl.drew, XBX.out, PKX.out.on (Below.drew (Below.refl _ _))⟩
                clear y0 d1 d2 d2'
                have HXA : Hid (x.a = (u : Int)) := HXA0.out
                refine wp_region_held_drew (S := fun u => Below w.heap.size w u ∧ u.heap[xb]? = some (.cells #[.int .i64 x.op, .int .i64 x.a, .int .i64 x.n, .string x.lib, .string x.own, .int .i64 x.quote.kind, .int .i64 x.quote.n, .string x.quote.name, .int .i64 x.quote.stamp, .int .i64 x.quote.lib, .slice xa x.quote.kids.length xc] 51 (0, 0))) (by kernel_rfl) ⟨hS0.1, hS0.2.1⟩ (fun hS => ?_)
                refine wpAnyH_take (i := 0) (oi := { dst := some 110, op := Op.move (Operand.tmp 9), type := 82, pos := _, after := _, guard := none }) (v := .map (some A)) rfl (by kernel_rfl) (by kernel_rfl) (by kernel_rfl) (fun _ _ _ h => h) (Or.inl ⟨by rfl, fun u1 hu => by go_simp⟩) hS ?_
                simp only [Act.put, List.setIfInBounds_toArray, List.set_cons_zero, List.set_cons_succ]
                refine wpAnyH_take (i := 1) (oi := { dst := some 111, op := Op.fieldAddr 51 (Operand.tmp 17) 1, type := 0, pos := _, after := _, guard := none }) (v := .pointer (some ⟨xb, 1, none⟩)) rfl (by kernel_rfl) (by kernel_rfl) (by kernel_rfl) (fun _ _ _ h => h) (Or.inl ⟨by rfl, fun u1 hu => by go_simp⟩) hS ?_
                simp only [Act.put, List.setIfInBounds_toArray, List.set_cons_zero, List.set_cons_succ]
                refine wpAnyH_take (i := 2) (oi := { dst := some 112, op := Op.load 3 (Operand.tmp 111), type := 3, pos := _, after := _, guard := none }) (v := .int .i64 u) rfl (by kernel_rfl) (by kernel_rfl) (by kernel_rfl) (fun _ _ _ h => h) (Or.inl ⟨by rfl, fun u1 hu => by (have z : u1.cell? ⟨xb, 1, none⟩ = some (.int .i64 (u : Int)) := ((cellO hu.2).trans rfl).trans (congrArg (fun v => some (Value.int .i64 v)) HXA.out); go_simp)⟩) hS ?_
                simp only [Act.put, List.setIfInBounds_toArray, List.set_cons_zero, List.set_cons_succ]
                refine wpAnyH_take (i := 3) (oi := { dst := some 113, op := Op.move (Operand.tmp 14), type := 3, pos := _, after := _, guard := none }) (v := .int .i64 sv) rfl (by kernel_rfl) (by kernel_rfl) (by kernel_rfl) (fun _ _ _ h => h) (Or.inl ⟨by rfl, fun u1 hu => by go_simp⟩) hS ?_
                simp only [Act.put, List.setIfInBounds_toArray, List.set_cons_zero, List.set_cons_succ]
                refine wpAnyH_take (i := 4) (oi := { dst := some 114, op := Op.move (Operand.tmp 0), type := 24, pos := _, after := _, guard := none }) (v := .slice (some ⟨pb, po, none⟩) k pc) rfl (by kernel_rfl) (by kernel_rfl) (by kernel_rfl) (fun _ _ _ h => h) (Or.inl ⟨by rfl, fun u1 hu => by go_simp⟩) hS ?_
                simp only [Act.put, List.setIfInBounds_toArray, List.set_cons_zero, List.set_cons_succ]
                refine wpAnyH_take (i := 5) (oi := { dst := some 115, op := Op.fieldAddr 51 (Operand.tmp 17) 1, type := 0, pos := _, after := _, guard := none }) (v := .pointer (some ⟨xb, 1, none⟩)) rfl (by kernel_rfl) (by kernel_rfl) (by kernel_rfl) (fun _ _ _ h => h) (Or.inl ⟨by rfl, fun u1 hu => by go_simp⟩) hS ?_
                simp only [Act.put, List.setIfInBounds_toArray, List.set_cons_zero, List.set_cons_succ]
                refine wpAnyH_take (i := 6) (oi := { dst := some 116, op := Op.load 3 (Operand.tmp 115), type := 3, pos := _, after := _, guard := none }) (v := .int .i64 u) rfl (by kernel_rfl) (by kernel_rfl) (by kernel_rfl) (fun _ _ _ h => h) (Or.inl ⟨by rfl, fun u1 hu => by (have z : u1.cell? ⟨xb, 1, none⟩ = some (.int .i64 (u : Int)) := ((cellO hu.2).trans rfl).trans (congrArg (fun v => some (Value.int .i64 v)) HXA.out); go_simp)⟩) hS ?_
                simp only [Act.put, List.setIfInBounds_toArray, List.set_cons_zero, List.set_cons_succ]
                refine wpAnyH_take (i := 7) (oi := { dst := some 117, op := Op.indexAddr 24 (Operand.tmp 114) (Operand.tmp 116), type := 0, pos := _, after := _, guard := none }) (v := .pointer (some ⟨pb, po + u * 2, none⟩)) rfl (by kernel_rfl) (by kernel_rfl) (by kernel_rfl) (fun _ _ _ h => h) (Or.inl ⟨by rfl, fun u1 hu => by go_simp⟩) hS ?_
                simp only [Act.put, List.setIfInBounds_toArray, List.set_cons_zero, List.set_cons_succ]
                refine wpAnyH_take (i := 8) (oi := { dst := some 118, op := Op.fieldAddr 46 (Operand.tmp 117) 0, type := 0, pos := _, after := _, guard := none }) (v := .pointer (some ⟨pb, po + u * 2, none⟩)) rfl (by kernel_rfl) (by kernel_rfl) (by kernel_rfl) (fun _ _ _ h => h) (Or.inl ⟨by rfl, fun u1 hu => by go_simp⟩) hS ?_
                simp only [Act.put, List.setIfInBounds_toArray, List.set_cons_zero, List.set_cons_succ]
                refine wpAnyH_take (i := 9) (oi := { dst := some 119, op := Op.load 3 (Operand.tmp 118), type := 3, pos := _, after := _, guard := none }) (v := .int .i64 qr) rfl (by kernel_rfl) (by kernel_rfl) (by kernel_rfl) (fun _ _ _ h => h) (Or.inl ⟨by rfl, fun u1 hu => by (have z := (hu.1.cell (p := ⟨pb, po + u * 2, none⟩) hpb).trans z0; go_simp)⟩) hS ?_
                simp only [Act.put, List.setIfInBounds_toArray, List.set_cons_zero, List.set_cons_succ]
                refine wpAnyH_take (i := 10) (oi := { dst := some 120, op := Op.binOp BinOp.add 3 (Operand.tmp 113) (Operand.tmp 119) 3, type := 3, pos := _, after := _, guard := none }) (v := .int .i64 (sv + qr)) rfl (by kernel_rfl) (by kernel_rfl) (by kernel_rfl) (fun _ _ _ h => h) (Or.inl ⟨by rfl, fun u1 hu => by (go_simp; exact wrapS _ hsum)⟩) hS ?_
                simp only [Act.put, List.setIfInBounds_toArray, List.set_cons_zero, List.set_cons_succ]
                refine wpAnyH_ready (rs := [11]) (by kernel_rfl) (by simp) (AllReadyH.cons (o := { dst := none, op := Op.mapUpdate 82 (Operand.tmp 110) (Operand.tmp 112) (Operand.tmp 120), type := 0, pos := _, after := _, guard := none }) rfl (fun K_ hK => ?_) AllReadyH.nil)
                obtain ⟨W3, r3, pk3, g3⟩ := PCL.out _ hS0.2.2
                go_simp
                have hS3 : Below w.heap.size w W3 ∧ W3.heap[xb]? = some (.cells #[.int .i64 x.op, .int .i64 x.a, .int .i64 x.n, .string x.lib, .string x.own, .int .i64 x.quote.kind, .int .i64 x.quote.n, .string x.quote.name, .int .i64 x.quote.stamp, .int .i64 x.quote.lib, .slice xa x.quote.kids.length xc] 51 (0, 0)) := ⟨pk3.bl, (g3.block _ (by simpa using xlt) (by have := XGE.out; simp; omega)).trans hS0.2.1⟩
                have PK3 := hidd pk3
                clear r3 pk3 g3 hS0 PCL
                show K_ _ W3
                refine hK.out _ _ hS3 (fun hS => ?_)
                clear hK K_
                refine wpAnyH_done (by kernel_rfl) ?_ _
                clear hS
                go_wp2_with fail
                go_roundw
                case rel => exact ⟨j + 1, _, by omega, by go_num, PK3.out, KL2.out, KB2.out, GE2.out, HCD2.out⟩
                case measure => simp [intOf]; omega
        · have h7' : (x.op == 7) = false := by simpa using h7
          have hins := insW_own (PP := PP) (gn := gn) (q := p) (len := cn) (K := K') h7
          rw [aro_of HKJ.out, ← HSV.out] at hins
          rw [hins] at HCD
          simp only at HCD
          have OW := hidd (fun (W : World) (hb : Below w.heap.size w W) => Own_any x xa xc sv (cn : Int) gn W LZ.out.1 LZ.out.2.1 LZ.out.2.2.1 (by
            obtain ⟨f, hf⟩ := LZ.out.2.2.2
            exact ⟨f, Dc.stay (fun q hq => hb.block q hq) (fun q hq => Nat.lt_of_lt_of_le hq hb.size) _ _ _ hf⟩))
          clear h7 hins
          generalize ownW sv (cn : Int) gn x = y at HCD OW
          unfold iv ic at OW
          have xlt := (Array.getElem?_eq_some_iff.1 XBX.out).1
          go_upto_region 34 with fail
          clear y0 y1
          refine wp_region_held_drew (S := fun u => Below V2.heap.size V2 u) (by kernel_rfl) (Below.drew (Below.refl _ _)) (fun hS => ?_)
          refine wpAnyH_take (i := 0) (oi := { dst := some 121, op := Op.load 51 (Operand.tmp 17), type := 51, pos := _, after := _, guard := none }) (v := .agg #[.int .i64 x.op, .int .i64 x.a, .int .i64 x.n, .string x.lib, .string x.own, .int .i64 x.quote.kind, .int .i64 x.quote.n, .string x.quote.name, .int .i64 x.quote.stamp, .int .i64 x.quote.lib, .slice xa x.quote.kids.length xc]) rfl (by kernel_rfl) (by kernel_rfl) (by kernel_rfl) (fun _ _ _ h => h) (Or.inl ⟨by rfl, fun u1 hu => by (have z0 : u1.cell? ⟨xb, 0, none⟩ = some (.int .i64 x.op) := (hu.cell (p := ⟨xb, 0, none⟩) xlt).trans ((cellO XBX.out).trans rfl); have z1 : u1.cell? ⟨xb, 1, none⟩ = some (.int .i64 x.a) := (hu.cell (p := ⟨xb, 1, none⟩) xlt).trans ((cellO XBX.out).trans rfl); have z2 : u1.cell? ⟨xb, 2, none⟩ = some (.int .i64 x.n) := (hu.cell (p := ⟨xb, 2, none⟩) xlt).trans ((cellO XBX.out).trans rfl); have z3 : u1.cell? ⟨xb, 3, none⟩ = some (.string x.lib) := (hu.cell (p := ⟨xb, 3, none⟩) xlt).trans ((cellO XBX.out).trans rfl); have z4 : u1.cell? ⟨xb, 4, none⟩ = some (.string x.own) := (hu.cell (p := ⟨xb, 4, none⟩) xlt).trans ((cellO XBX.out).trans rfl); have z5 : u1.cell? ⟨xb, 5, none⟩ = some (.int .i64 x.quote.kind) := (hu.cell (p := ⟨xb, 5, none⟩) xlt).trans ((cellO XBX.out).trans rfl); have z6 : u1.cell? ⟨xb, 6, none⟩ = some (.int .i64 x.quote.n) := (hu.cell (p := ⟨xb, 6, none⟩) xlt).trans ((cellO XBX.out).trans rfl); have z7 : u1.cell? ⟨xb, 7, none⟩ = some (.string x.quote.name) := (hu.cell (p := ⟨xb, 7, none⟩) xlt).trans ((cellO XBX.out).trans rfl); have z8 : u1.cell? ⟨xb, 8, none⟩ = some (.int .i64 x.quote.stamp) := (hu.cell (p := ⟨xb, 8, none⟩) xlt).trans ((cellO XBX.out).trans rfl); have z9 : u1.cell? ⟨xb, 9, none⟩ = some (.int .i64 x.quote.lib) := (hu.cell (p := ⟨xb, 9, none⟩) xlt).trans ((cellO XBX.out).trans rfl); have z10 : u1.cell? ⟨xb, 10, none⟩ = some (.slice xa x.quote.kids.length xc) := (hu.cell (p := ⟨xb, 10, none⟩) xlt).trans ((cellO XBX.out).trans rfl); go_simp)⟩) hS ?_
          simp only [Act.put, List.setIfInBounds_toArray, List.set_cons_zero, List.set_cons_succ]
          refine wpAnyH_take (i := 1) (oi := { dst := some 122, op := Op.move (Operand.tmp 14), type := 3, pos := _, after := _, guard := none }) (v := .int .i64 sv) rfl (by kernel_rfl) (by kernel_rfl) (by kernel_rfl) (fun _ _ _ h => h) (Or.inl ⟨by rfl, fun u1 hu => by go_simp⟩) hS ?_
          simp only [Act.put, List.setIfInBounds_toArray, List.set_cons_zero, List.set_cons_succ]
          refine wpAnyH_take (i := 2) (oi := { dst := some 123, op := Op.move (Operand.tmp 0), type := 24, pos := _, after := _, guard := none }) (v := .slice (some ⟨pb, po, none⟩) k pc) rfl (by kernel_rfl) (by kernel_rfl) (by kernel_rfl) (fun _ _ _ h => h) (Or.inl ⟨by rfl, fun u1 hu => by go_simp⟩) hS ?_
          simp only [Act.put, List.setIfInBounds_toArray, List.set_cons_zero, List.set_cons_succ]
          refine wpAnyH_take (i := 3) (oi := { dst := some 124, op := Op.move (Operand.tmp 13), type := 3, pos := _, after := _, guard := none }) (v := .int .i64 p) rfl (by kernel_rfl) (by kernel_rfl) (by kernel_rfl) (fun _ _ _ h => h) (Or.inl ⟨by rfl, fun u1 hu => by go_simp⟩) hS ?_
          simp only [Act.put, List.setIfInBounds_toArray, List.set_cons_zero, List.set_cons_succ]
          refine wpAnyH_take (i := 4) (oi := { dst := some 125, op := Op.indexAddr 24 (Operand.tmp 123) (Operand.tmp 124), type := 0, pos := _, after := _, guard := none }) (v := .pointer (some ⟨pb, po + p * 2, none⟩)) rfl (by kernel_rfl) (by kernel_rfl) (by kernel_rfl) (fun _ _ _ h => h) (Or.inl ⟨by rfl, fun u1 hu => by go_simp⟩) hS ?_
          simp only [Act.put, List.setIfInBounds_toArray, List.set_cons_zero, List.set_cons_succ]
          refine wpAnyH_take (i := 5) (oi := { dst := some 126, op := Op.fieldAddr 46 (Operand.tmp 125) 1, type := 0, pos := _, after := _, guard := none }) (v := .pointer (some ⟨pb, po + p * 2 + 1, none⟩)) rfl (by kernel_rfl) (by kernel_rfl) (by kernel_rfl) (fun _ _ _ h => h) (Or.inl ⟨by rfl, fun u1 hu => by go_simp⟩) hS ?_
          simp only [Act.put, List.setIfInBounds_toArray, List.set_cons_zero, List.set_cons_succ]
          refine wpAnyH_take (i := 6) (oi := { dst := some 127, op := Op.load 44 (Operand.tmp 126), type := 44, pos := _, after := _, guard := none }) (v := .slice (some ⟨ib, io, none⟩) cn cc) rfl (by kernel_rfl) (by kernel_rfl) (by kernel_rfl) (fun _ _ _ h => h) (Or.inl ⟨by rfl, fun u1 hu => by (have z := (hu.cell (p := ⟨pb, po + p * 2 + 1, none⟩) (Nat.lt_of_lt_of_le hpb PKX.out.bl.size)).trans ((PKX.out.bl.cell (p := ⟨pb, po + p * 2 + 1, none⟩) hpb).trans HS1.out); go_simp)⟩) hS ?_
          simp only [Act.put, List.setIfInBounds_toArray, List.set_cons_zero, List.set_cons_succ]
          refine wpAnyH_take (i := 7) (oi := { dst := some 128, op := Op.call { callee := Callee.builtin Builtin.len, args := #[Operand.tmp 127], argTypes := #[44] }, type := 3, pos := _, after := _, guard := none }) (v := .int .i64 cn) rfl (by kernel_rfl) (by kernel_rfl) (by kernel_rfl) (fun _ _ _ h => h) (Or.inl ⟨by rfl, fun u1 hu => by go_simp⟩) hS ?_
          simp only [Act.put, List.setIfInBounds_toArray, List.set_cons_zero, List.set_cons_succ]
          refine wpAnyH_take (i := 8) (oi := { dst := some 129, op := Op.move (Operand.tmp 2), type := 3, pos := _, after := _, guard := none }) (v := .int .i64 gn) rfl (by kernel_rfl) (by kernel_rfl) (by kernel_rfl) (fun _ _ _ h => h) (Or.inl ⟨by rfl, fun u1 hu => by go_simp⟩) hS ?_
          simp only [Act.put, List.setIfInBounds_toArray, List.set_cons_zero, List.set_cons_succ]
          refine wpAnyH_ready (rs := [9]) (by kernel_rfl) (by simp) (AllReadyH.cons (o := { dst := some 130, op := Op.call { callee := Callee.value (Operand.func 37), args := #[Operand.tmp 121, Operand.tmp 122, Operand.tmp 128, Operand.tmp 129], argTypes := #[51, 3, 3, 3] }, type := 28, pos := _, after := _, guard := none }) rfl (fun K_ hK => ?_) AllReadyH.nil)
          go_simp
          refine (OW.out V2.drew (PKX.out.bl.trans (hS.mono PKX.out.bl.size))).mono ?_
          rintro e W5 ⟨rfl, hb5⟩
          have hS5 := hS.trans (hb5.mono hS.size)
          clear hb5
          show K_ _ W5
          refine hK.out _ _ hS5 (fun hS => ?_)
          clear hK K_
          refine wpAnyH_take (i := 10) (oi := { dst := some 20, op := Op.assign (Operand.tmp 130), type := 28, pos := _, after := _, guard := none }) (v := .int .i64 y) rfl (by kernel_rfl) (by kernel_rfl) (by kernel_rfl) (fun _ _ _ h => h) (Or.inl ⟨by rfl, fun u1 hu => by go_simp⟩) hS ?_
          simp only [Act.put, List.setIfInBounds_toArray, List.set_cons_zero, List.set_cons_succ]
          refine wpAnyH_done (by kernel_rfl) ?_ _
          have PK5 := hidd (PKX.out.on hS)
          clear hS OW
          by_cases hy0 : y = 0
          · subst hy0
            have hcd2 := HCD.out
            rw [if_pos rfl] at hcd2
            have HCD2 := hidd hcd2.symm
            clear hcd2
            go_wp2_with fail
            go_roundw
            case rel => exact ⟨j + 1, K', by omega, by go_num, PK5.out.more (by omega), HJ2.out.1, HJ2.out.2.1, HJ2.out.2.2.1, HCD2.out⟩
            case measure => simp [intOf]; omega
          · have d0 : (y != 0) = true := by simpa using hy0
            have hy : R = y := by
              have h := HCD.out
              rw [if_neg hy0] at h
              rw [HPW.out, h, if_neg hy0]
            subst hy
            clear hy0
            go_wp2_with fail
            go_ret
            exact ⟨rfl, PK5.out.bl⟩
      · obtain rfl : j = cn := by omega
        have hcz := HJ.out.2.2.2.2
        rw [List.drop_of_length_le (by rw [← HCN.out]; exact Nat.le_refl _), codeW] at hcz
        have hpw := HPW.out
        rw [← hcz, if_pos rfl] at hpw
        simp only at hpw
        have hin := codeW_in (PP := PP) (gl := glN gn) (q := p) (len := j) (c := P.code) (K := K) (by rw [← hcz])
        have hKj : K'[p]? = some (some s) := HJ.out.2.2.2.1 p s HKS.out
        have lk : ∀ u, Below wr.heap.size wr u → (Instr.lookup 83 (.map (some T)) (.int .i64 (p : Int)) false).run Tryd.prog u = .ok (.bool s.1) u := fun u hu => by
          have := (HJ.out.1.on hu).t.look (p : Int) (by omega)
          rw [bodG_at hKj] at this
          exact this
        have LK := hidd lk
        have HT := hidd (fun (W : World) (hb : Below w.heap.size w W) => Heights_any ca cc j P.code s.1 W HCN.out (CLmono (HCL.out.below hb) hb.size) hcc hc6 (fun x hx => (hin x hx).1) (fun x hx => (hin x hx).2))
        rw [show j = P.code.length from HCN.out] at HT
        have hsame := heights_same P.code s.1 (fun x hx => by have := (hin x hx).1; rw [HCN.out] at this; exact this)
        rw [hsame, ← HCN.out] at HT
        have HPF := hidd hpw
        have HPJ := hidd HJ.out.1
        have HJ2 := hidd HJ.out.2
        clear hcz hpw hin hKj lk hsame HJ
        generalize stackOk P.code s.1 = so at HT HPF
        generalize s.1 = sb at LK HT
        go_upto_region 38 with fail
        refine wp_region_held_drew (S := fun u => Below wr.heap.size wr u) (by kernel_rfl) (Below.drew (Below.refl _ _)) (fun hS => ?_)
        refine wpAnyH_take (i := 0) (oi := { dst := some 135, op := Op.move (Operand.tmp 0), type := 24, pos := _, after := _, guard := none }) (v := .slice (some ⟨pb, po, none⟩) k pc) rfl (by kernel_rfl) (by kernel_rfl) (by kernel_rfl) (fun _ _ _ h => h) (Or.inl ⟨by rfl, fun u1 hu => by go_simp⟩) hS ?_
        simp only [Act.put, List.setIfInBounds_toArray, List.set_cons_zero, List.set_cons_succ]
        refine wpAnyH_take (i := 1) (oi := { dst := some 136, op := Op.move (Operand.tmp 13), type := 3, pos := _, after := _, guard := none }) (v := .int .i64 p) rfl (by kernel_rfl) (by kernel_rfl) (by kernel_rfl) (fun _ _ _ h => h) (Or.inl ⟨by rfl, fun u1 hu => by go_simp⟩) hS ?_
        simp only [Act.put, List.setIfInBounds_toArray, List.set_cons_zero, List.set_cons_succ]
        refine wpAnyH_take (i := 2) (oi := { dst := some 137, op := Op.indexAddr 24 (Operand.tmp 135) (Operand.tmp 136), type := 0, pos := _, after := _, guard := none }) (v := .pointer (some ⟨pb, po + p * 2, none⟩)) rfl (by kernel_rfl) (by kernel_rfl) (by kernel_rfl) (fun _ _ _ h => h) (Or.inl ⟨by rfl, fun u1 hu => by go_simp⟩) hS ?_
        simp only [Act.put, List.setIfInBounds_toArray, List.set_cons_zero, List.set_cons_succ]
        refine wpAnyH_take (i := 3) (oi := { dst := some 138, op := Op.fieldAddr 46 (Operand.tmp 137) 1, type := 0, pos := _, after := _, guard := none }) (v := .pointer (some ⟨pb, po + p * 2 + 1, none⟩)) rfl (by kernel_rfl) (by kernel_rfl) (by kernel_rfl) (fun _ _ _ h => h) (Or.inl ⟨by rfl, fun u1 hu => by go_simp⟩) hS ?_
        simp only [Act.put, List.setIfInBounds_toArray, List.set_cons_zero, List.set_cons_succ]
        refine wpAnyH_take (i := 4) (oi := { dst := some 139, op := Op.load 44 (Operand.tmp 138), type := 44, pos := _, after := _, guard := none }) (v := .slice ca j cc) rfl (by kernel_rfl) (by kernel_rfl) (by kernel_rfl) (fun _ _ _ h => h) (Or.inl ⟨by rfl, fun u1 hu => by (have z := (hu.cell (p := ⟨pb, po + p * 2 + 1, none⟩) (Nat.lt_of_lt_of_le hpb HPJ.out.bl.size)).trans ((HPJ.out.bl.cell (p := ⟨pb, po + p * 2 + 1, none⟩) hpb).trans HS1.out); go_simp)⟩) hS ?_
        simp only [Act.put, List.setIfInBounds_toArray, List.set_cons_zero, List.set_cons_succ]
        refine wpAnyH_take (i := 5) (oi := { dst := some 140, op := Op.move (Operand.tmp 10), type := 83, pos := _, after := _, guard := none }) (v := .map (some T)) rfl (by kernel_rfl) (by kernel_rfl) (by kernel_rfl) (fun _ _ _ h => h) (Or.inl ⟨by rfl, fun u1 hu => by go_simp⟩) hS ?_
        simp only [Act.put, List.setIfInBounds_toArray, List.set_cons_zero, List.set_cons_succ]
        refine wpAnyH_take (i := 6) (oi := { dst := some 141, op := Op.move (Operand.tmp 13), type := 3, pos := _, after := _, guard := none }) (v := .int .i64 p) rfl (by kernel_rfl) (by kernel_rfl) (by kernel_rfl) (fun _ _ _ h => h) (Or.inl ⟨by rfl, fun u1 hu => by go_simp⟩) hS ?_
        simp only [Act.put, List.setIfInBounds_toArray, List.set_cons_zero, List.set_cons_succ]
        refine wpAnyH_take (i := 7) (oi := { dst := some 142, op := Op.lookup 83 (Operand.tmp 140) (Operand.tmp 141) false, type := 4, pos := _, after := _, guard := none }) (v := .bool sb) rfl (by kernel_rfl) (by kernel_rfl) (by kernel_rfl) (fun _ _ _ h => h) (Or.inl ⟨by rfl, fun u1 hu => by (have z := LK.out u1 hu; go_simp)⟩) hS ?_
        simp only [Act.put, List.setIfInBounds_toArray, List.set_cons_zero, List.set_cons_succ]
        refine wpAnyH_ready (rs := [8]) (by kernel_rfl) (by simp) (AllReadyH.cons (o := { dst := some 143, op := Op.call { callee := Callee.value (Operand.func 38), args := #[Operand.tmp 139, Operand.tmp 142], argTypes := #[44, 4] }, type := 4, pos := _, after := _, guard := none }) rfl (fun K_ hK => ?_) AllReadyH.nil)
        go_simp
        refine (HT.out wr.drew (HPJ.out.bl.trans (hS.mono HPJ.out.bl.size))).mono ?_
        rintro e W5 ⟨rfl, hb5⟩
        have hS5 := hS.trans (hb5.mono hS.size)
        clear hb5
        show K_ _ W5
        refine hK.out _ _ hS5 (fun hS => ?_)
        clear hK K_
        refine wpAnyH_take (i := 9) (oi := { dst := some 144, op := Op.unOp UnOp.not 4 (Operand.tmp 143), type := 4, pos := _, after := _, guard := none }) (v := .bool (!so)) rfl (by kernel_rfl) (by kernel_rfl) (by kernel_rfl) (fun _ _ _ h => h) (Or.inl ⟨by rfl, fun u1 hu => by (cases so <;> go_simp)⟩) hS ?_
        simp only [Act.put, List.setIfInBounds_toArray, List.set_cons_zero, List.set_cons_succ]
        refine wpAnyH_done (by kernel_rfl) ?_ _
        have PK5 := hidd (HPJ.out.on hS)
        clear hS HT LK
        cases so
        · have hy : R = 8 := by have := HPF.out; simpa using this
          subst hy
          simp only [Bool.not_false]
          go_wp2_with fail
          go_ret
          exact ⟨rfl, PK5.out.bl⟩
        · have hpf := HPF.out
          rw [if_pos rfl] at hpf
          have HPF2 := hidd hpf.symm
          clear hpf
          simp only [Bool.not_true]
          go_wp2_with fail
          go_roundw
          case rel => exact ⟨p + 1, K', na + j, by omega, by go_num, PK5.out, HJ2.out.1, HJ2.out.2.1, by have := HKR.out.2.2; omega, HPF2.out⟩
          case measure => simp [intOf]; omega
  obtain rfl : p = k := by omega
  have hy : R = 0 := by
    have := HQ.out.2.2.2.2
    rw [← HN.out, Nat.sub_self, protosW] at this
    exact this.symm
  subst hy
  have HB9 := hidd HQ.out.1.bl
  go_wp2_with fail
  go_ret
  exact ⟨rfl, HB9.out⟩
end Go.Proofs.YtdnbingddbakaaaDoor
