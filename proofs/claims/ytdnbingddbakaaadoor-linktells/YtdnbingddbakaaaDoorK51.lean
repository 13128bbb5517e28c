/- Chapter 10's laws: SameImage, where both are the same. Chapter 10's laws: LinkTells, its walk, over what the document's Link tells. Chapter 10: LinkTells, the walk. -/
import Derived.Test.YtdnbingddbakaaaDoorK20
import Derived.Test.YtdnbingddbakaaaDoorK45
import Derived.Test.YtdnbingddbakaaaDoorK48
import Derived.Test.YtdnbingddbakaaaDoorK50
namespace Go.Proofs.YtdnbingddbakaaaDoor
section
set_option linter.unusedVariables false
set_option linter.unusedSimpArgs false
open Go.RowKit

theorem NL.on {w w' : World} {a : Option Addr} {l : List Int} (h : NL w.heap.size w a l) (hb : Below w.heap.size w w') : NL w'.heap.size w' a l := by
  rcases h with h | ⟨b, o, h1, h2, h3⟩
  · exact Or.inl h
  · exact Or.inr ⟨b, o, h1, Nat.lt_of_lt_of_le h2 hb.size, fun i v hv => (hb.cell (p := ⟨b, o + i, none⟩) h2).trans (h3 i v hv)⟩
set_option maxRecDepth 100000 in
set_option maxHeartbeats 12800000 in
theorem SameImage_any (gs : List Gl) (PP : List Pro) (ss : List Int) (ba pa sa ba2 pa2 sa2 : Option Addr) (bn bc pn pc sn sc bc2 pc2 sc2 : Nat) (w : World) (h1 : Img gs PP ba bn bc pa pn pc w) (h2 : Img gs PP ba2 bn bc2 pa2 pn pc2 w) (hsn : sn = ss.length) (n1 : NL w.heap.size w sa ss) (n2 : NL w.heap.size w sa2 ss) (hsc : sn ≤ sc) (hsc2 : sn ≤ sc2) (hb5 : bn ≤ 500) (hp2 : pn ≤ 20000) (hs4 : sn ≤ 40) (hc6 : ∀ P ∈ PP, P.code.length ≤ 6000) :
    Calls Tryd.prog 9 #[.agg #[.slice ba bn bc, .slice pa pn pc, .slice sa sn sc], .agg #[.slice ba2 bn bc2, .slice pa2 pn pc2, .slice sa2 sn sc2]] w (Yes w) := by
  have b1 := ((Below.refl w.heap.size w).alloc (Nat.le_refl _) (.cells #[.slice ba bn bc, .slice pa pn pc, .slice sa sn sc] 27)).alloc (by simp) (.cells #[.slice ba2 bn bc2, .slice pa2 pn pc2, .slice sa2 sn sc2] 27)
  have m1 : ((w.alloc (.cells #[.slice ba bn bc, .slice pa pn pc, .slice sa sn sc] 27)).alloc (.cells #[.slice ba2 bn bc2, .slice pa2 pn pc2, .slice sa2 sn sc2] 27)).heap[w.heap.size]? = some (.cells #[.slice ba bn bc, .slice pa pn pc, .slice sa sn sc] 27 (0, 0)) := (Below.heap_alloc _ _ _ (by simp)).trans (World.alloc_heap_new w _)
  have m2 : ((w.alloc (.cells #[.slice ba bn bc, .slice pa pn pc, .slice sa sn sc] 27)).alloc (.cells #[.slice ba2 bn bc2, .slice pa2 pn pc2, .slice sa2 sn sc2] 27)).heap[w.heap.size + 1]? = some (.cells #[.slice ba2 bn bc2, .slice pa2 pn pc2, .slice sa2 sn sc2] 27 (0, 0)) := by
    have := World.alloc_heap_new (w.alloc (.cells #[.slice ba bn bc, .slice pa pn pc, .slice sa sn sc] 27)) (.cells #[.slice ba2 bn bc2, .slice pa2 pn pc2, .slice sa2 sn sc2] 27)
    simpa using this
  have HB := hidd b1
  have N1 := hidd m1
  have N2 := hidd m2
  have I1 := hidd (h1.below b1)
  have I2 := hidd (h2.below b1)
  have L1 := hidd (n1.on b1)
  have L2 := hidd (n2.on b1)
  have HSN := hidd hsn
  have HC6 := hidd hc6
  clear b1 m1 m2 h1 h2 n1 n2 hsn hc6
  go_enter Tryd.func9, Tryd.ntmps9
  go_upto_region 1 with fail
  generalize ((w.alloc (.cells #[.slice ba bn bc, .slice pa pn pc, .slice sa sn sc] 27)).alloc (.cells #[.slice ba2 bn bc2, .slice pa2 pn pc2, .slice sa2 sn sc2] 27)) = V at HB N1 N2 I1 I2 L1 L2 ⊢
  obtain ⟨b, hb⟩ : ∃ u, u = w.heap.size := ⟨_, rfl⟩
  rw [← hb] at N1 N2 ⊢
  clear hb
  have SP : Hid (Calls Tryd.prog 12 #[.slice pa pn pc, .slice pa2 pn pc2] V (Yes V)) := by
    have h := SameP_any pa pa2 pc pc2 PP V I1.out.pl I2.out.pl (by rw [← I1.out.epn]; omega) (fun p hp => by have := HC6.out p hp; omega) (by rw [← I1.out.epn]; exact I1.out.epc) (by rw [← I2.out.epn]; exact I2.out.epc)
    rw [← I1.out.epn] at h
    exact h
  have x0 : V.cell? ⟨b, 0, none⟩ = some (.slice ba bn bc) := (cellO N1.out).trans rfl
  have x1 : V.cell? ⟨b, 1, none⟩ = some (.slice pa pn pc) := (cellO N1.out).trans rfl
  have x2 : V.cell? ⟨b, 2, none⟩ = some (.slice sa sn sc) := (cellO N1.out).trans rfl
  have z0 : V.cell? ⟨b + 1, 0, none⟩ = some (.slice ba2 bn bc2) := (cellO N2.out).trans rfl
  have z1 : V.cell? ⟨b + 1, 1, none⟩ = some (.slice pa2 pn pc2) := (cellO N2.out).trans rfl
  have z2 : V.cell? ⟨b + 1, 2, none⟩ = some (.slice sa2 sn sc2) := (cellO N2.out).trans rfl
  go_wp2_with fail
  refine SP.out.mono ?_
  rintro e W3 ⟨rfl, hb3⟩
  have HB3 := hidd (HB.out.trans (hb3.mono HB.out.size))
  have hlt := (Array.getElem?_eq_some_iff.1 N1.out).1
  have hlt2 := (Array.getElem?_eq_some_iff.1 N2.out).1
  have M1 := hidd ((hb3.block _ hlt).trans N1.out)
  have M2 := hidd ((hb3.block _ hlt2).trans N2.out)
  have J1 := hidd (I1.out.below hb3)
  have J2 := hidd (I2.out.below hb3)
  have K1 := hidd (L1.out.on hb3)
  have K2 := hidd (L2.out.on hb3)
  clear hb3 x0 x1 x2 z0 z1 z2 hlt hlt2 I1 I2 L1 L2 N1 N2 SP HB
  have q0 : W3.cell? ⟨b, 0, none⟩ = some (.slice ba bn bc) := (cellO M1.out).trans rfl
  have hlt := (Array.getElem?_eq_some_iff.1 M1.out).1
  have hlt2 := (Array.getElem?_eq_some_iff.1 M2.out).1
  go_wp2_with fail
  clear q0
  go_loopw [34] (fun i wr => ∃ k : Nat, k ≤ bn ∧ i = .int .i64 k ∧ Hid (Below W3.heap.size W3 wr)) (fun i _ => bn - (intOf i).toNat)
  case atStart => exact ⟨0, Nat.zero_le _, rfl, Below.refl _ _⟩
  case round =>
  obtain ⟨k, hk, rfl, HR⟩ := hrel
  by_cases hkl : k < bn
  · obtain ⟨g, hg⟩ : ∃ g, gs[k]? = some g := ⟨_, List.getElem?_eq_getElem (by rw [← J1.out.ebn]; exact hkl)⟩
    obtain ⟨bg, rfl, hbg, t0, t1, t2⟩ := J1.out.gl k g hg
    obtain ⟨bh, rfl, hbh, r0, r1, r2⟩ := J2.out.gl k g hg
    have x0 : wr.cell? ⟨b, 0, none⟩ = some (.slice (some ⟨bg, 0, none⟩) bn bc) := (HR.out.cell (p := ⟨b, 0, none⟩) hlt).trans ((cellO M1.out).trans rfl)
    have z0 : wr.cell? ⟨b + 1, 0, none⟩ = some (.slice (some ⟨bh, 0, none⟩) bn bc2) := (HR.out.cell (p := ⟨b + 1, 0, none⟩) hlt2).trans ((cellO M2.out).trans rfl)
    have q0' := (HR.out.cell (p := ⟨bg, k * 3, none⟩) hbg).trans t0
    have q1' := (HR.out.cell (p := ⟨bg, k * 3 + 1, none⟩) hbg).trans t1
    have q2' := (HR.out.cell (p := ⟨bg, k * 3 + 2, none⟩) hbg).trans t2
    have r0' := (HR.out.cell (p := ⟨bh, k * 3, none⟩) hbh).trans r0
    have r1' := (HR.out.cell (p := ⟨bh, k * 3 + 1, none⟩) hbh).trans r1
    have r2' := (HR.out.cell (p := ⟨bh, k * 3 + 2, none⟩) hbh).trans r2
    have hcc : bn ≤ bc := J1.out.ebc
    have hcc2 : bn ≤ bc2 := J2.out.ebc
    clear hg t0 t1 t2 r0 r1 r2
    go_upto_region 6 with fail
    go_quiet (fail)
    go_wp2_with fail
    go_roundw
    case rel => exact ⟨k + 1, by omega, by go_num, below_drewN HR.out nq⟩
    case measure => simp [intOf]; omega
  obtain rfl : k = bn := by omega
  have JR := hidd HR.out
  have x2 : wr.cell? ⟨b, 2, none⟩ = some (.slice sa sn sc) := (HR.out.cell (p := ⟨b, 2, none⟩) hlt).trans ((cellO M1.out).trans rfl)
  clear HR
  go_wp2_with fail
  clear x2
  go_loopw [52] (fun i wz => ∃ q : Nat, q ≤ sn ∧ i = .int .i64 q ∧ Hid (Below W3.heap.size W3 wz)) (fun i _ => sn - (intOf i).toNat)
  case atStart => exact ⟨0, Nat.zero_le _, rfl, JR.out⟩
  case round =>
  obtain ⟨q, hq, rfl, HR⟩ := hrel
  by_cases hql : q < sn
  · obtain ⟨v, hv⟩ : ∃ v, ss[q]? = some v := ⟨_, List.getElem?_eq_getElem (by rw [← HSN.out]; exact hql)⟩
    obtain ⟨c, o, rfl, hc, hcell⟩ : ∃ b o, sa = some ⟨b, o, none⟩ ∧ b < W3.heap.size ∧ ∀ i v, ss[i]? = some v → W3.cell? ⟨b, o + i, none⟩ = some (.int .i64 v) := by
      rcases K1.out with h | h
      · rw [h] at hv; simp at hv
      · exact h
    obtain ⟨c2, o2, rfl, hc2, hcell2⟩ : ∃ b o, sa2 = some ⟨b, o, none⟩ ∧ b < W3.heap.size ∧ ∀ i v, ss[i]? = some v → W3.cell? ⟨b, o + i, none⟩ = some (.int .i64 v) := by
      rcases K2.out with h | h
      · rw [h] at hv; simp at hv
      · exact h
    have t0 := (HR.out.cell (p := ⟨c, o + q, none⟩) hc).trans (hcell q v hv)
    have r0 := (HR.out.cell (p := ⟨c2, o2 + q, none⟩) hc2).trans (hcell2 q v hv)
    have x2 : wr.cell? ⟨b, 2, none⟩ = some (.slice (some ⟨c, o, none⟩) sn sc) := (HR.out.cell (p := ⟨b, 2, none⟩) hlt).trans ((cellO M1.out).trans rfl)
    have z2 : wr.cell? ⟨b + 1, 2, none⟩ = some (.slice (some ⟨c2, o2, none⟩) sn sc2) := (HR.out.cell (p := ⟨b + 1, 2, none⟩) hlt2).trans ((cellO M2.out).trans rfl)
    clear hv hcell hcell2
    go_upto_region 12 with fail
    go_quiet (fail)
    go_wp2_with fail
    go_roundw
    case rel => exact ⟨q + 1, by omega, by go_num, below_drewN HR.out nq⟩
    case measure => simp [intOf]; omega
  obtain rfl : q = sn := by omega
  have HE := hidd (HB3.out.trans (HR.out.mono HB3.out.size))
  go_wp2_with fail
  go_ret
  exact ⟨rfl, HE.out⟩
end
section
set_option linter.unusedVariables false
set_option linter.unusedSimpArgs false
open Go.RowKit

/-- An image that is told, whatever it is, in memory. -/
theorem told_image {us : List Un} {bv pv sv : Value} {w w' : World} (h1 : (linkF us).1 ≠ 0 → bv = .slice none 0 0 ∧ pv = .slice none 0 0 ∧ sv = .slice none 0 0) (h2 : (linkF us).1 = 0 → LinkOk us bv pv sv w w') :
    ∃ gs PP ss, gs = (if (linkF us).1 = 0 then defAll us us.length else []) ∧ PP = (if (linkF us).1 = 0 then (imgS (defAll us us.length) us).1 else []) ∧ ss = (if (linkF us).1 = 0 then stF 0 us else []) ∧
    ∃ ba bc pa pc sa sc, bv = .slice ba gs.length bc ∧ pv = .slice pa PP.length pc ∧ sv = .slice sa ss.length sc ∧ Img gs PP ba gs.length bc pa PP.length pc w' ∧ NL w'.heap.size w' sa ss ∧ ss.length ≤ sc := by
  by_cases h0 : (linkF us).1 = 0
  · obtain ⟨ba, bn, bc, pa, pn, pc, sa0, sn0, sc0, rfl, rfl, _, him⟩ := told_slices h1 h2
    obtain ⟨sa, sc, rfl, hsc, hnl⟩ := told_starts (h2 h0)
    have hI := him h0
    have e1 := hI.ebn
    have e2 := hI.epn
    subst e1 e2
    refine ⟨_, _, _, rfl, rfl, rfl, ba, bc, pa, pc, sa, sc, ?_⟩
    rw [if_pos h0, if_pos h0, if_pos h0, stF_len]
    exact ⟨rfl, rfl, rfl, hI, hnl, hsc⟩
  · obtain ⟨rfl, rfl, rfl⟩ := h1 h0
    refine ⟨_, _, _, rfl, rfl, rfl, none, 0, none, 0, none, 0, ?_⟩
    rw [if_neg h0, if_neg h0, if_neg h0]
    exact ⟨rfl, rfl, rfl, ⟨rfl, Nat.le_refl _, rfl, Nat.le_refl _, Or.inl rfl, fun i g hg => by simp at hg⟩, Or.inl rfl, Nat.le_refl _⟩
set_option maxRecDepth 100000 in
set_option maxHeartbeats 12800000 in
theorem LinkTells_over (us : List Un) (aa : Option Addr) (n ca : Nat) (w : World) (hn : n = us.length) (ha : UL w.heap.size w aa us) (hac : n ≤ ca) (hma : ∀ u ∈ us, u.2.length ≤ 9223372036854775807) (hn2 : n ≤ 9223372036854775807) (htab : TabS w)
    (hRL : ∀ W, Below w.heap.size w W → Calls Tryd.prog 8 #[.slice aa n ca] W (ToldL us W)) :
    Calls Tryd.prog 3 #[.slice aa n ca] w fun e w' => e = .returned (.bool true) ∧ Below w.heap.size w w' := by
  have LA : Hid (Calls Tryd.prog 7 #[.slice aa n ca] w (ToldL us w)) := by
    have := Link_any us aa ca w ha (by rw [← hn]; exact hac) htab hma (by rw [← hn]; exact hn2)
    rw [← hn] at this
    exact this
  have RL := hidd hRL
  have SM : Hid ((linkF us).1 = 0 → (∀ P ∈ (imgS (defAll us us.length) us).1, P.code.length ≤ 6000) ∧ (imgS (defAll us us.length) us).1.length ≤ 20000 ∧ (defAll us us.length).length ≤ 500 ∧ (stF 0 us).length ≤ 40) := fun h => by
    obtain ⟨a, b, c⟩ := link_small h
    refine ⟨a, b, c, ?_⟩
    rw [stF_len]
    exact (linkF_ok h).1
  clear ha hma hn2 htab hRL hn
  go_enter Tryd.func3, Tryd.ntmps3
  go_wp2_with fail
  refine LA.out.mono ?_
  rintro e W2 ⟨bv, pv, sv, rfl, s3, hbad, hok⟩
  obtain ⟨gs, PP, ss, hgs, hPP, hss, ba, bc, pa, pc, sa, sc, rfl, rfl, rfl, hI, hNL, hsc⟩ := told_image hbad hok
  have SZ : Hid ((∀ P ∈ PP, P.code.length ≤ 6000) ∧ PP.length ≤ 20000 ∧ gs.length ≤ 500 ∧ ss.length ≤ 40) := by
    by_cases h0 : (linkF us).1 = 0
    · obtain ⟨a, b, c, d⟩ := SM.out h0
      rw [hgs, hPP, hss, if_pos h0, if_pos h0, if_pos h0]
      exact ⟨a, b, c, d⟩
    · rw [hgs, hPP, hss, if_neg h0, if_neg h0, if_neg h0]
      exact ⟨by simp, by simp, by simp, by simp⟩
  have HGS := hidd hgs
  have HPP := hidd hPP
  have HSS := hidd hss
  obtain ⟨lf, hlf⟩ : ∃ l, l = linkF us := ⟨_, rfl⟩
  have HLF := hidd hlf
  rw [← hlf]
  unfold fv
  obtain ⟨bn, hbn⟩ : ∃ v, v = gs.length := ⟨_, rfl⟩
  obtain ⟨pn, hpn⟩ : ∃ v, v = PP.length := ⟨_, rfl⟩
  obtain ⟨sn, hsn⟩ : ∃ v, v = ss.length := ⟨_, rfl⟩
  rw [← hbn, ← hpn] at hI SZ ⊢
  rw [← hsn] at hsc SZ ⊢
  have HBN := hidd hbn
  have HPN := hidd hpn
  have HSN := hidd hsn
  have hba := ((Below.refl W2.heap.size W2).alloc (Nat.le_refl _) (.cells #[.slice ba bn bc, .slice pa pn pc, .slice sa sn sc] 27)).alloc (by simp) (.cells #[.int .i64 lf.1, .int .i64 lf.2] 30)
  have n1 : Hid (((W2.alloc (.cells #[.slice ba bn bc, .slice pa pn pc, .slice sa sn sc] 27)).alloc (.cells #[.int .i64 lf.1, .int .i64 lf.2] 30)).heap[W2.heap.size]? = some (.cells #[.slice ba bn bc, .slice pa pn pc, .slice sa sn sc] 27 (0, 0))) := (Below.heap_alloc _ _ _ (by simp)).trans (World.alloc_heap_new W2 _)
  have n2 : Hid (((W2.alloc (.cells #[.slice ba bn bc, .slice pa pn pc, .slice sa sn sc] 27)).alloc (.cells #[.int .i64 lf.1, .int .i64 lf.2] 30)).heap[W2.heap.size + 1]? = some (.cells #[.int .i64 lf.1, .int .i64 lf.2] 30 (0, 0))) := by
    have := World.alloc_heap_new (W2.alloc (.cells #[.slice ba bn bc, .slice pa pn pc, .slice sa sn sc] 27)) (.cells #[.int .i64 lf.1, .int .i64 lf.2] 30)
    show ((W2.alloc (.cells #[.slice ba bn bc, .slice pa pn pc, .slice sa sn sc] 27)).alloc (.cells #[.int .i64 lf.1, .int .i64 lf.2] 30)).heap[W2.heap.size + 1]? = some (.cells #[.int .i64 lf.1, .int .i64 lf.2] 30 (0, 0))
    simpa using this
  have HB3 := hidd (s3.trans (hba.mono s3.size))
  have I1 := hidd (hI.below hba)
  have L1 := hidd (hNL.on hba)
  clear hlf hbad hok hba s3 LA hI hNL hgs hPP hss hbn hpn hsn SM
  go_upto_region 2 with fail
  generalize ((W2.alloc (.cells #[.slice ba bn bc, .slice pa pn pc, .slice sa sn sc] 27)).alloc (.cells #[.int .i64 lf.1, .int .i64 lf.2] 30)) = V at n1 n2 HB3 I1 L1 ⊢
  generalize W2.heap.size = im at n1 n2 ⊢
  go_wp2_with fail
  refine (RL.out V HB3.out).mono ?_
  rintro e W5 ⟨bv, pv, sv, rfl, s3, hbad, hok⟩
  obtain ⟨gs2, PP2, ss2, hgs, hPP, hss, ba2, bc2, pa2, pc2, sa2, sc2, rfl, rfl, rfl, hI, hNL, hsc2⟩ := told_image hbad hok
  rw [← HGS.out] at hgs
  rw [← HPP.out] at hPP
  rw [← HSS.out] at hss
  subst hgs hPP hss
  rw [← HBN.out, ← HPN.out] at hI ⊢
  rw [← HSN.out] at hsc2 ⊢
  rw [← HLF.out]
  unfold fv
  have hba := ((Below.refl W5.heap.size W5).alloc (Nat.le_refl _) (.cells #[.slice ba2 bn bc2, .slice pa2 pn pc2, .slice sa2 sn sc2] 27)).alloc (by simp) (.cells #[.int .i64 lf.1, .int .i64 lf.2] 30)
  have hb5 := s3.trans (hba.mono s3.size)
  have m1 : Hid (((W5.alloc (.cells #[.slice ba2 bn bc2, .slice pa2 pn pc2, .slice sa2 sn sc2] 27)).alloc (.cells #[.int .i64 lf.1, .int .i64 lf.2] 30)).heap[W5.heap.size]? = some (.cells #[.slice ba2 bn bc2, .slice pa2 pn pc2, .slice sa2 sn sc2] 27 (0, 0))) := (Below.heap_alloc _ _ _ (by simp)).trans (World.alloc_heap_new W5 _)
  have m2 : Hid (((W5.alloc (.cells #[.slice ba2 bn bc2, .slice pa2 pn pc2, .slice sa2 sn sc2] 27)).alloc (.cells #[.int .i64 lf.1, .int .i64 lf.2] 30)).heap[W5.heap.size + 1]? = some (.cells #[.int .i64 lf.1, .int .i64 lf.2] 30 (0, 0))) := by
    have := World.alloc_heap_new (W5.alloc (.cells #[.slice ba2 bn bc2, .slice pa2 pn pc2, .slice sa2 sn sc2] 27)) (.cells #[.int .i64 lf.1, .int .i64 lf.2] 30)
    show ((W5.alloc (.cells #[.slice ba2 bn bc2, .slice pa2 pn pc2, .slice sa2 sn sc2] 27)).alloc (.cells #[.int .i64 lf.1, .int .i64 lf.2] 30)).heap[W5.heap.size + 1]? = some (.cells #[.int .i64 lf.1, .int .i64 lf.2] 30 (0, 0))
    simpa using this
  have k1 := hidd ((hb5.block _ (Array.getElem?_eq_some_iff.1 n1.out).1).trans n1.out)
  have k2 := hidd ((hb5.block _ (Array.getElem?_eq_some_iff.1 n2.out).1).trans n2.out)
  have HB6 := hidd (HB3.out.trans (hb5.mono HB3.out.size))
  have I3 := hidd (I1.out.below hb5)
  have L3 := hidd (L1.out.on hb5)
  have I4 := hidd (hI.below hba)
  have L4 := hidd (hNL.on hba)
  clear hbad hok hba hb5 s3 hI hNL RL I1 L1 n1 n2 HB3
  go_upto_region 3 with fail
  generalize ((W5.alloc (.cells #[.slice ba2 bn bc2, .slice pa2 pn pc2, .slice sa2 sn sc2] 27)).alloc (.cells #[.int .i64 lf.1, .int .i64 lf.2] 30)) = W at m1 m2 k1 k2 HB6 I3 L3 I4 L4 ⊢
  generalize W5.heap.size = jm at m1 m2 ⊢
  have SI := hidd (SameImage_any gs2 PP2 ss2 ba pa sa ba2 pa2 sa2 bn bc pn pc sn sc bc2 pc2 sc2 W I3.out I4.out HSN.out L3.out L4.out hsc hsc2 SZ.out.2.2.1 SZ.out.2.1 SZ.out.2.2.2 SZ.out.1)
  have y0 : W.cell? ⟨im + 1, 0, none⟩ = some (.int .i64 lf.1) := (cellO k2.out).trans rfl
  have y1 : W.cell? ⟨im + 1, 1, none⟩ = some (.int .i64 lf.2) := (cellO k2.out).trans rfl
  have u0 : W.cell? ⟨jm + 1, 0, none⟩ = some (.int .i64 lf.1) := (cellO m2.out).trans rfl
  have u1 : W.cell? ⟨jm + 1, 1, none⟩ = some (.int .i64 lf.2) := (cellO m2.out).trans rfl
  have x0 : W.cell? ⟨im, 0, none⟩ = some (.slice ba bn bc) := (cellO k1.out).trans rfl
  have x1 : W.cell? ⟨im, 1, none⟩ = some (.slice pa pn pc) := (cellO k1.out).trans rfl
  have x2 : W.cell? ⟨im, 2, none⟩ = some (.slice sa sn sc) := (cellO k1.out).trans rfl
  have z0 : W.cell? ⟨jm, 0, none⟩ = some (.slice ba2 bn bc2) := (cellO m1.out).trans rfl
  have z1 : W.cell? ⟨jm, 1, none⟩ = some (.slice pa2 pn pc2) := (cellO m1.out).trans rfl
  have z2 : W.cell? ⟨jm, 2, none⟩ = some (.slice sa2 sn sc2) := (cellO m1.out).trans rfl
  go_wp2_with fail
  refine SI.out.mono ?_
  rintro e W7 ⟨rfl, hb7⟩
  have HB7 := hidd (HB6.out.trans (hb7.mono HB6.out.size))
  clear hb7
  go_wp2_with fail
  go_ret
  exact ⟨rfl, HB7.out⟩
end
section
set_option linter.unusedVariables false
open Go.RowKit

theorem LinkTells_walk (us : List Un) (aa : Option Addr) (n ca : Nat) (w : World) (hn : n = us.length) (ha : UL w.heap.size w aa us) (hac : n ≤ ca) (hma : ∀ u ∈ us, u.2.length ≤ 9223372036854775807) (hn2 : n ≤ 9223372036854775807) (htab : TabS w) :
    Calls Tryd.prog 3 #[.slice aa n ca] w fun e w' => e = .returned (.bool true) ∧ Below w.heap.size w w' :=
  LinkTells_over us aa n ca w hn ha hac hma hn2 htab (fun W hb => refLink_any us aa n ca W hn ((ha.below hb).mono hb.size) hac hn2 hma)
end
end Go.Proofs.YtdnbingddbakaaaDoor
