/- Chapter 10: LinkOne, its walk. -/
import Derived.Test.YtdnbingddbakaaaDoorK48
namespace Go.Proofs.YtdnbingddbakaaaDoor
set_option linter.unusedVariables false
set_option linter.unusedSimpArgs false
open Go.RowKit

theorem one_ul (W1 : World) (nm : ByteArray) (PP : List Pro) (pa : Option Addr) (n pc : Nat) (hn : n = PP.length) (hpc : n ≤ pc) (hnm : nm.size ≤ maxLen) (h1 : PL W1.heap.size W1 pa PP) : UL (W1.alloc (.cells #[.string nm, .slice pa n pc] 37)).heap.size (W1.alloc (.cells #[.string nm, .slice pa n pc] 37)) (some ⟨W1.heap.size, 0, none⟩) [(nm, PP)] := by
  have hk := World.alloc_heap_new W1 (.cells #[.string nm, .slice pa n pc] 37)
  have hb := (Below.refl W1.heap.size W1).alloc (Nat.le_refl _) (.cells #[.string nm, .slice pa n pc] 37)
  refine Or.inr ⟨W1.heap.size, 0, rfl, by simp, fun i u hu => ?_⟩
  match i, hu with
  | 0, hu =>
    simp at hu
    subst hu
    exact ⟨pa, pc, (cellO hk).trans rfl, by rw [← hn]; exact (cellO hk).trans rfl, by rw [← hn]; exact hpc, hnm, (h1.below hb).mono hb.size⟩
  | i + 1, hu => simp at hu
theorem flatP_at : ∀ (l : List PE) (i r : Nat) (e : PE), l[i]? = some e → r < 2 → (flatP l)[i * 2 + r]? = e.cells[r]?
  | [], i, r, e, h, _ => by simp at h
  | x :: t, 0, r, e, h, hr => by
    simp at h
    subst h
    rw [flatP_cons, Nat.zero_mul, Nat.zero_add, List.getElem?_append_left (by simp [PE.cells]; exact hr)]
  | x :: t, i + 1, r, e, h, hr => by
    simp at h
    rw [flatP_cons, List.getElem?_append_right (by simp [PE.cells]; omega), show x.cells.length = 2 from rfl, show (i + 1) * 2 + r - 2 = i * 2 + r by omega]
    exact flatP_at t i r e h hr
theorem flatB_at : ∀ (l : List Gl) (i r : Nat) (e : Gl), l[i]? = some e → r < 3 → (l.flatMap bcells)[i * 3 + r]? = (bcells e)[r]?
  | [], i, r, e, h, _ => by simp at h
  | x :: t, 0, r, e, h, hr => by
    simp at h
    subst h
    rw [List.flatMap_cons, Nat.zero_mul, Nat.zero_add, List.getElem?_append_left (by simp [bcells]; exact hr)]
  | x :: t, i + 1, r, e, h, hr => by
    simp at h
    rw [List.flatMap_cons, List.getElem?_append_right (by simp [bcells]; omega), show (bcells x).length = 3 from rfl, show (i + 1) * 3 + r - 3 = i * 3 + r by omega]
    exact flatB_at t i r e h hr
theorem one_def (nm : ByteArray) (PP : List Pro) : defAll [(nm, PP)] [(nm, PP)].length = defGs [] (PP.flatMap Pro.code) := by simp [defAll, allI]
theorem one_img (gs : List Gl) (nm : ByteArray) (PP : List Pro) : imgS gs [(nm, PP)] = (PP.map (placeP gs 0), [0]) := by simp [imgS, imgStep]
theorem one_right {nm : ByteArray} {PP : List Pro} (h : (linkF [(nm, PP)]).1 = 0) : defU [(nm, PP)] 0 (nm, PP) = 0 ∧ Right nm PP := by
  have hz : (fstF (unitE [(nm, PP)]) 0 [(nm, PP)].length).1 = 0 := by
    unfold linkF at h
    rw [if_neg (by simp)] at h
    by_cases h0 : (fstF (unitE [(nm, PP)]) 0 [(nm, PP)].length).1 = 0
    · exact h0
    · rw [if_neg h0] at h; exact absurd h h0
  have h1 := fstF_zero _ 0 hz 0 (Nat.le_refl _) (by simp)
  rw [unitE_at (u := (nm, PP)) rfl] at h1
  exact ⟨h1, right_of (defU_right h1)⟩
set_option maxRecDepth 100000 in
set_option maxHeartbeats 6400000 in
theorem LinkOne_walk (nm : ByteArray) (PP : List Pro) (pa : Option Addr) (n pc : Nat) (w : World) (hn : n = PP.length) (hnm : nm.size ≤ maxLen) (hl : PL w.heap.size w pa PP) (hpc : n ≤ pc) (hmax : n ≤ 9223372036854775807) (htab : TabS w) :
    Calls Tryd.prog 6 #[.agg #[.string nm, .slice pa n pc]] w fun e w' => e = .returned (.bool true) ∧ Below w.heap.size w w' := by
  have hba := (Below.refl w.heap.size w).alloc (Nat.le_refl _) (.cells #[.string nm, .slice pa n pc] 37)
  have HUB := hidd (World.alloc_heap_new w (.cells #[.string nm, .slice pa n pc] 37))
  have AL := hidd (alive10_any _ (htab.below hba))
  have HBA := hidd hba
  have HN := hidd hn
  have HL := hidd hl
  have HTAB := hidd htab
  have HNM := hidd hnm
  clear hba hn hl htab hnm
  go_enter Tryd.func6, Tryd.ntmps6
  go_upto_region 1 with fail
  generalize w.alloc (.cells #[.string nm, .slice pa n pc] 37) = V at HUB AL HBA ⊢
  obtain ⟨ub, hub⟩ : ∃ u, u = w.heap.size := ⟨_, rfl⟩
  rw [← hub] at HUB ⊢
  have HUW := hidd hub
  clear hub
  go_wp2_with fail
  refine AL.out.mono ?_
  rintro e W1 ⟨rfl, s1⟩
  have b1 := HBA.out.trans (s1.mono HBA.out.size)
  have HU1 := hidd ((s1.block _ (Array.getElem?_eq_some_iff.1 HUB.out).1).trans HUB.out)
  have u0 : W1.cell? ⟨ub, 0, none⟩ = some (.string nm) := (cellO HU1.out).trans rfl
  have u1 : W1.cell? ⟨ub, 1, none⟩ = some (.slice pa n pc) := (cellO HU1.out).trans rfl
  have hb2 := (Below.refl W1.heap.size W1).alloc (Nat.le_refl _) (.cells #[.string nm, .slice pa n pc] 37)
  have b2 := b1.trans (hb2.mono b1.size)
  have LK0 := Link_any [(nm, PP)] (some ⟨W1.heap.size, 0, none⟩) 1 (W1.alloc (.cells #[.string nm, .slice pa n pc] 37)) (one_ul W1 nm PP pa n pc HN.out hpc HNM.out ((HL.out.below b1).mono b1.size)) (by simp) (HTAB.out.below b2) (fun u hu => by simp at hu; subst hu; rw [← HN.out]; exact hmax) (by simp)
  rw [show [(nm, PP)].length = 1 from rfl] at LK0
  have LK := hidd LK0
  have HU2 := hidd ((hb2.block _ (Array.getElem?_eq_some_iff.1 HU1.out).1).trans HU1.out)
  have HB2 := hidd b2
  clear s1 b1 hb2 b2 LK0 HU1 AL HUB HBA
  go_wp2_with fail
  clear u0 u1
  refine LK.out.mono ?_
  rintro e W2 ⟨bv, pv, sv, rfl, s3, hbad, hok⟩
  have HLF0 : Hid (∃ l, l = linkF [(nm, PP)]) := ⟨_, rfl⟩
  obtain ⟨lf, hlf⟩ := HLF0.out
  have HLF := hidd hlf
  rw [← hlf] at hbad hok ⊢
  unfold fv
  have HU3 := hidd ((s3.block _ (Array.getElem?_eq_some_iff.1 HU2.out).1).trans HU2.out)
  have HB3 := hidd (HB2.out.trans (s3.mono HB2.out.size))
  clear hlf HLF0 LK s3 HU2 HB2
  by_cases l0 : lf.1 = 0
  · obtain ⟨ps, ss, h1, h2, h3, h4, h5⟩ := hok l0
    obtain ⟨hdu, hrt⟩ := one_right (by rw [← HLF.out]; exact l0)
    have RT := hidd hrt
    have HDU := hidd hdu
    rw [one_def] at h1 h4
    obtain ⟨xs, hxs⟩ : ∃ l, l = PP.flatMap Pro.code := ⟨_, rfl⟩
    rw [← hxs] at h1 h4
    obtain ⟨gs, hgs⟩ : ∃ g, g = defGs [] xs := ⟨_, rfl⟩
    rw [← hgs] at h1 h4
    rw [one_img] at h4
    have e1 : ss = [0] := congrArg Prod.snd h4
    have e2 : ps.map PE.pro = PP.map (placeP gs 0) := congrArg Prod.fst h4
    subst e1
    have hpn : ps.length = n := by have := congrArg List.length e2; simp at this; rw [this, HN.out]
    obtain ⟨ba, bc, rfl, hbc⟩ := own_slice h1
    obtain ⟨va, vc, rfl, hvc⟩ := own_slice h2
    obtain ⟨sg, sc, rfl, hsc, _, hsg, _, hscell⟩ := own_at h3 (by simp)
    rw [hpn] at h2 hvc ⊢
    have HXS := hidd hxs
    have HGS := hidd hgs
    have HPS := hidd (And.intro e2 hpn)
    obtain ⟨gn, hgn⟩ : ∃ n, n = gs.length := ⟨_, rfl⟩
    have HGN := hidd hgn
    rw [← hgn] at h1 hbc ⊢
    have HP2 := hidd h2
    have HG1 := hidd h1
    have HOK := hidd h5
    have k0 := hscell 0 _ rfl
    have hba := ((Below.refl W2.heap.size W2).alloc (Nat.le_refl _) (.cells #[.slice ba gn bc, .slice va n vc, .slice (some ⟨sg, 0, none⟩) 1 sc] 27)).alloc (by simp) (.cells #[.int .i64 lf.1, .int .i64 lf.2] 30)
    have k1 := (hba.cell (p := ⟨sg, 0, none⟩) hsg).trans k0
    have n1 : ((W2.alloc (.cells #[.slice ba gn bc, .slice va n vc, .slice (some ⟨sg, 0, none⟩) 1 sc] 27)).alloc (.cells #[.int .i64 lf.1, .int .i64 lf.2] 30)).heap[W2.heap.size]? = some (.cells #[.slice ba gn bc, .slice va n vc, .slice (some ⟨sg, 0, none⟩) 1 sc] 27 (0, 0)) := (Below.heap_alloc _ _ _ (by simp)).trans (World.alloc_heap_new W2 _)
    have n2 : ((W2.alloc (.cells #[.slice ba gn bc, .slice va n vc, .slice (some ⟨sg, 0, none⟩) 1 sc] 27)).alloc (.cells #[.int .i64 lf.1, .int .i64 lf.2] 30)).heap[W2.heap.size + 1]? = some (.cells #[.int .i64 lf.1, .int .i64 lf.2] 30 (0, 0)) := by
      have := World.alloc_heap_new (W2.alloc (.cells #[.slice ba gn bc, .slice va n vc, .slice (some ⟨sg, 0, none⟩) 1 sc] 27)) (.cells #[.int .i64 lf.1, .int .i64 lf.2] 30)
      simpa using this
    have HBI := hidd hba
    have hn5 : n ≤ 500 := by rw [HN.out]; exact RT.out.n500
    have l0' : (lf.1 != 0) = false := by rw [l0]; rfl
    clear l0 hok hbad h1 h2 h3 h4 h5 e2 hscell k0 hba hxs hgs hgn hdu hrt
    go_upto_region 4 with fail
    generalize ((W2.alloc (.cells #[.slice ba gn bc, .slice va n vc, .slice (some ⟨sg, 0, none⟩) 1 sc] 27)).alloc (.cells #[.int .i64 lf.1, .int .i64 lf.2] 30)) = V5 at k1 n1 n2 HBI ⊢
    obtain ⟨im, him⟩ : ∃ u, u = W2.heap.size := ⟨_, rfl⟩
    have HIMW := hidd him
    rw [← him] at n1 n2 ⊢
    clear him
    have HIM := hidd n1
    have HU5 := hidd ((HBI.out.block _ (Array.getElem?_eq_some_iff.1 HU3.out).1).trans HU3.out)
    have y0 : V5.cell? ⟨im + 1, 0, none⟩ = some (.int .i64 lf.1) := (cellO n2).trans rfl
    have y1 : V5.cell? ⟨im, 1, none⟩ = some (.slice va n vc) := (cellO n1).trans rfl
    have y2 : V5.cell? ⟨im, 2, none⟩ = some (.slice (some ⟨sg, 0, none⟩) 1 sc) := (cellO n1).trans rfl
    have u1 : V5.cell? ⟨ub, 1, none⟩ = some (.slice pa n pc) := (cellO HU5.out).trans rfl
    obtain ⟨D, hD⟩ : ∃ D : Nat → Nat, D = fun k => (defGs [] (xs.take k)).length := ⟨_, rfl⟩
    have HDD := hidd hD
    have hDl : ∀ k, D k ≤ 3000000 := fun k => by
      rw [hD]
      have g1 := defGs_len (xs.take k) []
      have g2 : (xs.take k).length ≤ xs.length := by rw [List.length_take]; omega
      have g3 := code_len RT.out.c6
      rw [← HXS.out] at g3
      have g4 := RT.out.n500
      simp only [List.length_nil] at g1
      show (defGs [] (xs.take k)).length ≤ 3000000
      omega
    have HDL := hidd hDl
    clear hD hDl n1 n2
    have HD0 : Hid (D 0 = 0) := by rw [HDD.out]; rfl
    go_wp2_with fail
    clear y0 y1 y2 u1 k1
    go_loopw [44, 5] (fun i s5 wr => ∃ p : Nat, p ≤ n ∧ i = .int .i64 p ∧ Hid (s5 = .int .i64 (D ((PP.take p).flatMap Pro.code).length) ∧ Below V5.heap.size V5 wr)) (fun i _ _ => n - (intOf i).toNat)
    case atStart => exact ⟨0, Nat.zero_le _, rfl, by simp [HD0.out], Below.refl _ _⟩
    case round =>
    obtain ⟨p, hp, rfl, HR⟩ := hrel
    obtain ⟨hs5, hbr⟩ := HR.out
    subst hs5
    have HBR := hidd hbr
    clear hbr HR
    obtain ⟨K0, hK0⟩ : ∃ k, k = ((PP.take p).flatMap Pro.code).length := ⟨_, rfl⟩
    have HK0 := hidd hK0
    rw [← hK0]
    clear hK0
    have hu5 := (Array.getElem?_eq_some_iff.1 HU5.out).1
    have u1 : wr.cell? ⟨ub, 1, none⟩ = some (.slice pa n pc) := (HBR.out.cell (p := ⟨ub, 1, none⟩) hu5).trans ((cellO HU5.out).trans rfl)
    by_cases hlt : p < n
    · have hpP : p < PP.length := by rw [← HN.out]; exact hlt
      obtain ⟨P, hP⟩ : ∃ P, PP[p]? = some P := ⟨_, List.getElem?_eq_getElem hpP⟩
      have HP := hidd hP
      have HPM := hidd (List.mem_of_getElem? hP)
      obtain ⟨pb, po, rfl, hpb, hallp⟩ := HL.out.at hP
      obtain ⟨ca, cc, s0, s1, hcc, hcl⟩ := hallp p _ hP
      have HCL := hidd hcl
      have b05 := HB3.out.trans (HBI.out.mono HB3.out.size)
      have HB05 := hidd b05
      have s1' := (HBR.out.cell (p := ⟨pb, po + p * 2 + 1, none⟩) (Nat.lt_of_lt_of_le hpb b05.size)).trans ((b05.cell (p := ⟨pb, po + p * 2 + 1, none⟩) hpb).trans s1)
      obtain ⟨cn, hcn⟩ : ∃ n, n = P.code.length := ⟨_, rfl⟩
      have HCN := hidd hcn
      have hc6 : cn ≤ 6000 := by rw [hcn]; exact RT.out.c6 P HPM.out
      rw [← hcn] at s1' hcc
      obtain ⟨pe, hpe⟩ : ∃ e, ps[p]? = some e := ⟨_, List.getElem?_eq_getElem (by rw [HPS.out.2]; exact hlt)⟩
      have hpro : pe.es.map IE.i = P.code.map (placeI gs 0) := by
        have h := congrArg (fun l => l[p]?) HPS.out.1
        simp only [List.getElem?_map, hpe, hP] at h
        exact congrArg Pro.code (Option.some.inj h)
      have hel : pe.es.length = cn := by have := congrArg List.length hpro; simp at this; rw [this, hcn]
      obtain ⟨pg, vc', hva, _, _, hpg, _, hpcell⟩ := own_at HP2.out (by omega)
      have hva' : va = some ⟨pg, 0, none⟩ := by injection hva
      subst hva'
      have hpc3 : W2.cell? ⟨pg, p * 2 + 1, none⟩ = some (.slice pe.a cn pe.c) := by
        refine hpcell (p * 2 + 1) _ ?_
        rw [flatP_at ps p 1 pe hpe (by decide), ← hel]
        rfl
      have hpg5 : pg < V5.heap.size := Nat.lt_of_lt_of_le hpg HBI.out.size
      have q5 := (HBI.out.cell (p := ⟨pg, p * 2 + 1, none⟩) hpg).trans hpc3
      obtain ⟨hcap, hcode, _⟩ := HOK.out pe (List.mem_of_getElem? hpe)
      have HCODE := hidd hcode
      have HPRO := hidd hpro
      have HEL := hidd hel
      have Q5 := hidd q5
      rw [hel] at hcap
      have him5 := (Array.getElem?_eq_some_iff.1 HIM.out).1
      clear hcn s0 s1 hcl hallp hP hpc3 hpcell q5 hcode hpro hel b05 hpe
      go_wp2_with fail
      clear s1' u1
      go_loopw [54, 5] (fun i s5 wz => ∃ k : Nat, k ≤ cn ∧ i = .int .i64 k ∧ Hid (s5 = .int .i64 (D (K0 + k)) ∧ Below V5.heap.size V5 wz)) (fun i _ _ => cn - (intOf i).toNat)
      case atStart => exact ⟨0, Nat.zero_le _, rfl, rfl, HBR.out⟩
      case round =>
      obtain ⟨k, hk, rfl, HK⟩ := hrel
      obtain ⟨hs5, hbz⟩ := HK.out
      subst hs5
      have HBZ := hidd hbz
      clear hbz HK
      by_cases hkl : k < cn
      · have hkc : k < P.code.length := by rw [← HCN.out]; exact hkl
        obtain ⟨x, hx⟩ : ∃ x, P.code[k]? = some x := ⟨_, List.getElem?_eq_getElem hkc⟩
        have HX := hidd hx
        have HXK : Hid (xs[K0 + k]? = some x) := by rw [HXS.out, HK0.out]; exact flat_idx HP.out hx
        obtain ⟨ib, io, rfl, hib, hins⟩ : ∃ b o, ca = some ⟨b, o, none⟩ ∧ b < w.heap.size ∧ ∀ i x, P.code[i]? = some x → ∃ qa qc, IL w.heap.size w b (o + i * 11) x qa qc := by
          rcases HCL.out with h | h
          · rw [h] at hkc; simp at hkc
          · exact h
        obtain ⟨xa, xc, hil⟩ := hins k x hx
        have hilz := hil.below hib (HB05.out.trans (HBZ.out.mono HB05.out.size))
        obtain ⟨e, he⟩ : ∃ e, pe.es[k]? = some e := ⟨_, List.getElem?_eq_getElem (by rw [HEL.out]; exact hkl)⟩
        have hyi : e.i = placeI gs 0 x := by
          have h := congrArg (fun l => l[k]?) HPRO.out
          simp only [List.getElem?_map, he, hx] at h
          exact Option.some.inj h
        obtain ⟨cb, hpa, hcb, hcell⟩ : ∃ b, pe.a = some ⟨b, 0, none⟩ ∧ ((W1.alloc (.cells #[.string nm, .slice (some ⟨pb, po, none⟩) n pc] 37)).heap.size ≤ b ∧ b < W2.heap.size) ∧ ∀ j u, (flatI pe.es)[j]? = some u → W2.cell? ⟨b, j, none⟩ = some u := by
          rcases HCODE.out with h | h
          · rw [h] at he; simp at he
          · exact h
        obtain ⟨y, hy⟩ : ∃ y, y = e.i := ⟨_, rfl⟩
        obtain ⟨ya, hya⟩ : ∃ v, v = e.qa := ⟨_, rfl⟩
        obtain ⟨yc, hyq⟩ : ∃ v, v = e.qc := ⟨_, rfl⟩
        have hyc : ∀ U, Below V5.heap.size V5 U → ∀ i, i < 11 → ∀ v, (ic y (.slice ya y.quote.kids.length yc)).toList[i]? = some v → U.cell? ⟨cb, k * 11 + i, none⟩ = some v := fun U hU i hi v hv => by
          refine (hU.cell (p := ⟨cb, k * 11 + i, none⟩) (Nat.lt_of_lt_of_le hcb.2 HBI.out.size)).trans ((HBI.out.cell (p := ⟨cb, k * 11 + i, none⟩) hcb.2).trans (hcell _ _ ?_))
          rw [flatI_at pe.es k i e he hi, ← hv, hy, hya, hyq]
          rfl
        have a0 := hilz.c0
        have a1 := hilz.c1
        have a2 := hilz.c2
        have a3 := hilz.c3
        have a4 := hilz.c4
        have a5 := hilz.c5
        have a6 := hilz.c6
        have a7 := hilz.c7
        have a8 := hilz.c8
        have a9 := hilz.c9
        have a10 := hilz.c10
        obtain ⟨cq, hcq⟩ : ∃ c, c = pe.c := ⟨_, rfl⟩
        have HQ6 : Hid (V5.cell? ⟨pg, p * 2 + 1, none⟩ = some (.slice (some ⟨cb, 0, none⟩) cn cq)) := by rw [← hpa, hcq]; exact Q5.out
        rw [← hcq] at hcap
        have HYI : Hid (y = placeI gs 0 x) := by rw [hy]; exact hyi
        have HYC0 := hidd hyc
        have hb51 := (Below.refl wr.heap.size wr).alloc (Nat.le_refl _) (.cells #[.int .i64 x.op, .int .i64 x.a, .int .i64 x.n, .string x.lib, .string x.own, .int .i64 x.quote.kind, .int .i64 x.quote.n, .string x.quote.name, .int .i64 x.quote.stamp, .int .i64 x.quote.lib, .slice xa x.quote.kids.length xc] 51)
        have HB51 := hidd (HBZ.out.trans (hb51.mono HBZ.out.size))
        have XBX := hidd (World.alloc_heap_new wr (.cells #[.int .i64 x.op, .int .i64 x.a, .int .i64 x.n, .string x.lib, .string x.own, .int .i64 x.quote.kind, .int .i64 x.quote.n, .string x.quote.name, .int .i64 x.quote.stamp, .int .i64 x.quote.lib, .slice xa x.quote.kids.length xc] 51))
        clear hcq hil hins hilz hyi hyc hcell hpa he hy hya hyq hx hb51
        go_upto_region 15 with fail
        clear a0 a1 a2 a3 a4 a5 a6 a7 a8 a9 a10
        generalize wr.alloc (.cells #[.int .i64 x.op, .int .i64 x.a, .int .i64 x.n, .string x.lib, .string x.own, .int .i64 x.quote.kind, .int .i64 x.quote.n, .string x.quote.name, .int .i64 x.quote.stamp, .int .i64 x.quote.lib, .slice xa x.quote.kids.length xc] 51) = V51 at HB51 XBX ⊢
        obtain ⟨xb, hxb⟩ : ∃ u, u = wr.heap.size := ⟨_, rfl⟩
        rw [← hxb] at XBX ⊢
        clear hxb
        have HYC := hidd (HYC0.out V51 HB51.out)
        have b0 : V51.cell? ⟨cb, k * 11, none⟩ = some (.int .i64 y.op) := HYC.out 0 (by decide) _ rfl
        have b1 : V51.cell? ⟨cb, k * 11 + 1, none⟩ = some (.int .i64 y.a) := HYC.out 1 (by decide) _ rfl
        have b2 : V51.cell? ⟨cb, k * 11 + 2, none⟩ = some (.int .i64 y.n) := HYC.out 2 (by decide) _ rfl
        have b3 : V51.cell? ⟨cb, k * 11 + 3, none⟩ = some (.string y.lib) := HYC.out 3 (by decide) _ rfl
        have b4 : V51.cell? ⟨cb, k * 11 + 4, none⟩ = some (.string y.own) := HYC.out 4 (by decide) _ rfl
        have b5 : V51.cell? ⟨cb, k * 11 + 5, none⟩ = some (.int .i64 y.quote.kind) := HYC.out 5 (by decide) _ rfl
        have b6 : V51.cell? ⟨cb, k * 11 + 6, none⟩ = some (.int .i64 y.quote.n) := HYC.out 6 (by decide) _ rfl
        have b7 : V51.cell? ⟨cb, k * 11 + 7, none⟩ = some (.string y.quote.name) := HYC.out 7 (by decide) _ rfl
        have b8 : V51.cell? ⟨cb, k * 11 + 8, none⟩ = some (.int .i64 y.quote.stamp) := HYC.out 8 (by decide) _ rfl
        have b9 : V51.cell? ⟨cb, k * 11 + 9, none⟩ = some (.int .i64 y.quote.lib) := HYC.out 9 (by decide) _ rfl
        have b10 : V51.cell? ⟨cb, k * 11 + 10, none⟩ = some (.slice ya y.quote.kids.length yc) := HYC.out 10 (by decide) _ rfl
        have q6 := (HB51.out.cell (p := ⟨pg, p * 2 + 1, none⟩) hpg5).trans HQ6.out
        have y1 : V51.cell? ⟨im, 1, none⟩ = some (.slice (some ⟨pg, 0, none⟩) n vc) := (HB51.out.cell (p := ⟨im, 1, none⟩) him5).trans ((cellO HIM.out).trans rfl)
        have hb6 := (Below.refl V51.heap.size V51).alloc (Nat.le_refl _) (.cells #[.int .i64 y.op, .int .i64 y.a, .int .i64 y.n, .string y.lib, .string y.own, .int .i64 y.quote.kind, .int .i64 y.quote.n, .string y.quote.name, .int .i64 y.quote.stamp, .int .i64 y.quote.lib, .slice ya y.quote.kids.length yc] 51)
        have HBN := hidd (HB51.out.trans (hb6.mono HB51.out.size))
        have hm1 := (hb6.block _ (Array.getElem?_eq_some_iff.1 XBX.out).1).trans XBX.out
        have hm2 := World.alloc_heap_new V51 (.cells #[.int .i64 y.op, .int .i64 y.a, .int .i64 y.n, .string y.lib, .string y.own, .int .i64 y.quote.kind, .int .i64 y.quote.n, .string y.quote.name, .int .i64 y.quote.stamp, .int .i64 y.quote.lib, .slice ya y.quote.kids.length yc] 51)
        clear hb6
        go_upto_region 16 with fail
        clear q6 y1 b0 b1 b2 b3 b4 b5 b6 b7 b8 b9 b10
        generalize V51.alloc (.cells #[.int .i64 y.op, .int .i64 y.a, .int .i64 y.n, .string y.lib, .string y.own, .int .i64 y.quote.kind, .int .i64 y.quote.n, .string y.quote.name, .int .i64 y.quote.stamp, .int .i64 y.quote.lib, .slice ya y.quote.kids.length yc] 51) = V6 at HBN hm1 hm2 ⊢
        obtain ⟨yb, hyb⟩ : ∃ u, u = V51.heap.size := ⟨_, rfl⟩
        rw [← hyb] at hm2 ⊢
        clear hyb
        have x0 : V6.cell? ⟨xb, 0, none⟩ = some (.int .i64 x.op) := (cellO hm1).trans rfl
        have x4 : V6.cell? ⟨xb, 4, none⟩ = some (.string x.own) := (cellO hm1).trans rfl
        have z0 : V6.cell? ⟨yb, 0, none⟩ = some (.int .i64 x.op) := by rw [← (place_op gs 0 x).1, ← HYI.out]; exact (cellO hm2).trans rfl
        have z3 : V6.cell? ⟨yb, 3, none⟩ = some (.string ⟨#[]⟩) := by rw [← (place_op gs 0 x).2.1, ← HYI.out]; exact (cellO hm2).trans rfl
        have z1 : V6.cell? ⟨yb, 1, none⟩ = some (.int .i64 y.a) := (cellO hm2).trans rfl
        have z4 : V6.cell? ⟨yb, 4, none⟩ = some (.string y.own) := (cellO hm2).trans rfl
        clear hm1 hm2
        by_cases h13 : x.op = 13
        · obtain ⟨i, g1, g2, g3, g4, g5⟩ := def_number HXK.out h13
          have hya : y.a = (i : Int) := by rw [HYI.out, place_def gs 0 h13, HGS.out, g1]; rfl
          have hyo : y.own = ⟨#[]⟩ := by rw [HYI.out]; exact (place_op gs 0 x).2.2 (by omega)
          have hln : x.lib = nm := def_name (us := [(nm, PP)]) (j := 0) (u := (nm, PP)) HDU.out (k := K0 + k) (by show (PP.flatMap Pro.code)[K0 + k]? = some x; rw [← HXS.out]; exact HXK.out) h13
          rw [hya] at z1
          rw [hyo] at z4
          rw [h13] at x0 z0
          rw [← HGS.out, ← HGN.out] at g2
          rw [← HGS.out] at g3
          obtain ⟨Dk, hDk⟩ : ∃ d, d = D (K0 + k) := ⟨_, rfl⟩
          have g4' : i ≤ Dk := by rw [hDk, HDD.out]; exact g4
          have g5' : D (K0 + k + 1) = if i = Dk then Dk + 1 else Dk := by rw [hDk, HDD.out]; exact g5
          have hDk3 : Dk ≤ 3000000 := by rw [hDk]; exact HDL.out _
          have HG5 := hidd g5'
          obtain ⟨bg, bc', hva, _, _, hbg, _, hbcell⟩ := own_at HG1.out (by omega)
          have hba' : ba = some ⟨bg, 0, none⟩ := by injection hva
          subst hba'
          have hbg5 : bg < V5.heap.size := Nat.lt_of_lt_of_le hbg HBI.out.size
          have w1 : V6.cell? ⟨bg, i * 3 + 1, none⟩ = some (.string nm) := (HBN.out.cell (p := ⟨bg, i * 3 + 1, none⟩) hbg5).trans ((HBI.out.cell (p := ⟨bg, i * 3 + 1, none⟩) hbg).trans (hbcell _ _ (by rw [flatB_at gs i 1 _ g3 (by decide), ← hln]; rfl)))
          have w2 : V6.cell? ⟨bg, i * 3 + 2, none⟩ = some (.string x.own) := (HBN.out.cell (p := ⟨bg, i * 3 + 2, none⟩) hbg5).trans ((HBI.out.cell (p := ⟨bg, i * 3 + 2, none⟩) hbg).trans (hbcell _ _ (by rw [flatB_at gs i 2 _ g3 (by decide)]; rfl)))
          have w3 : V6.cell? ⟨im, 0, none⟩ = some (.slice (some ⟨bg, 0, none⟩) gn bc) := (HBN.out.cell (p := ⟨im, 0, none⟩) him5).trans ((cellO HIM.out).trans rfl)
          have w4 : V6.cell? ⟨ub, 0, none⟩ = some (.string nm) := (HBN.out.cell (p := ⟨ub, 0, none⟩) hu5).trans ((cellO HU5.out).trans rfl)
          rw [← hDk]
          have hgn5 : gn ≤ 3000000 := by
            have := HDL.out xs.length
            rw [HDD.out] at this
            have h2 : (defGs [] (xs.take xs.length)).length ≤ 3000000 := this
            rw [List.take_length, ← HGS.out, ← HGN.out] at h2
            exact h2
          generalize x.own = xo at x4 w2
          clear g1 g3 g4 g5 g5' hya hyo hln hva hbcell hDk h13
          have hq1 : decide ((i : Int) > (Dk : Int)) = false := by simp; omega
          have hq2 : decide ((i : Int) ≥ (gn : Int)) = false := by simp; omega
          have hq3 : decide ((Dk : Int) < (i : Int)) = false := by simp; omega
          have hq4 : decide ((gn : Int) ≤ (i : Int)) = false := by simp; omega
          go_upto_region 19 with fail
          go_quiet (fail)
          have hdw := below_drewN (Below.refl V6.heap.size V6) nq
          have HBM := hidd (HBN.out.trans (hdw.mono HBN.out.size))
          have z1' := (hdw.cell (p := ⟨yb, 1, none⟩) (World.block_lt_of_cell? _ _ z1)).trans z1
          clear hdw x0 x4 z0 z3 z1 z4 w1 w2 w3 w4 HBN
          generalize V6.drewN nq = V7 at HBM z1' ⊢
          by_cases hiD : i = Dk
          · subst hiD
            have hnx := HG5.out
            rw [if_pos rfl] at hnx
            have HNX := hidd hnx
            clear hnx
            go_wp2_with fail
            go_roundw
            case rel => exact ⟨k + 1, by omega, by go_num, by rw [← Nat.add_assoc, HNX.out]; go_num, HBM.out⟩
            case measure => simp [intOf]; omega
          · have hnx := HG5.out
            rw [if_neg hiD] at hnx
            have HNX := hidd hnx
            clear hnx
            have hne : ((i : Int) == (Dk : Int)) = false := by simp; omega
            go_wp2_with fail
            go_roundw
            case rel => exact ⟨k + 1, by omega, by go_num, by rw [← Nat.add_assoc, HNX.out], HBM.out⟩
            case measure => simp [intOf]; omega
        · have hdn : D (K0 + k + 1) = D (K0 + k) := by rw [HDD.out]; show (defGs [] (xs.take (K0 + k + 1))).length = _; rw [def_else HXK.out h13]
          have HDN := hidd hdn
          have h13' : (x.op != 13) = true := by simpa using h13
          by_cases h6 : x.op = 6
          · have h13a : (6 : Int) ≠ 13 := by decide
            rw [h6] at x0 z0
            by_cases hyo : y.own = ⟨#[]⟩
            · rw [hyo] at z4
              clear hdn hyo h6 h13 h13' h13a
              go_wp2_with fail
              go_roundw
              case rel => exact ⟨k + 1, by omega, by go_num, by rw [← Nat.add_assoc, HDN.out], HBN.out⟩
              case measure => simp [intOf]; omega
            · have hq2 : (y.own.toList == (⟨#[]⟩ : ByteArray).toList) = false := beqS_ne hyo
              have hq : (y.own.toList != (⟨#[]⟩ : ByteArray).toList) = true := by simp only [bne, hq2, Bool.not_false]
              generalize y.own = yo at z4 hq hq2
              clear hdn hyo h6 h13 h13' h13a
              go_wp2_with fail
              all_goals
                go_roundw
                case rel => exact ⟨k + 1, by omega, by go_num, by rw [← Nat.add_assoc, HDN.out], HBN.out⟩
                case measure => simp [intOf]; omega
          · have hyo : y.own = ⟨#[]⟩ := by rw [HYI.out]; exact (place_op gs 0 x).2.2 h6
            rw [hyo] at z4
            clear hdn hyo h6 h13
            go_wp2_with fail
            go_roundw
            case rel => exact ⟨k + 1, by omega, by go_num, by rw [← Nat.add_assoc, HDN.out], HBN.out⟩
            case measure => simp [intOf]; omega
      · obtain rfl : k = cn := by omega
        have hKE : K0 + k = ((PP.take (p + 1)).flatMap Pro.code).length := by rw [flat_next HP.out, HK0.out, HCN.out]
        have HKE := hidd hKE
        clear hKE
        go_wp2_with fail
        go_roundw
        case rel => exact ⟨p + 1, by omega, by go_num, by rw [HKE.out], HBZ.out⟩
        case measure => simp [intOf]; omega
    · obtain rfl : p = n := by omega
      have hKE : D K0 = gn := by rw [HK0.out, List.take_of_length_le (by rw [HN.out]; exact Nat.le_refl _), HDD.out, HGN.out, HGS.out, ← HXS.out]; simp
      have y9 : wr.cell? ⟨im, 0, none⟩ = some (.slice ba gn bc) := (HBR.out.cell (p := ⟨im, 0, none⟩) (Array.getElem?_eq_some_iff.1 HIM.out).1).trans ((cellO HIM.out).trans rfl)
      rw [hKE]
      clear hKE u1
      go_wp2_with fail
      go_ret
      exact ⟨rfl, HB3.out.trans ((HBI.out.trans (HBR.out.mono HBI.out.size)).mono HB3.out.size)⟩
  · obtain ⟨rfl, rfl, rfl⟩ := hbad l0
    have l0' : (lf.1 != 0) = true := by simpa using l0
    clear hok hbad
    have n2 : ((W2.alloc (.cells #[.slice none 0 0, .slice none 0 0, .slice none 0 0] 27)).alloc (.cells #[.int .i64 lf.1, .int .i64 lf.2] 30)).heap[W2.heap.size + 1]? = some (.cells #[.int .i64 lf.1, .int .i64 lf.2] 30 (0, 0)) := by
      have := World.alloc_heap_new (W2.alloc (.cells #[.slice none 0 0, .slice none 0 0, .slice none 0 0] 27)) (.cells #[.int .i64 lf.1, .int .i64 lf.2] 30)
      simpa using this
    have hb0 := ((Below.refl W2.heap.size W2).alloc (Nat.le_refl _) (.cells #[.slice none 0 0, .slice none 0 0, .slice none 0 0] 27)).alloc (by simp) (.cells #[.int .i64 lf.1, .int .i64 lf.2] 30)
    have HB0 := hidd hb0
    clear hb0
    go_upto_region 4 with fail
    generalize ((W2.alloc (.cells #[.slice none 0 0, .slice none 0 0, .slice none 0 0] 27)).alloc (.cells #[.int .i64 lf.1, .int .i64 lf.2] 30)) = V4 at n2 HB0 ⊢
    have y0 : V4.cell? ⟨W2.heap.size + 1, 0, none⟩ = some (.int .i64 lf.1) := (cellO n2).trans rfl
    go_wp2_with fail
    go_ret
    exact ⟨rfl, HB3.out.trans (HB0.out.mono HB3.out.size)⟩
end Go.Proofs.YtdnbingddbakaaaDoor
