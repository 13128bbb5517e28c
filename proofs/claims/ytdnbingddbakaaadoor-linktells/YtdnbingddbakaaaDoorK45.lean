/- Chapter 10's laws: LinkAhead, its walk. -/
import Derived.Test.YtdnbingddbakaaaDoorK42
import Derived.Test.YtdnbingddbakaaaDoorK44
namespace Go.Proofs.YtdnbingddbakaaaDoor
set_option linter.unusedVariables false
set_option linter.unusedSimpArgs false
open Go.RowKit

theorem img_small (gs : List Gl) : ∀ (us : List Un) (acc : List Pro × List Int), (∀ u ∈ us, u.2.length ≤ 500 ∧ ∀ P ∈ u.2, P.code.length ≤ 6000) → (∀ P ∈ acc.1, P.code.length ≤ 6000) →
    (∀ P ∈ (us.foldl (imgStep gs) acc).1, P.code.length ≤ 6000) ∧ (us.foldl (imgStep gs) acc).1.length ≤ acc.1.length + us.length * 500
  | [], acc, _, h => ⟨h, by simp⟩
  | u :: r, acc, hu, h => by
    have h1 := hu u (by simp)
    obtain ⟨a, b⟩ := img_small gs r (imgStep gs acc u) (fun v hv => hu v (by simp [hv])) (fun P hP => by
      unfold imgStep at hP
      rcases List.mem_append.1 hP with hP | hP
      · exact h P hP
      · obtain ⟨Q, hQ, rfl⟩ := List.mem_map.1 hP
        simp only [placeP, List.length_map]
        exact h1.2 Q hQ)
    rw [List.foldl_cons]
    refine ⟨a, ?_⟩
    have e : (imgStep gs acc u).1.length = acc.1.length + u.2.length := by simp [imgStep]
    rw [e] at b
    rw [List.length_cons, Nat.succ_mul]
    omega
theorem link_small {us : List Un} (h : (linkF us).1 = 0) : (∀ P ∈ (imgS (defAll us us.length) us).1, P.code.length ≤ 6000) ∧ (imgS (defAll us us.length) us).1.length ≤ 20000 ∧ (defAll us us.length).length ≤ 500 := by
  obtain ⟨h1, h2, h3, h4⟩ := linkF_ok h
  have hr := all_right h2
  obtain ⟨a, b⟩ := img_small (defAll us us.length) us ([], []) (fun u hu => ⟨(hr u hu).n500, (hr u hu).c6⟩) (by simp)
  refine ⟨a, ?_, h3⟩
  unfold imgS
  simp at b
  omega
/-- What of an image is looked at, in memory. -/
structure Img (gs : List Gl) (PP : List Pro) (ba : Option Addr) (bn bc : Nat) (pa : Option Addr) (pn pc : Nat) (w : World) : Prop where
  ebn : bn = gs.length
  ebc : bn ≤ bc
  epn : pn = PP.length
  epc : pn ≤ pc
  pl : PL w.heap.size w pa PP
  gl : ∀ i g, gs[i]? = some g → ∃ bg, ba = some ⟨bg, 0, none⟩ ∧ bg < w.heap.size ∧ w.cell? ⟨bg, i * 3, none⟩ = some (.string ⟨#[]⟩) ∧ w.cell? ⟨bg, i * 3 + 1, none⟩ = some (.string g.1) ∧ w.cell? ⟨bg, i * 3 + 2, none⟩ = some (.string g.2)
theorem Img.below {gs PP ba bn bc pa pn pc} {w w' : World} (h : Img gs PP ba bn bc pa pn pc w) (hb : Below w.heap.size w w') : Img gs PP ba bn bc pa pn pc w' :=
  ⟨h.ebn, h.ebc, h.epn, h.epc, (h.pl.below hb).mono hb.size, fun i g hg => by
    obtain ⟨bg, h1, h2, h3, h4, h5⟩ := h.gl i g hg
    exact ⟨bg, h1, Nat.lt_of_lt_of_le h2 hb.size, (hb.cell (p := ⟨bg, i * 3, none⟩) h2).trans h3, (hb.cell (p := ⟨bg, i * 3 + 1, none⟩) h2).trans h4, (hb.cell (p := ⟨bg, i * 3 + 2, none⟩) h2).trans h5⟩⟩
theorem told_slices {us : List Un} {bv pv sv : Value} {w w' : World} (h1 : (linkF us).1 ≠ 0 → bv = .slice none 0 0 ∧ pv = .slice none 0 0 ∧ sv = .slice none 0 0) (h2 : (linkF us).1 = 0 → LinkOk us bv pv sv w w') :
    ∃ ba bn bc pa pn pc sa sn sc, bv = .slice ba bn bc ∧ pv = .slice pa pn pc ∧ sv = .slice sa sn sc ∧ ((linkF us).1 = 0 → Img (defAll us us.length) (imgS (defAll us us.length) us).1 ba bn bc pa pn pc w') := by
  by_cases h0 : (linkF us).1 = 0
  · obtain ⟨ps, ss, k1, k2, k3, k4, k5⟩ := h2 h0
    obtain ⟨ba, bc, rfl, hbc⟩ := own_slice k1
    obtain ⟨pa, pc, e, hpc, hpl⟩ := image_pl k2 k5 (fun b hb => hb.2)
    subst e
    obtain ⟨sa, sc, rfl, hsc⟩ := own_slice k3
    have e2 : ps.map PE.pro = (imgS (defAll us us.length) us).1 := congrArg Prod.fst k4
    refine ⟨_, _, _, _, _, _, _, _, _, rfl, rfl, rfl, fun _ => ⟨rfl, hbc, by rw [← e2, List.length_map], hpc, by rw [← e2]; exact hpl, fun i g hg => ?_⟩⟩
    obtain ⟨bg, vc, q1, q2, q3, q4, q5, q6⟩ := own_at k1 (by have := (List.getElem?_eq_some_iff.1 hg).1; omega)
    have e3 : ba = some ⟨bg, 0, none⟩ := by injection q1
    refine ⟨bg, e3, q4, ?_, ?_, ?_⟩
    · exact q6 _ _ (flat_at bcells 3 (fun _ => rfl) i hg 0 _ rfl)
    · exact q6 _ _ (flat_at bcells 3 (fun _ => rfl) i hg 1 _ rfl)
    · exact q6 _ _ (flat_at bcells 3 (fun _ => rfl) i hg 2 _ rfl)
  · obtain ⟨rfl, rfl, rfl⟩ := h1 h0
    exact ⟨_, _, _, _, _, _, _, _, _, rfl, rfl, rfl, fun h => absurd h h0⟩
set_option maxRecDepth 100000 in
set_option maxHeartbeats 12800000 in
theorem LinkAhead_walk (us more : List Un) (aa ab : Option Addr) (ca cb : Nat) (w : World) (ha : UL w.heap.size w aa us) (hb : UL w.heap.size w ab more) (hac : us.length ≤ ca) (hbc : more.length ≤ cb) (hma : ∀ u ∈ us, u.2.length ≤ 9223372036854775807) (hmb : ∀ u ∈ more, u.2.length ≤ 9223372036854775807) (hlen : (us.length + more.length) * 40 ≤ 140737488355328) (htab : TabS w) :
    Calls Tryd.prog 5 #[.slice aa us.length ca, .slice ab more.length cb] w fun e w' => e = .returned (.bool true) ∧ Below w.heap.size w w' := by
  have AL := hidd (alive10_any w htab)
  have LA : Hid (∀ W, Below w.heap.size w W → Calls Tryd.prog 7 #[.slice aa us.length ca] W (ToldL us W)) := fun W h => Link_any us aa ca W ((ha.below h).mono h.size) hac (htab.below h) hma (by omega)
  have LX : Hid (∀ W x c, Below w.heap.size w W → UL W.heap.size W x (us ++ more) → (us ++ more).length ≤ c → Calls Tryd.prog 7 #[.slice x (us ++ more).length c] W (ToldL (us ++ more) W)) := fun W x c h h1 h2 => Link_any (us ++ more) x c W h1 h2 (htab.below h) (fun u hu => by
    rcases List.mem_append.1 hu with hu | hu
    · exact hma u hu
    · exact hmb u hu) (by rw [List.length_append]; omega)
  have AH := hidd (link_ahead (us := us) (more := more))
  have SM1 := hidd (link_small (us := us))
  have SM2 := hidd (link_small (us := us ++ more))
  obtain ⟨ea, hea, hoka, hsa⟩ := ha.ents
  obtain ⟨eb, heb, hokb, hsb⟩ := hb.ents
  have hla : ea.length = us.length := by rw [← hea, List.length_map]
  have hlb : eb.length = more.length := by rw [← heb, List.length_map]
  have EAB : Hid ((ea ++ eb).map UE.un = us ++ more ∧ ∀ e ∈ ea ++ eb, e.Ok w.heap.size w) := by
    refine ⟨by rw [List.map_append, hea, heb], fun e he => ?_⟩
    rcases List.mem_append.1 he with he | he
    · exact hoka e he
    · exact hokb e he
  rw [hla] at hsa
  rw [hlb] at hsb
  have HSA := hidd hsa
  have HSB := hidd hsb
  have HLA := hidd hla
  have HLB := hidd hlb
  have hal : us.length ≤ 1000000000000000 := by omega
  have hbl : more.length ≤ 1000000000000000 := by omega
  clear ha hb hma hmb hea hoka hsa heb hokb hsb hla hlb htab
  go_enter Tryd.func5, Tryd.ntmps5
  go_wp2_with fail
  refine AL.out.mono ?_
  rintro e W1 ⟨rfl, s1⟩
  have HB1 := hidd s1
  clear s1 AL
  go_wp2_with fail
  refine (LA.out W1 HB1.out).mono ?_
  rintro e W2 ⟨bv, pv, sv, rfl, s3, hbad, hok⟩
  obtain ⟨ba, bn, bc, pa, pn, pc, sa, sn, sc, rfl, rfl, rfl, him⟩ := told_slices hbad hok
  obtain ⟨lf, hlf⟩ : ∃ l, l = linkF us := ⟨_, rfl⟩
  rw [← hlf] at him AH SM1 ⊢
  unfold fv
  have hba := ((Below.refl W2.heap.size W2).alloc (Nat.le_refl _) (.cells #[.slice ba bn bc, .slice pa pn pc, .slice sa sn sc] 27)).alloc (by simp) (.cells #[.int .i64 lf.1, .int .i64 lf.2] 30)
  have n1 : Hid (((W2.alloc (.cells #[.slice ba bn bc, .slice pa pn pc, .slice sa sn sc] 27)).alloc (.cells #[.int .i64 lf.1, .int .i64 lf.2] 30)).heap[W2.heap.size]? = some (.cells #[.slice ba bn bc, .slice pa pn pc, .slice sa sn sc] 27 (0, 0))) := (Below.heap_alloc _ _ _ (by simp)).trans (World.alloc_heap_new W2 _)
  have n2 : Hid (((W2.alloc (.cells #[.slice ba bn bc, .slice pa pn pc, .slice sa sn sc] 27)).alloc (.cells #[.int .i64 lf.1, .int .i64 lf.2] 30)).heap[W2.heap.size + 1]? = some (.cells #[.int .i64 lf.1, .int .i64 lf.2] 30 (0, 0))) := by
    have := World.alloc_heap_new (W2.alloc (.cells #[.slice ba bn bc, .slice pa pn pc, .slice sa sn sc] 27)) (.cells #[.int .i64 lf.1, .int .i64 lf.2] 30)
    show ((W2.alloc (.cells #[.slice ba bn bc, .slice pa pn pc, .slice sa sn sc] 27)).alloc (.cells #[.int .i64 lf.1, .int .i64 lf.2] 30)).heap[W2.heap.size + 1]? = some (.cells #[.int .i64 lf.1, .int .i64 lf.2] 30 (0, 0))
    simpa using this
  have hb2 := HB1.out.trans (s3.mono HB1.out.size)
  have HB3 := hidd (hb2.trans (hba.mono hb2.size))
  have G1 : Hid (lf.1 = 0 → Img (defAll us us.length) (imgS (defAll us us.length) us).1 ba bn bc pa pn pc ((W2.alloc (.cells #[.slice ba bn bc, .slice pa pn pc, .slice sa sn sc] 27)).alloc (.cells #[.int .i64 lf.1, .int .i64 lf.2] 30))) := fun h => (him h).below hba
  clear hlf hbad hok him hba hb2 s3 HB1 LA
  go_upto_region 4 with fail
  generalize ((W2.alloc (.cells #[.slice ba bn bc, .slice pa pn pc, .slice sa sn sc] 27)).alloc (.cells #[.int .i64 lf.1, .int .i64 lf.2] 30)) = V at n1 n2 HB3 G1 ⊢
  generalize W2.heap.size = im at n1 n2 ⊢
  obtain ⟨i0, hinf, hz0, hz1, hz2⟩ := info_parts infoUnit
  have hb2a : Below V.heap.size V (V.alloc (.cells #[] 37)) := (Below.refl _ _).alloc (Nat.le_refl _) _
  have SA : Hid (us.length = 0 ∨ ∃ b o, aa = some ⟨b, o, none⟩ ∧ ∀ j u, (flatU ea)[j]? = some u → (V.alloc (.cells #[] 37)).cell? ⟨b, o + j, none⟩ = some u) := by
    rcases HSA.out with h | ⟨b, o, h1, h2, h3⟩
    · exact Or.inl h
    · exact Or.inr ⟨b, o, h1, fun j u hu => ((HB3.out.trans (hb2a.mono HB3.out.size)).cell (p := ⟨b, o + j, none⟩) h2).trans (h3 j u hu)⟩
  have B2A := hidd hb2a
  clear hb2a
  go_wp2_with (at_builtin; refine wpList_row rfl _ _ 22 rfl V.heap.size 37 i0 _ 2 40 Tryd.underlying22 hinf hz0 hz1 hz2 rfl (by decide) (.slice (some ⟨V.heap.size, 0, none⟩) 0 0) 0 [] rfl (own_fresh V 37 2) aa us.length ca (flatU ea) rfl (by rw [flatU_len, HLA.out]) SA.out (flatU_one _) (by unfold maxLen; omega) (by omega) (by simp) ?_)
  intro v3 w3 hown3 hg3 hw3
  have hb3 := B2A.out.trans ((Below.refl V.heap.size _).grown hg3 (by simp) (fun k hk => by simp [Value.ownBlock] at hk; omega))
  have SB : Hid (more.length = 0 ∨ ∃ b o, ab = some ⟨b, o, none⟩ ∧ ∀ j u, (flatU eb)[j]? = some u → w3.cell? ⟨b, o + j, none⟩ = some u) := by
    rcases HSB.out with h | ⟨b, o, h1, h2, h3⟩
    · exact Or.inl h
    · exact Or.inr ⟨b, o, h1, fun j u hu => ((HB3.out.trans (hb3.mono HB3.out.size)).cell (p := ⟨b, o + j, none⟩) h2).trans (h3 j u hu)⟩
  try rw [Nat.zero_add, List.nil_append] at hown3
  obtain ⟨ra, rc, rfl, hrc⟩ := own_slice hown3
  have OW3 := hidd hown3
  have BB3 := hidd hb3
  clear hown3 hg3 hw3 hb3 B2A SA HSA HSB
  try simp only [Act.put, List.setIfInBounds_toArray, List.set_cons_succ, List.set_cons_zero]
  go_wp2_with (at_builtin; refine wpList_row rfl _ _ 22 rfl V.heap.size 37 i0 _ 2 40 Tryd.underlying22 hinf hz0 hz1 hz2 rfl (by decide) (.slice ra us.length rc) us.length (flatU ea) rfl OW3.out ab more.length cb (flatU eb) rfl (by rw [flatU_len, HLB.out]) SB.out (flatU_one _) (by unfold maxLen; omega) hlen BB3.out.size ?_)
  intro v4 w4 hown4 hg4 hw4
  have hb4 := BB3.out.trans ((Below.refl V.heap.size _).grown hg4 BB3.out.size (fun k hk => (OW3.out.lt k hk).1))
  have hb4w := HB3.out.trans (hb4.mono HB3.out.size)
  obtain ⟨xa, xc, hv4, hxc, hul⟩ := row_ul (w := w4) (v := v4) (es := ea ++ eb) (by rw [flatU_append, List.length_append, HLA.out, HLB.out]; exact hown4) (fun e he => ((EAB.out.2 e he).below hb4w).mono hb4w.size)
  rw [EAB.out.1] at hul
  have hxl : (ea ++ eb).length = (us ++ more).length := by rw [List.length_append, List.length_append, HLA.out, HLB.out]
  rw [hxl] at hv4 hxc
  subst hv4
  have LX4 := hidd (LX.out w4 xa xc hb4w hul hxc)
  have HB4 := hidd hb4w
  have HVB := hidd hb4
  clear hown4 hg4 hw4 hb4 hb4w hul hxc hxl OW3 BB3 SB EAB HLA HLB LX hrc
  generalize hxln : (us ++ more).length = xl at LX4 ⊢
  clear hxln
  try simp only [Act.put, List.setIfInBounds_toArray, List.set_cons_succ, List.set_cons_zero]
  go_wp2_with fail
  refine LX4.out.mono ?_
  rintro e W5 ⟨bv, pv, sv, rfl, s3, hbad, hok⟩
  obtain ⟨ba2, bn2, bc2, pa2, pn2, pc2, sa2, sn2, sc2, rfl, rfl, rfl, him⟩ := told_slices hbad hok
  obtain ⟨lg, hlg⟩ : ∃ l, l = linkF (us ++ more) := ⟨_, rfl⟩
  rw [← hlg] at him SM2 ⊢
  unfold fv
  have hba := ((Below.refl W5.heap.size W5).alloc (Nat.le_refl _) (.cells #[.slice ba2 bn2 bc2, .slice pa2 pn2 pc2, .slice sa2 sn2 sc2] 27)).alloc (by simp) (.cells #[.int .i64 lg.1, .int .i64 lg.2] 30)
  have m1 : Hid (((W5.alloc (.cells #[.slice ba2 bn2 bc2, .slice pa2 pn2 pc2, .slice sa2 sn2 sc2] 27)).alloc (.cells #[.int .i64 lg.1, .int .i64 lg.2] 30)).heap[W5.heap.size]? = some (.cells #[.slice ba2 bn2 bc2, .slice pa2 pn2 pc2, .slice sa2 sn2 sc2] 27 (0, 0))) := (Below.heap_alloc _ _ _ (by simp)).trans (World.alloc_heap_new W5 _)
  have m2 : Hid (((W5.alloc (.cells #[.slice ba2 bn2 bc2, .slice pa2 pn2 pc2, .slice sa2 sn2 sc2] 27)).alloc (.cells #[.int .i64 lg.1, .int .i64 lg.2] 30)).heap[W5.heap.size + 1]? = some (.cells #[.int .i64 lg.1, .int .i64 lg.2] 30 (0, 0))) := by
    have := World.alloc_heap_new (W5.alloc (.cells #[.slice ba2 bn2 bc2, .slice pa2 pn2 pc2, .slice sa2 sn2 sc2] 27)) (.cells #[.int .i64 lg.1, .int .i64 lg.2] 30)
    show ((W5.alloc (.cells #[.slice ba2 bn2 bc2, .slice pa2 pn2 pc2, .slice sa2 sn2 sc2] 27)).alloc (.cells #[.int .i64 lg.1, .int .i64 lg.2] 30)).heap[W5.heap.size + 1]? = some (.cells #[.int .i64 lg.1, .int .i64 lg.2] 30 (0, 0))
    simpa using this
  have hvv := HVB.out.trans (s3.mono HVB.out.size)
  have hv2 := hvv.trans (hba.mono hvv.size)
  have HB5 := hidd (HB3.out.trans (hv2.mono HB3.out.size))
  have G2 : Hid (lg.1 = 0 → Img (defAll (us ++ more) (us ++ more).length) (imgS (defAll (us ++ more) (us ++ more).length) (us ++ more)).1 ba2 bn2 bc2 pa2 pn2 pc2 ((W5.alloc (.cells #[.slice ba2 bn2 bc2, .slice pa2 pn2 pc2, .slice sa2 sn2 sc2] 27)).alloc (.cells #[.int .i64 lg.1, .int .i64 lg.2] 30))) := fun h => (him h).below hba
  have G3 : Hid (lf.1 = 0 → Img (defAll us us.length) (imgS (defAll us us.length) us).1 ba bn bc pa pn pc ((W5.alloc (.cells #[.slice ba2 bn2 bc2, .slice pa2 pn2 pc2, .slice sa2 sn2 sc2] 27)).alloc (.cells #[.int .i64 lg.1, .int .i64 lg.2] 30))) := fun h => (G1.out h).below hv2
  have k1 : Hid (((W5.alloc (.cells #[.slice ba2 bn2 bc2, .slice pa2 pn2 pc2, .slice sa2 sn2 sc2] 27)).alloc (.cells #[.int .i64 lg.1, .int .i64 lg.2] 30)).heap[im]? = some (.cells #[.slice ba bn bc, .slice pa pn pc, .slice sa sn sc] 27 (0, 0))) := (hv2.block _ (Array.getElem?_eq_some_iff.1 n1.out).1).trans n1.out
  have k2 : Hid (((W5.alloc (.cells #[.slice ba2 bn2 bc2, .slice pa2 pn2 pc2, .slice sa2 sn2 sc2] 27)).alloc (.cells #[.int .i64 lg.1, .int .i64 lg.2] 30)).heap[im + 1]? = some (.cells #[.int .i64 lf.1, .int .i64 lf.2] 30 (0, 0))) := (hv2.block _ (Array.getElem?_eq_some_iff.1 n2.out).1).trans n2.out
  clear hlg hbad hok him hba hvv hv2 s3 HVB HB4 HB3 LX4 G1 n1 n2
  go_upto_region 5 with fail
  generalize ((W5.alloc (.cells #[.slice ba2 bn2 bc2, .slice pa2 pn2 pc2, .slice sa2 sn2 sc2] 27)).alloc (.cells #[.int .i64 lg.1, .int .i64 lg.2] 30)) = W at m1 m2 k1 k2 HB5 G2 G3 ⊢
  generalize W5.heap.size = jm at m1 m2 ⊢
  have y0 : W.cell? ⟨im + 1, 0, none⟩ = some (.int .i64 lf.1) := (cellO k2.out).trans rfl
  have y1 : W.cell? ⟨jm + 1, 0, none⟩ = some (.int .i64 lg.1) := (cellO m2.out).trans rfl
  by_cases h1 : lf.1 = 0
  · by_cases h2 : lg.1 = 0
    · have I1 := hidd (G3.out h1)
      have I2 := hidd (G2.out h2)
      have s1 := hidd (SM1.out h1)
      have s2 := hidd (SM2.out h2)
      have A2 := hidd (AH.out h1)
      clear SM1 SM2 G2 G3 AH k2 m2
      generalize defAll (us ++ more) (us ++ more).length = gs2 at I2 s2 A2
      generalize defAll us us.length = gs at I1 s1 A2
      generalize (imgS gs2 (us ++ more)).1 = P2 at I2 s2 A2
      generalize (imgS gs us).1 = P1 at I1 s1 A2
      have e1 : (lf.1 != 0) = false := by rw [h1]; rfl
      have e2 : (lg.1 != 0) = false := by rw [h2]; rfl
      clear h1 h2
      have p27 : pn ≤ pn2 := by
        obtain ⟨qs, hq⟩ := A2.out.2
        rw [I1.out.epn, I2.out.epn, hq, List.length_append]
        omega
      have b27 : bn ≤ bn2 := by
        obtain ⟨qs, hq⟩ := A2.out.1
        rw [I1.out.ebn, I2.out.ebn, hq, List.length_append]
        omega
      have p20 : pn ≤ 20000 := by rw [I1.out.epn]; exact s1.out.2.1
      have p22 : pn2 ≤ 20000 := by rw [I2.out.epn]; exact s2.out.2.1
      have b20 : bn ≤ 500 := by rw [I1.out.ebn]; exact s1.out.2.2
      have b22 : bn2 ≤ 500 := by rw [I2.out.ebn]; exact s2.out.2.2
      have c22 : pn2 ≤ pc2 := I2.out.epc
      have d1 : decide ((pn2 : Int) < (pn : Int)) = false := by simp; omega
      have d2 : decide ((bn2 : Int) < (bn : Int)) = false := by simp; omega
      have SP : Hid (∀ u, Below W.heap.size W u → Calls Tryd.prog 12 #[.slice pa pn pc, .slice pa2 pn pc2] u (Yes u)) := fun u hu => by
        obtain ⟨qs, hq⟩ := A2.out.2
        have l1 := (I1.out.below hu)
        have l2 := (I2.out.below hu)
        have h := SameP_any pa pa2 pc pc2 P1 u l1.pl (by have := l2.pl; rw [hq] at this; exact this.ahead) (by have := s1.out.2.1; omega) (fun p hp => by have := s1.out.1 p hp; omega) (by rw [← I1.out.epn]; exact I1.out.epc) (by rw [← I1.out.epn]; omega)
        rw [← I1.out.epn] at h
        exact h
      have x1 : W.cell? ⟨im, 1, none⟩ = some (.slice pa pn pc) := (cellO k1.out).trans rfl
      have x0 : W.cell? ⟨im, 0, none⟩ = some (.slice ba bn bc) := (cellO k1.out).trans rfl
      have z1 : W.cell? ⟨jm, 1, none⟩ = some (.slice pa2 pn2 pc2) := (cellO m1.out).trans rfl
      have z0 : W.cell? ⟨jm, 0, none⟩ = some (.slice ba2 bn2 bc2) := (cellO m1.out).trans rfl
      have him := (Array.getElem?_eq_some_iff.1 k1.out).1
      have hjm := (Array.getElem?_eq_some_iff.1 m1.out).1
      go_upto_region 8 with fail
      clear y0 y1 e1 e2
      refine wp_region_held_drew (S := fun u => Below W.heap.size W u) (by kernel_rfl) (Below.drew (Below.refl _ _)) (fun hS => ?_)
      refine wpAnyH_take (i := 0) (oi := { dst := some 38, op := Op.fieldAddr 27 (Operand.tmp 7) 1, type := 0, pos := _, after := _, guard := none }) (v := .pointer (some ⟨jm, 1, none⟩)) rfl (by kernel_rfl) (by kernel_rfl) (by kernel_rfl) (fun _ _ _ h => h) (Or.inl ⟨by rfl, fun u hu => by go_simp⟩) hS ?_
      simp only [Act.put, List.setIfInBounds_toArray, List.set_cons_zero, List.set_cons_succ]
      refine wpAnyH_take (i := 1) (oi := { dst := some 39, op := Op.load 24 (Operand.tmp 38), type := 24, pos := _, after := _, guard := none }) (v := .slice pa2 pn2 pc2) rfl (by kernel_rfl) (by kernel_rfl) (by kernel_rfl) (fun _ _ _ h => h) (Or.inl ⟨by rfl, fun u hu => by (have z := (hu.cell (p := ⟨jm, 1, none⟩) hjm).trans z1; go_simp)⟩) hS ?_
      simp only [Act.put, List.setIfInBounds_toArray, List.set_cons_zero, List.set_cons_succ]
      refine wpAnyH_take (i := 2) (oi := { dst := some 40, op := Op.call { callee := Callee.builtin Builtin.len, args := #[Operand.tmp 39], argTypes := #[24] }, type := 3, pos := _, after := _, guard := none }) (v := .int .i64 pn2) rfl (by kernel_rfl) (by kernel_rfl) (by kernel_rfl) (fun _ _ _ h => h) (Or.inl ⟨by rfl, fun u hu => by go_simp⟩) hS ?_
      simp only [Act.put, List.setIfInBounds_toArray, List.set_cons_zero, List.set_cons_succ]
      refine wpAnyH_take (i := 3) (oi := { dst := some 41, op := Op.move (Operand.tmp 9), type := 3, pos := _, after := _, guard := none }) (v := .int .i64 pn) rfl (by kernel_rfl) (by kernel_rfl) (by kernel_rfl) (fun _ _ _ h => h) (Or.inl ⟨by rfl, fun u hu => by go_simp⟩) hS ?_
      simp only [Act.put, List.setIfInBounds_toArray, List.set_cons_zero, List.set_cons_succ]
      refine wpAnyH_take (i := 4) (oi := { dst := some 42, op := Op.binOp BinOp.lss 3 (Operand.tmp 40) (Operand.tmp 41) 3, type := 4, pos := _, after := _, guard := none }) (v := .bool false) rfl (by kernel_rfl) (by kernel_rfl) (by kernel_rfl) (fun _ _ _ h => h) (Or.inl ⟨by rfl, fun u hu => by go_simp⟩) hS ?_
      simp only [Act.put, List.setIfInBounds_toArray, List.set_cons_zero, List.set_cons_succ]
      refine wpAnyH_take (i := 5) (oi := { dst := some 43, op := Op.move (Operand.tmp 42), type := 4, pos := _, after := _, guard := none }) (v := .bool false) rfl (by kernel_rfl) (by kernel_rfl) (by kernel_rfl) (fun _ _ _ h => h) (Or.inl ⟨by rfl, fun u hu => by go_simp⟩) hS ?_
      simp only [Act.put, List.setIfInBounds_toArray, List.set_cons_zero, List.set_cons_succ]
      refine wpAnyH_take (i := 6) (oi := { dst := some 44, op := Op.fieldAddr 27 (Operand.tmp 7) 0, type := 0, pos := _, after := _, guard := some (5, false) }) (v := .pointer (some ⟨jm, 0, none⟩)) rfl (by kernel_rfl) (by kernel_rfl) (by kernel_rfl) (fun _ _ _ h => h) (Or.inl ⟨by rfl, fun u hu => by go_simp⟩) hS ?_
      simp only [Act.put, List.setIfInBounds_toArray, List.set_cons_zero, List.set_cons_succ]
      refine wpAnyH_take (i := 7) (oi := { dst := some 45, op := Op.load 23 (Operand.tmp 44), type := 23, pos := _, after := _, guard := some (5, false) }) (v := .slice ba2 bn2 bc2) rfl (by kernel_rfl) (by kernel_rfl) (by kernel_rfl) (fun _ _ _ h => h) (Or.inl ⟨by rfl, fun u hu => by (have z := (hu.cell (p := ⟨jm, 0, none⟩) hjm).trans z0; go_simp)⟩) hS ?_
      simp only [Act.put, List.setIfInBounds_toArray, List.set_cons_zero, List.set_cons_succ]
      refine wpAnyH_take (i := 8) (oi := { dst := some 46, op := Op.call { callee := Callee.builtin Builtin.len, args := #[Operand.tmp 45], argTypes := #[23] }, type := 3, pos := _, after := _, guard := some (5, false) }) (v := .int .i64 bn2) rfl (by kernel_rfl) (by kernel_rfl) (by kernel_rfl) (fun _ _ _ h => h) (Or.inl ⟨by rfl, fun u hu => by go_simp⟩) hS ?_
      simp only [Act.put, List.setIfInBounds_toArray, List.set_cons_zero, List.set_cons_succ]
      refine wpAnyH_take (i := 9) (oi := { dst := some 47, op := Op.fieldAddr 27 (Operand.tmp 5) 0, type := 0, pos := _, after := _, guard := some (5, false) }) (v := .pointer (some ⟨im, 0, none⟩)) rfl (by kernel_rfl) (by kernel_rfl) (by kernel_rfl) (fun _ _ _ h => h) (Or.inl ⟨by rfl, fun u hu => by go_simp⟩) hS ?_
      simp only [Act.put, List.setIfInBounds_toArray, List.set_cons_zero, List.set_cons_succ]
      refine wpAnyH_take (i := 10) (oi := { dst := some 48, op := Op.load 23 (Operand.tmp 47), type := 23, pos := _, after := _, guard := some (5, false) }) (v := .slice ba bn bc) rfl (by kernel_rfl) (by kernel_rfl) (by kernel_rfl) (fun _ _ _ h => h) (Or.inl ⟨by rfl, fun u hu => by (have z := (hu.cell (p := ⟨im, 0, none⟩) him).trans x0; go_simp)⟩) hS ?_
      simp only [Act.put, List.setIfInBounds_toArray, List.set_cons_zero, List.set_cons_succ]
      refine wpAnyH_take (i := 11) (oi := { dst := some 49, op := Op.call { callee := Callee.builtin Builtin.len, args := #[Operand.tmp 48], argTypes := #[23] }, type := 3, pos := _, after := _, guard := some (5, false) }) (v := .int .i64 bn) rfl (by kernel_rfl) (by kernel_rfl) (by kernel_rfl) (fun _ _ _ h => h) (Or.inl ⟨by rfl, fun u hu => by go_simp⟩) hS ?_
      simp only [Act.put, List.setIfInBounds_toArray, List.set_cons_zero, List.set_cons_succ]
      refine wpAnyH_take (i := 12) (oi := { dst := some 50, op := Op.binOp BinOp.lss 3 (Operand.tmp 46) (Operand.tmp 49) 3, type := 4, pos := _, after := _, guard := some (5, false) }) (v := .bool false) rfl (by kernel_rfl) (by kernel_rfl) (by kernel_rfl) (fun _ _ _ h => h) (Or.inl ⟨by rfl, fun u hu => by go_simp⟩) hS ?_
      simp only [Act.put, List.setIfInBounds_toArray, List.set_cons_zero, List.set_cons_succ]
      refine wpAnyH_take (i := 13) (oi := { dst := some 51, op := Op.pick (Operand.tmp 43) (Operand.const (Value.bool true)) (Operand.tmp 50), type := 4, pos := _, after := _, guard := none }) (v := .bool false) rfl (by kernel_rfl) (by kernel_rfl) (by kernel_rfl) (fun _ _ _ h => h) (Or.inl ⟨by rfl, fun u hu => by go_simp⟩) hS ?_
      simp only [Act.put, List.setIfInBounds_toArray, List.set_cons_zero, List.set_cons_succ]
      refine wpAnyH_take (i := 14) (oi := { dst := some 52, op := Op.move (Operand.tmp 51), type := 4, pos := _, after := _, guard := none }) (v := .bool false) rfl (by kernel_rfl) (by kernel_rfl) (by kernel_rfl) (fun _ _ _ h => h) (Or.inl ⟨by rfl, fun u hu => by go_simp⟩) hS ?_
      simp only [Act.put, List.setIfInBounds_toArray, List.set_cons_zero, List.set_cons_succ]
      refine wpAnyH_take (i := 15) (oi := { dst := some 53, op := Op.fieldAddr 27 (Operand.tmp 5) 1, type := 0, pos := _, after := _, guard := some (14, false) }) (v := .pointer (some ⟨im, 1, none⟩)) rfl (by kernel_rfl) (by kernel_rfl) (by kernel_rfl) (fun _ _ _ h => h) (Or.inl ⟨by rfl, fun u hu => by go_simp⟩) hS ?_
      simp only [Act.put, List.setIfInBounds_toArray, List.set_cons_zero, List.set_cons_succ]
      refine wpAnyH_take (i := 16) (oi := { dst := some 54, op := Op.load 24 (Operand.tmp 53), type := 24, pos := _, after := _, guard := some (14, false) }) (v := .slice pa pn pc) rfl (by kernel_rfl) (by kernel_rfl) (by kernel_rfl) (fun _ _ _ h => h) (Or.inl ⟨by rfl, fun u hu => by (have z := (hu.cell (p := ⟨im, 1, none⟩) him).trans x1; go_simp)⟩) hS ?_
      simp only [Act.put, List.setIfInBounds_toArray, List.set_cons_zero, List.set_cons_succ]
      refine wpAnyH_take (i := 17) (oi := { dst := some 55, op := Op.fieldAddr 27 (Operand.tmp 7) 1, type := 0, pos := _, after := _, guard := some (14, false) }) (v := .pointer (some ⟨jm, 1, none⟩)) rfl (by kernel_rfl) (by kernel_rfl) (by kernel_rfl) (fun _ _ _ h => h) (Or.inl ⟨by rfl, fun u hu => by go_simp⟩) hS ?_
      simp only [Act.put, List.setIfInBounds_toArray, List.set_cons_zero, List.set_cons_succ]
      refine wpAnyH_take (i := 18) (oi := { dst := some 56, op := Op.load 24 (Operand.tmp 55), type := 24, pos := _, after := _, guard := some (14, false) }) (v := .slice pa2 pn2 pc2) rfl (by kernel_rfl) (by kernel_rfl) (by kernel_rfl) (fun _ _ _ h => h) (Or.inl ⟨by rfl, fun u hu => by (have z := (hu.cell (p := ⟨jm, 1, none⟩) hjm).trans z1; go_simp)⟩) hS ?_
      simp only [Act.put, List.setIfInBounds_toArray, List.set_cons_zero, List.set_cons_succ]
      refine wpAnyH_take (i := 19) (oi := { dst := some 57, op := Op.move (Operand.tmp 9), type := 3, pos := _, after := _, guard := some (14, false) }) (v := .int .i64 pn) rfl (by kernel_rfl) (by kernel_rfl) (by kernel_rfl) (fun _ _ _ h => h) (Or.inl ⟨by rfl, fun u hu => by go_simp⟩) hS ?_
      simp only [Act.put, List.setIfInBounds_toArray, List.set_cons_zero, List.set_cons_succ]
      refine wpAnyH_take (i := 20) (oi := { dst := some 58, op := Op.slice 24 (Operand.tmp 56) none (some (Operand.tmp 57)) none, type := 24, pos := _, after := _, guard := some (14, false) }) (v := .slice pa2 pn pc2) rfl (by kernel_rfl) (by kernel_rfl) (by kernel_rfl) (fun _ _ _ h => h) (Or.inl ⟨by rfl, fun u hu => by (cases pa2 <;> go_simp <;> (intro hx; omega))⟩) hS ?_
      simp only [Act.put, List.setIfInBounds_toArray, List.set_cons_zero, List.set_cons_succ]
      refine wpAnyH_ready (rs := [21]) (by kernel_rfl) (by simp) (AllReadyH.cons (o := { dst := some 59, op := Op.call { callee := Callee.value (Operand.func 12), args := #[Operand.tmp 54, Operand.tmp 58], argTypes := #[24, 24] }, type := 4, pos := _, after := _, guard := some (14, false) }) rfl (fun K hK => ?_) AllReadyH.nil)
      go_simp
      refine (SP.out W.drew hS).mono ?_
      rintro e W8 ⟨rfl, hb8⟩
      have hS8 := hS.trans (hb8.mono hS.size)
      clear hb8
      show K _ W8
      refine hK.out _ _ hS8 (fun hS => ?_)
      clear hK K
      refine wpAnyH_take (i := 22) (oi := { dst := some 60, op := Op.unOp UnOp.not 4 (Operand.tmp 59), type := 4, pos := _, after := _, guard := some (14, false) }) (v := .bool false) rfl (by kernel_rfl) (by kernel_rfl) (by kernel_rfl) (fun _ _ _ h => h) (Or.inl ⟨by rfl, fun u hu => by go_simp⟩) hS ?_
      simp only [Act.put, List.setIfInBounds_toArray, List.set_cons_zero, List.set_cons_succ]
      refine wpAnyH_take (i := 23) (oi := { dst := some 61, op := Op.pick (Operand.tmp 52) (Operand.const (Value.bool true)) (Operand.tmp 60), type := 4, pos := _, after := _, guard := none }) (v := .bool false) rfl (by kernel_rfl) (by kernel_rfl) (by kernel_rfl) (fun _ _ _ h => h) (Or.inl ⟨by rfl, fun u hu => by go_simp⟩) hS ?_
      simp only [Act.put, List.setIfInBounds_toArray, List.set_cons_zero, List.set_cons_succ]
      refine wpAnyH_done (by kernel_rfl) ?_ _
      clear SP d1 d2 x0 x1 z0 z1
      have I3 := hidd (I1.out.below hS)
      have I4 := hidd (I2.out.below hS)
      have HB8 := hidd (HB5.out.trans (hS.mono HB5.out.size))
      have j1 := hidd ((hS.block _ him).trans k1.out)
      have j2 := hidd ((hS.block _ hjm).trans m1.out)
      have x0 : W8.cell? ⟨im, 0, none⟩ = some (.slice ba bn bc) := (cellO j1.out).trans rfl
      clear hS I1 I2 HB5 k1 m1 him hjm
      go_wp2_with fail
      clear x0
      go_loopw [65] (fun ix wr => ∃ k : Nat, k ≤ bn ∧ ix = .int .i64 k ∧ Hid (Below W8.heap.size W8 wr)) (fun ix _ => bn - (intOf ix).toNat)
      case atStart => exact ⟨0, Nat.zero_le _, rfl, Below.refl _ _⟩
      case round =>
        obtain ⟨k, hk, rfl, HR⟩ := hrel
        by_cases hlt : k < bn
        · obtain ⟨g, hg⟩ : ∃ g, gs[k]? = some g := ⟨_, List.getElem?_eq_getElem (by rw [← I3.out.ebn]; exact hlt)⟩
          have hg2 : gs2[k]? = some g := by
            obtain ⟨ex, he⟩ := A2.out.1
            rw [he, List.getElem?_append_left (List.getElem?_eq_some_iff.1 hg).1]
            exact hg
          obtain ⟨bg, rfl, hbg, q0, q1, q2⟩ := I3.out.gl k g hg
          obtain ⟨bh, rfl, hbh, r0, r1, r2⟩ := I4.out.gl k g hg2
          have him : im < W8.heap.size := (Array.getElem?_eq_some_iff.1 j1.out).1
          have hjm : jm < W8.heap.size := (Array.getElem?_eq_some_iff.1 j2.out).1
          have x0 : wr.cell? ⟨im, 0, none⟩ = some (.slice (some ⟨bg, 0, none⟩) bn bc) := (HR.out.cell (p := ⟨im, 0, none⟩) him).trans ((cellO j1.out).trans rfl)
          have z0 : wr.cell? ⟨jm, 0, none⟩ = some (.slice (some ⟨bh, 0, none⟩) bn2 bc2) := (HR.out.cell (p := ⟨jm, 0, none⟩) hjm).trans ((cellO j2.out).trans rfl)
          have q0' := (HR.out.cell (p := ⟨bg, k * 3, none⟩) hbg).trans q0
          have q1' := (HR.out.cell (p := ⟨bg, k * 3 + 1, none⟩) hbg).trans q1
          have q2' := (HR.out.cell (p := ⟨bg, k * 3 + 2, none⟩) hbg).trans q2
          have r0' := (HR.out.cell (p := ⟨bh, k * 3, none⟩) hbh).trans r0
          have r1' := (HR.out.cell (p := ⟨bh, k * 3 + 1, none⟩) hbh).trans r1
          have r2' := (HR.out.cell (p := ⟨bh, k * 3 + 2, none⟩) hbh).trans r2
          have hk2 : k < bn2 := by omega
          have hcc : bn ≤ bc := I3.out.ebc
          have hcc2 : bn2 ≤ bc2 := I4.out.ebc
          clear hg hg2 q0 q1 q2 r0 r1 r2
          go_upto_region 13 with fail
          go_quiet (fail)
          go_wp2_with fail
          go_roundw
          case rel => exact ⟨k + 1, by omega, by go_num, below_drewN HR.out nq⟩
          case measure => simp [intOf]; omega
        · obtain rfl : k = bn := by omega
          go_wp2_with fail
          go_ret
          exact ⟨rfl, HB8.out.trans (HR.out.mono HB8.out.size)⟩
    · have e1 : (lf.1 != 0) = false := by rw [h1]; rfl
      have e2 : (lg.1 != 0) = true := by simpa using h2
      clear h1 h2
      go_wp2_with fail
      go_ret
      exact ⟨rfl, HB5.out⟩
  · have e1 : (lf.1 != 0) = true := by simpa using h1
    clear h1
    go_wp2_with fail
    go_ret
    exact ⟨rfl, HB5.out⟩
end Go.Proofs.YtdnbingddbakaaaDoor
