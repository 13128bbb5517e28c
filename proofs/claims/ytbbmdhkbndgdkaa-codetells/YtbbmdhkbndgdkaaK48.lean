/- The document's code of a sequence. -/
import Derived.Test.YtbbmdhkbndgdkaaK47
namespace Go.Proofs.Ytbbmdhkbndgdkaa
set_option linter.unusedVariables false
set_option linter.unusedSimpArgs false
open Go.RowKit

set_option maxRecDepth 100000 in
set_option maxHeartbeats 12800000 in
theorem Code_12 (B0 B f : Nat) (hB : B0 ≤ B) (X : Nat → Prop) (G : Nat) (pv av : Value) (ps : List PE) (i nn : Int) (lb ow : ByteArray) (q : Dat) (ks : List Cor) (hC : ks ≠ [] → CodeW B0 B f) (qa ka : Option Addr) (qc kc : Nat) (w : World) (hk : Cc B0 w (f + 1) ka ks) (hkc : ks.length ≤ kc) (hk1 : 1 ≤ ks.length)
    (okx : okL ks) (smx : smCL ks) (stx : stCL ks) (hsz : sizL ks + ks.length ≤ 10000001) (hlm : ps.length + lamL ks ≤ 10000000) (hln : lonL ks ≤ 10000000) (h : GS B X G pv av ps w) :
    Calls Try.prog 20 #[.pointer (some ⟨G, 0, none⟩), .agg (cva ⟨12, i, nn, lb, ow, q, ks⟩ qa qc ka kc)] w (ToldG B X G pv av ps (genC ⟨12, i, nn, lb, ow, q, ks⟩ 0 ps.length) w) := by
  have HG := hidd h
  have HC := hidd hC
  have HL := hidd hk
  have hsb := codeB_size w #[.int .i64 12, .int .i64 i, .int .i64 nn, .string lb, .string ow, .int .i64 q.kind, .int .i64 q.n, .string q.name, .int .i64 q.stamp, .int .i64 q.lib, .slice qa q.kids.length qc, .slice ka ks.length kc]
  have HBW := hidd (codeB_below w #[.int .i64 12, .int .i64 i, .int .i64 nn, .string lb, .string ow, .int .i64 q.kind, .int .i64 q.n, .string q.name, .int .i64 q.stamp, .int .i64 q.lib, .slice qa q.kids.length qc, .slice ka ks.length kc])
  have HIN := hidd (codeB_in w #[.int .i64 12, .int .i64 i, .int .i64 nn, .string lb, .string ow, .int .i64 q.kind, .int .i64 q.n, .string q.name, .int .i64 q.stamp, .int .i64 q.lib, .slice qa q.kids.length qc, .slice ka ks.length kc])
  have CS0 := hidd (CS.start h HBW.out (T := w.heap.size + 1) (Nat.le_succ _) (codeB_out w #[.int .i64 12, .int .i64 i, .int .i64 nn, .string lb, .string ow, .int .i64 q.kind, .int .i64 q.n, .string q.name, .int .i64 q.stamp, .int .i64 q.lib, .slice qa q.kids.length qc, .slice ka ks.length kc]))
  have hB0 := h.ble
  have LEN := hidd (each_len ks okx)
  have ALL : Hid (okL ks ∧ smCL ks ∧ stCL ks) := ⟨okx, smx, stx⟩
  have NB0 : Hid (Nb (fun b => OG G pv av b ∨ (X b ∨ OO (w.heap.size + 1) (.slice none 0 0) b)) w.heap.size (.cells #[.int .i64 12, .int .i64 i, .int .i64 nn, .string lb, .string ow, .int .i64 q.kind, .int .i64 q.n, .string q.name, .int .i64 q.stamp, .int .i64 q.lib, .slice qa q.kids.length qc, .slice ka ks.length kc] 40 (0, 0)) (codeB w #[.int .i64 12, .int .i64 i, .int .i64 nn, .string lb, .string ow, .int .i64 q.kind, .int .i64 q.n, .string q.name, .int .i64 q.stamp, .int .i64 q.lib, .slice qa q.kids.length qc, .slice ka ks.length kc])) := ⟨HIN.out, by
    rintro (e | e | e | e)
    · have := (h.oglt e).2; omega
    · have := h.xlt _ e; omega
    · omega
    · simp [Value.ownBlock] at e⟩
  have hlen := hk.len
  clear hk h hC okx smx stx
  obtain ⟨R, hR⟩ : ∃ r, r = genC ⟨12, i, nn, lb, ow, q, ks⟩ 0 ps.length := ⟨_, rfl⟩
  rw [← hR]
  have HR := hidd hR
  clear hR
  unfold cva
  simp only
  obtain ⟨i1, jinf, jz0, jz1, jz2⟩ := info_parts infoIns
  have z11 : (codeB w #[.int .i64 12, .int .i64 i, .int .i64 nn, .string lb, .string ow, .int .i64 q.kind, .int .i64 q.n, .string q.name, .int .i64 q.stamp, .int .i64 q.lib, .slice qa q.kids.length qc, .slice ka ks.length kc]).cell? ⟨w.heap.size, 11, none⟩ = some (.slice ka ks.length kc) := (cellOf HIN.out).trans rfl
  have z0 : (codeB w #[.int .i64 12, .int .i64 i, .int .i64 nn, .string lb, .string ow, .int .i64 q.kind, .int .i64 q.n, .string q.name, .int .i64 q.stamp, .int .i64 q.lib, .slice qa q.kids.length qc, .slice ka ks.length kc]).cell? ⟨w.heap.size, 0, none⟩ = some (.int .i64 12) := (cellOf HIN.out).trans rfl
  go_enter Try.func20, Try.ntmps20
  go_upto_region 34 with fail
  change Code.wp _ _ _ _ (codeB w #[.int .i64 12, .int .i64 i, .int .i64 nn, .string lb, .string ow, .int .i64 q.kind, .int .i64 q.n, .string q.name, .int .i64 q.stamp, .int .i64 q.lib, .slice qa q.kids.length qc, .slice ka ks.length kc])
  generalize codeB w #[.int .i64 12, .int .i64 i, .int .i64 nn, .string lb, .string ow, .int .i64 q.kind, .int .i64 q.n, .string q.name, .int .i64 q.stamp, .int .i64 q.lib, .slice qa q.kids.length qc, .slice ka ks.length kc] = W0 at HBW HIN CS0 NB0 hsb z11 z0 ⊢
  clear z0
  go_wp2_with fail
  clear z11 HIN
  go_loopw [164] (fun ix wr => ∃ (j : Nat) (tv pv1 av1 : Value) (os : List IE) (ps1 : List PE), j ≤ ks.length ∧ ix = .int .i64 j ∧ Hid (CS B X G pv av ps w (w.heap.size + 1) tv pv1 av1 os ps1 wr) ∧ Hid (Nb (fun b => OG G pv1 av1 b ∨ (X b ∨ OO (w.heap.size + 1) (tv) b)) w.heap.size (.cells #[.int .i64 12, .int .i64 i, .int .i64 nn, .string lb, .string ow, .int .i64 q.kind, .int .i64 q.n, .string q.name, .int .i64 q.stamp, .int .i64 q.lib, .slice qa q.kids.length qc, .slice ka ks.length kc] 40 (0, 0)) wr) ∧ Hid (genS (ks.take j) true 0 ps.length = (os.map IE.i, ps1.map PE.pro))) (fun ix _ => ks.length - (intOf ix).toNat)
  case atStart => exact ⟨0, .slice none 0 0, pv, av, [], [], Nat.zero_le _, rfl, CS0.out, NB0.out, (show _ = _ by simp [genS])⟩
  case round =>
    clear CS0 NB0 HBW
    obtain ⟨j, tv, pv1, av1, os, ps1, hj, rfl, CSr, NBr, GE⟩ := hrel
    by_cases hlt : j < ks.length
    · obtain ⟨c, hc⟩ : ∃ c, ks[j]? = some c := ⟨ks[j], List.getElem?_eq_getElem hlt⟩
      have hne : ks ≠ [] := by intro e; rw [e] at hlt; simp at hlt
      obtain ⟨g', b, o, hg, ha, hall⟩ := (HL.out.below (CSr.out.fm.low.mono hB)).at hne
      subst ha
      obtain rfl : g' = f := by omega
      obtain ⟨hbB, qa1, qc1, ka1, kc1, nc, ok, hq1, hk1'⟩ := hall j c hc
      have y0 := nc.c0
      have y1 := nc.c1
      have y2 := nc.c2
      have y3 := nc.c3
      have y4 := nc.c4
      have y5 := nc.c5
      have y6 := nc.c6
      have y7 := nc.c7
      have y8 := nc.c8
      have y9 := nc.c9
      have y10 := nc.c10
      have y11 := nc.c11
      have hmem := List.mem_of_getElem? hc
      have ba : Below wr.heap.size wr (wr.alloc (.cells #[.int .i64 c.kind, .int .i64 c.index, .int .i64 c.n, .string c.lib, .string c.own, .int .i64 c.quote.kind, .int .i64 c.quote.n, .string c.quote.name, .int .i64 c.quote.stamp, .int .i64 c.quote.lib, .slice qa1 c.quote.kids.length qc1, .slice ka1 c.kids.length kc1] 40)) := (Below.refl _ _).alloc (Nat.le_refl _) _
      have hcv : CvOk B0 (wr.alloc (.cells #[.int .i64 c.kind, .int .i64 c.index, .int .i64 c.n, .string c.lib, .string c.own, .int .i64 c.quote.kind, .int .i64 c.quote.n, .string c.quote.name, .int .i64 c.quote.stamp, .int .i64 c.quote.lib, .slice qa1 c.quote.kids.length qc1, .slice ka1 c.kids.length kc1] 40)) g' c qa1 qc1 ka1 kc1 := CvOk.below (w := wr) ⟨ok, hq1, hk1'⟩ (ba.mono (Nat.le_trans hB (Nat.le_trans hB0 CSr.out.fm.low.size)))
      have CSa := hidd (CSr.out.below ba)
      have NBa := hidd (NBr.out.move (Fm.of_below (B := B) ba (Nat.le_trans hB0 CSr.out.fm.low.size)))
      have hol : os.length ≤ sizL (ks.take j) + j ∧ ps1.length = lamL (ks.take j) := by
        have h1 := genS_bound (ks.take j) (fun c hc => LEN.out c (List.mem_of_mem_take hc)) ps.length
        rw [GE.out] at h1
        simp only [List.length_map] at h1
        have h2 : (ks.take j).length = j := by rw [List.length_take]; omega
        omega
      have sm1 := sizL_more hc
      have sm2 := sizL_take ks (j + 1)
      have sl1 := lamL_more hc
      have sl2 := lamL_take ks (j + 1)
      have slo := lonL_mem hc
      have sol : os.length + sizC c ≤ 10000000 := by omega
      have NK0 : Hid (Nb (fun b => OG G pv1 av1 b ∨ (X b ∨ OO (w.heap.size + 1) (tv) b)) wr.heap.size (.cells #[.int .i64 c.kind, .int .i64 c.index, .int .i64 c.n, .string c.lib, .string c.own, .int .i64 c.quote.kind, .int .i64 c.quote.n, .string c.quote.name, .int .i64 c.quote.stamp, .int .i64 c.quote.lib, .slice qa1 c.quote.kids.length qc1, .slice ka1 c.kids.length kc1] 40 (0, 0)) (wr.alloc (.cells #[.int .i64 c.kind, .int .i64 c.index, .int .i64 c.n, .string c.lib, .string c.own, .int .i64 c.quote.kind, .int .i64 c.quote.n, .string c.quote.name, .int .i64 c.quote.stamp, .int .i64 c.quote.lib, .slice qa1 c.quote.kids.length qc1, .slice ka1 c.kids.length kc1] 40))) := ⟨World.alloc_heap_new wr _, by
        rintro (e | e | e | e)
        · have := (CSr.out.gs.oglt e).2; omega
        · have := CSr.out.gs.xlt _ (Or.inl e); omega
        · have := CSr.out.ot.lt; omega
        · have := (CSr.out.ot.own.lt _ e.symm).2; omega⟩
      have CALLG : Hid (∀ (W : World) (tvx : Value), Below B wr W → GS B (fun b => X b ∨ OO (w.heap.size + 1) tvx b) G pv1 av1 (ps ++ ps1) W → Calls Try.prog 20 #[.pointer (some ⟨G, 0, none⟩), .agg (cva c qa1 qc1 ka1 kc1)] W (ToldG B (fun b => X b ∨ OO (w.heap.size + 1) tvx b) G pv1 av1 (ps ++ ps1) (genC c 0 (ps ++ ps1).length) W)) := fun W tvx hb hgs => HC.out hne (fun b => X b ∨ OO (w.heap.size + 1) tvx b) G pv1 av1 (ps ++ ps1) c qa1 ka1 qc1 kc1 W (okL_in ALL.out.1 hmem) (smCL_in ALL.out.2.1 hmem) (stCL_mem _ ALL.out.2.2 _ hmem) (by omega) (by rw [List.length_append]; omega) (by omega) (CvOk.below (w := wr) ⟨ok, hq1, hk1'⟩ (hb.mono hB)) hgs
      have BA := hidd (ba.mono (Nat.le_trans hB0 CSr.out.fm.low.size))
      unfold cva at CALLG
      have GM := hidd (genS_more (l := ks) (j := j) (c := c) hc)
      have HCJ := hidd hc
      have LNC := hidd (genC_len c (okL_in ALL.out.1 hmem))
      have hosz := hol.1
      have hpsz := hidd hol.2
      have hsz2 : os.length + sizC c ≤ 10000000 := sol
      clear nc ok hq1 hk1' hall hc hcv ba hmem hol sm1 sm2 sl1 sl2 slo sol CSr NBr hne hosz
      by_cases h0 : j = 0
      · subst h0
        simp only [Nat.zero_mul, Nat.add_zero] at y0 y1 y2 y3 y4 y5 y6 y7 y8 y9 y10 y11
        have CALL := hidd (CALLG.out _ tv BA.out CSa.out.gs)
        clear CALLG NK0
        go_wp2_with fail
        refine CALL.out.mono ?_
        intro e w1 ht
        obtain ⟨pv2, av2, ps2, rv, is, rfl, cs, gr, row, hm1, hm2, fm⟩ := CSa.out.call ht
        obtain ⟨ra, rc, rfl, hrc⟩ := row.slice
        have hil : is.length = sizC c := by
          have h5 := congrArg List.length hm1
          rw [List.length_map] at h5
          have := (LNC.out 0 (ps ++ ps1).length).1
          omega
        have hils : is.length ≤ sizC c := by omega
        have JBX := hidd (jb_rows hm1 (by omega))
        have NB1 := hidd (NBa.out.move fm)
        have ADD := hidd (add_any w.heap.size (w.heap.size + 1) (tv) os is ra rc w1 cs.ot (Rd.of_own row.own) hrc (by omega) JBX.out)
        have C1 := hidd cs
        have RW := hidd row
        have M1 : Hid (is.map IE.i = (genC c 0 (ps ++ ps1).length).1 ∧ ps2.map PE.pro = (genC c 0 (ps ++ ps1).length).2) := ⟨hm1, hm2⟩
        clear gr row hm1 hm2 fm cs ht CALL hil CSa NBa LNC
        go_wp2_with fail
        refine ADD.out.mono ?_
        rintro e w2 ⟨rfl, tv2, hot, hfm⟩
        obtain ⟨hcs, hf1⟩ := C1.out.grow hot hfm (RW.out.data _)
        have NB2 := hidd (NB1.out.move hf1)
        have CS2 := hidd hcs
        clear hot hfm hcs hf1 ADD C1 RW NB1
        clear y0 y1 y2 y3 y4 y5 y6 y7 y8 y9 y10 y11
        go_wp2_with fail
        go_roundw
        case rel => exact ⟨0 + 1, tv2, pv2, av2, _, ps1 ++ ps2, by omega, by go_num, CS2.out, NB2.out, (by
        show _ = _
        rw [Nat.zero_add, genS_first HCJ.out 0 ps.length]; have e0 := GE.out; simp only [List.take_zero, genS] at e0; have e1 : os = [] := (by simpa using (congrArg Prod.fst e0).symm); have e2 : ps1 = [] := (by simpa using (congrArg Prod.snd e0).symm); subst e1 e2; have m1 := M1.out; rw [List.append_nil] at m1; rw [List.nil_append, List.nil_append, onE_map, m1.1, m1.2, List.length_nil, show onI 0 0 = id from funext onI00, List.map_id])⟩
        case measure => simp [intOf]; omega
      · have h0' : (0 : Int) < j := by omega
        go_upto_region 38 with fail
        clear y0 y1 y2 y3 y4 y5 y6 y7 y8 y9 y10 y11
        generalize wr.alloc (.cells #[.int .i64 c.kind, .int .i64 c.index, .int .i64 c.n, .string c.lib, .string c.own, .int .i64 c.quote.kind, .int .i64 c.quote.n, .string c.quote.name, .int .i64 c.quote.stamp, .int .i64 c.quote.lib, .slice qa1 c.quote.kids.length qc1, .slice ka1 c.kids.length kc1] 40) = wa at CSa NBa NK0 BA ⊢
        generalize wr.heap.size = kb at NK0 ⊢
        obtain ⟨ta5, tc5, rfl, htc5⟩ := CSa.out.ot.slice
        have n0 : wa.cell? ⟨w.heap.size + 1, 0, none⟩ = some (.slice ta5 os.length tc5) := (cellOf CSa.out.ot.box).trans rfl
        have HO : Hid ((wa.alloc (.cells (IE.mk (insO 14) none 0).cells.toArray 46)).ownsRow w.heap.size 46 11 (.slice ta5 os.length tc5) os.length (flatI os) ∧ w.heap.size ≤ (wa.alloc (.cells (IE.mk (insO 14) none 0).cells.toArray 46)).heap.size) := ⟨CSa.out.ot.own.alloc _, by have := CSa.out.ot.ble; simp; omega⟩
        go_wp2_with (at_builtin; refine wpList_row rfl _ _ 42 rfl w.heap.size 46 i1 _ 11 128 Try.underlying42 jinf jz0 jz1 jz2 rfl (by decide) (.slice ta5 os.length tc5) os.length (flatI os) rfl HO.out.1 (some ⟨wa.heap.size, 0, none⟩) 1 1 (IE.mk (insO 14) none 0).cells rfl rfl (Or.inr ⟨wa.heap.size, 0, rfl, alloc1_cells wa _ _ _ rfl⟩) (IE.one _) (by unfold maxLen; omega) (by omega) HO.out.2 ?_)
        intro tv5 wq ho hg hw
        obtain ⟨hot, hfm⟩ := CSa.out.ot.push (fs := [IE.mk (insO 14) none 0]) ((Below.refl _ _).alloc (Nat.le_refl _) (.cells (IE.mk (insO 14) none 0).cells.toArray 46)) (by simpa [flatI] using ho) hg (by simpa using hw)
        obtain ⟨hcs, hf1⟩ := CSa.out.grow hot hfm (fun e he => by simp at he; subst he; exact ie_plain _ _ _ (Nat.zero_le _) (Nat.zero_le _) rfl)
        have tb : wq.heap[w.heap.size + 1]? = some (.cells #[.slice ta5 os.length tc5] 42 (0, 0)) := (hg.block _ (by have := CSa.out.ot.lt; simp; omega) (fun e => CSa.out.ot.sep e.symm)).trans ((Below.heap_alloc _ _ _ CSa.out.ot.lt).trans CSa.out.ot.box)
        have n1 : wq.cell? ⟨w.heap.size + 1, 0, none⟩ = some (.slice ta5 os.length tc5) := (cellOf tb).trans rfl
        have q1 : wq.frozen? ⟨w.heap.size + 1, 0, none⟩ = false := by simp [World.frozen?, tb]
        obtain ⟨sa5, sc5, hsv, _⟩ := own_slice ho
        subst hsv
        have CS5 := hidd hcs
        have NB5 := hidd (NBa.out.move hf1)
        have NK5 := hidd (NK0.out.move hf1)
        have BA5 := hidd (BA.out.trans hf1.low)
        obtain ⟨L5, hL⟩ : ∃ L, L = os ++ [IE.mk (insO 14) none 0] := ⟨_, rfl⟩
        have HL5 := hidd hL
        have LL5 : Hid (L5.length = os.length + 1) := by show _ = _; rw [hL]; simp
        rw [← hL] at CS5
        clear hL hcs hf1 hfm hot tb ho hg hw HO n0 CSa NBa NK0 BA
        try simp only [Act.put, List.setIfInBounds_toArray, List.set_cons_succ, List.set_cons_zero]
        go_upto_region 39 with fail
        clear n1 q1
        generalize wq.setCell ⟨w.heap.size + 1, 0, none⟩ (.slice sa5 (os.length + 1) sc5) = w5 at CS5 NB5 NK5 BA5 ⊢
        have CALL := hidd (CALLG.out w5 _ BA5.out CS5.out.gs)
        have y0 : w5.cell? ⟨kb, 0, none⟩ = some (.int .i64 c.kind) := (cellOf NK5.out.1).trans rfl
        have y1 : w5.cell? ⟨kb, 1, none⟩ = some (.int .i64 c.index) := (cellOf NK5.out.1).trans rfl
        have y2 : w5.cell? ⟨kb, 2, none⟩ = some (.int .i64 c.n) := (cellOf NK5.out.1).trans rfl
        have y3 : w5.cell? ⟨kb, 3, none⟩ = some (.string c.lib) := (cellOf NK5.out.1).trans rfl
        have y4 : w5.cell? ⟨kb, 4, none⟩ = some (.string c.own) := (cellOf NK5.out.1).trans rfl
        have y5 : w5.cell? ⟨kb, 5, none⟩ = some (.int .i64 c.quote.kind) := (cellOf NK5.out.1).trans rfl
        have y6 : w5.cell? ⟨kb, 6, none⟩ = some (.int .i64 c.quote.n) := (cellOf NK5.out.1).trans rfl
        have y7 : w5.cell? ⟨kb, 7, none⟩ = some (.string c.quote.name) := (cellOf NK5.out.1).trans rfl
        have y8 : w5.cell? ⟨kb, 8, none⟩ = some (.int .i64 c.quote.stamp) := (cellOf NK5.out.1).trans rfl
        have y9 : w5.cell? ⟨kb, 9, none⟩ = some (.int .i64 c.quote.lib) := (cellOf NK5.out.1).trans rfl
        have y10 : w5.cell? ⟨kb, 10, none⟩ = some (.slice qa1 c.quote.kids.length qc1) := (cellOf NK5.out.1).trans rfl
        have y11 : w5.cell? ⟨kb, 11, none⟩ = some (.slice ka1 c.kids.length kc1) := (cellOf NK5.out.1).trans rfl
        clear CALLG NK5 BA5
        go_wp2_with fail
        refine CALL.out.mono ?_
        intro e w1 ht
        obtain ⟨pv2, av2, ps2, rv, is, rfl, cs, gr, row, hm1, hm2, fm⟩ := CS5.out.call ht
        obtain ⟨ra, rc, rfl, hrc⟩ := row.slice
        have hil : is.length = sizC c := by
          have h5 := congrArg List.length hm1
          rw [List.length_map] at h5
          have := (LNC.out 0 (ps ++ ps1).length).1
          omega
        have hils : is.length ≤ sizC c := by omega
        have JBX := hidd (jb_rows hm1 (by omega))
        have NB1 := hidd (NB5.out.move fm)
        have ADD := hidd (add_any w.heap.size (w.heap.size + 1) (.slice sa5 (os.length + 1) sc5) L5 is ra rc w1 cs.ot (Rd.of_own row.own) hrc (by have := LL5.out; omega) JBX.out)
        have C1 := hidd cs
        have RW := hidd row
        have M1 : Hid (is.map IE.i = (genC c 0 (ps ++ ps1).length).1 ∧ ps2.map PE.pro = (genC c 0 (ps ++ ps1).length).2) := ⟨hm1, hm2⟩
        clear gr row hm1 hm2 fm cs ht CALL hil CS5 NB5 LNC
        go_wp2_with fail
        refine ADD.out.mono ?_
        rintro e w2 ⟨rfl, tv2, hot, hfm⟩
        obtain ⟨hcs, hf1⟩ := C1.out.grow hot hfm (RW.out.data _)
        have NB2 := hidd (NB1.out.move hf1)
        have CS2 := hidd hcs
        clear hot hfm hcs hf1 ADD C1 RW NB1
        clear y0 y1 y2 y3 y4 y5 y6 y7 y8 y9 y10 y11
        go_wp2_with fail
        go_roundw
        case rel => exact ⟨j + 1, tv2, pv2, av2, _, ps1 ++ ps2, by omega, by go_num, CS2.out, NB2.out, (by
        show _ = _
        rw [GM.out (by omega) 0 ps.length, GE.out, HL5.out]; simp only [List.length_map, List.map_append, onE_map, List.map_cons, List.map_nil, List.append_assoc, List.singleton_append, List.length_append, List.length_singleton]; rw [genC_at c (0 + os.length + 1) (ps.length + ps1.length), ← List.length_append, ← M1.out.1, ← M1.out.2, Nat.zero_add])⟩
        case measure => simp [intOf]; omega
    · obtain rfl : j = ks.length := by omega
      rw [List.take_length] at GE
      obtain ⟨ta, tc, rfl, htc⟩ := CSr.out.ot.slice
      have n0 : wr.cell? ⟨w.heap.size + 1, 0, none⟩ = some (.slice ta os.length tc) := (cellOf CSr.out.ot.box).trans rfl
      have HE : Hid (R = (os.map IE.i, ps1.map PE.pro)) := by
        show _ = _
        rw [HR.out, genC_12, GE.out]
      have DN := hidd CSr.out.done
      have hq := HE.out
      subst hq
      clear GE HR HE CSr NBr
      go_wp2_with fail
      go_ret
      exact DN.out
end Go.Proofs.Ytbbmdhkbndgdkaa
