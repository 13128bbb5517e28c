/- The document's code of a call, and of a sequence. -/
import Derived.Test.YtbbmdhkbndgdkaaK46
namespace Go.Proofs.Ytbbmdhkbndgdkaa
set_option linter.unusedVariables false
set_option linter.unusedSimpArgs false
open Go.RowKit

/-- A box that is nobody's. -/
def Nb (O : Nat → Prop) (n : Nat) (A : Obj) (w : World) : Prop := w.heap[n]? = some A ∧ ¬ O n
theorem Nb.move {O O' : Nat → Prop} {B n : Nat} {A : Obj} {w w' : World} (h : Nb O n A w) (hm : Fm O O' B w w') : Nb O' n A w' := by
  have hl := (Array.getElem?_eq_some_iff.1 h.1).1
  exact ⟨(hm.keep n hl h.2).trans h.1, fun e => h.2 (hm.own n hl e)⟩
theorem genS_bound (l : List Cor) (h : ∀ c ∈ l, Len c) (pr : Nat) : (genS l true 0 pr).1.length ≤ sizL l + l.length ∧ (genS l true 0 pr).2.length = lamL l := by
  cases l with
  | nil => rw [genS, sizL, lamL]; simp
  | cons c r =>
    have := genS_len1 c r h 0 pr
    omega
theorem okL_in {l : List Cor} (h : okL l) {c : Cor} (hc : c ∈ l) : okC c := by
  induction l with
  | nil => cases hc
  | cons x r ih =>
    rw [okL] at h
    rcases List.mem_cons.1 hc with rfl | hc
    · exact h.1
    · exact ih h.2 hc
theorem smCL_in {l : List Cor} (h : smCL l) {c : Cor} (hc : c ∈ l) : smC c := by
  induction l with
  | nil => cases hc
  | cons x r ih =>
    rw [smCL] at h
    rcases List.mem_cons.1 hc with rfl | hc
    · exact h.1
    · exact ih h.2 hc
/-- The last instruction of a call, behind what was made. -/
theorem ToldG.push9 {B G T : Nat} {X : Nat → Prop} {pv av pv1 av1 tv rv' : Value} {ps ps1 : List PE} {os : List IE} {e : IE} {w w1 w4 : World} (hxl : ∀ b, X b → b < w.heap.size) (h : CS B X G pv av ps w T tv pv1 av1 os ps1 w1)
    (row4 : RowR w.heap.size (fun b => OG G pv1 av1 b ∨ (X b ∨ False)) rv' (os ++ [e]) w4) (fm4 : Fm (fun b => some b = tv.ownBlock) (fun b => some b = rv'.ownBlock) w.heap.size w1 w4) : ToldG B X G pv av ps (os.map IE.i ++ [e.i], ps1.map PE.pro) w (.returned rv') w4 := by
  have hs1 := h.fm.low.size
  have hs4 := fm4.low.size
  refine ⟨pv1, av1, ps1, rv', os ++ [e], rfl, ?_, ⟨row4.own, fun g hg o => row4.nb g hg (o.elim Or.inl (fun o => Or.inr (Or.inl o))), fun f hf => (row4.ok f hf).stay (fun _ _ => rfl) (fun b hb => ⟨hb.1, fun o => hb.2 (o.elim (fun o => Or.inl (o.elim Or.inl (fun o => Or.inr (Or.inl o)))) Or.inr)⟩)⟩, by rw [List.map_append]; rfl, rfl, ?_⟩
  · refine h.gs.other (fun b hb hh => fm4.keep b hb (fun o => ?_)) hs4 ?_ ?_
    · rcases hh with o2 | o2
      · exact h.tg b (Or.inr o) o2
      · exact o2 (Or.inr (Or.inr (Or.inr o)))
    · rintro b (o | o)
      · have := hxl b o; omega
      · exact (row4.own.lt b o.symm).2
    · rintro b hb hn (o | o)
      · exact hn (Or.inr (Or.inl o))
      · exact hn (Or.inr (Or.inr (Or.inr (fm4.own b hb o))))
  · refine ⟨h.fm.low.trans (fm4.low.mono h.bw), fun b hb ho => (fm4.keep b (by omega) (fun o => ?_)).trans (h.fm.keep b hb ho), h.fm.own⟩
    have := (h.ot.own.lt b o.symm).1
    omega

set_option maxRecDepth 100000 in
set_option maxHeartbeats 12800000 in
theorem Code_9 (B0 B f : Nat) (hB : B0 ≤ B) (X : Nat → Prop) (G : Nat) (pv av : Value) (ps : List PE) (i nn : Int) (lb ow : ByteArray) (q : Dat) (ks : List Cor) (hC : ks ≠ [] → CodeW B0 B f) (qa ka : Option Addr) (qc kc : Nat) (w : World) (hk : Cc B0 w (f + 1) ka ks) (hkc : ks.length ≤ kc) (hk1 : 1 ≤ ks.length)
    (okx : okL ks) (smx : smCL ks) (stx : stCL ks) (hsz : sizL ks ≤ 10000000) (hkl : ks.length ≤ 10000000) (hlm : ps.length + lamL ks ≤ 10000000) (hln : lonL ks ≤ 10000000) (h : GS B X G pv av ps w) :
    Calls Try.prog 20 #[.pointer (some ⟨G, 0, none⟩), .agg (cva ⟨9, i, nn, lb, ow, q, ks⟩ qa qc ka kc)] w (ToldG B X G pv av ps (genC ⟨9, i, nn, lb, ow, q, ks⟩ 0 ps.length) w) := by
  have HG := hidd h
  have HC := hidd hC
  have HL := hidd hk
  have hsb := codeB_size w #[.int .i64 9, .int .i64 i, .int .i64 nn, .string lb, .string ow, .int .i64 q.kind, .int .i64 q.n, .string q.name, .int .i64 q.stamp, .int .i64 q.lib, .slice qa q.kids.length qc, .slice ka ks.length kc]
  have HBW := hidd (codeB_below w #[.int .i64 9, .int .i64 i, .int .i64 nn, .string lb, .string ow, .int .i64 q.kind, .int .i64 q.n, .string q.name, .int .i64 q.stamp, .int .i64 q.lib, .slice qa q.kids.length qc, .slice ka ks.length kc])
  have HIN := hidd (codeB_in w #[.int .i64 9, .int .i64 i, .int .i64 nn, .string lb, .string ow, .int .i64 q.kind, .int .i64 q.n, .string q.name, .int .i64 q.stamp, .int .i64 q.lib, .slice qa q.kids.length qc, .slice ka ks.length kc])
  have CS0 := hidd (CS.start h HBW.out (T := w.heap.size + 1) (Nat.le_succ _) (codeB_out w #[.int .i64 9, .int .i64 i, .int .i64 nn, .string lb, .string ow, .int .i64 q.kind, .int .i64 q.n, .string q.name, .int .i64 q.stamp, .int .i64 q.lib, .slice qa q.kids.length qc, .slice ka ks.length kc]))
  have hB0 := h.ble
  have LEN := hidd (each_len ks okx)
  have ALL : Hid (okL ks ∧ smCL ks ∧ stCL ks) := ⟨okx, smx, stx⟩
  have NB0 : Hid (Nb (fun b => OG G pv av b ∨ (X b ∨ OO (w.heap.size + 1) (.slice none 0 0) b)) w.heap.size (.cells #[.int .i64 9, .int .i64 i, .int .i64 nn, .string lb, .string ow, .int .i64 q.kind, .int .i64 q.n, .string q.name, .int .i64 q.stamp, .int .i64 q.lib, .slice qa q.kids.length qc, .slice ka ks.length kc] 40 (0, 0)) (codeB w #[.int .i64 9, .int .i64 i, .int .i64 nn, .string lb, .string ow, .int .i64 q.kind, .int .i64 q.n, .string q.name, .int .i64 q.stamp, .int .i64 q.lib, .slice qa q.kids.length qc, .slice ka ks.length kc])) := ⟨HIN.out, by
    rintro (e | e | e | e)
    · have := (h.oglt e).2; omega
    · have := h.xlt _ e; omega
    · omega
    · simp [Value.ownBlock] at e⟩
  have hlen := hk.len
  clear hk h hC okx smx stx
  obtain ⟨R, hR⟩ : ∃ r, r = genC ⟨9, i, nn, lb, ow, q, ks⟩ 0 ps.length := ⟨_, rfl⟩
  rw [← hR]
  have HR := hidd hR
  clear hR
  unfold cva
  simp only
  obtain ⟨i1, jinf, jz0, jz1, jz2⟩ := info_parts infoIns
  have z11 : (codeB w #[.int .i64 9, .int .i64 i, .int .i64 nn, .string lb, .string ow, .int .i64 q.kind, .int .i64 q.n, .string q.name, .int .i64 q.stamp, .int .i64 q.lib, .slice qa q.kids.length qc, .slice ka ks.length kc]).cell? ⟨w.heap.size, 11, none⟩ = some (.slice ka ks.length kc) := (cellOf HIN.out).trans rfl
  have z0 : (codeB w #[.int .i64 9, .int .i64 i, .int .i64 nn, .string lb, .string ow, .int .i64 q.kind, .int .i64 q.n, .string q.name, .int .i64 q.stamp, .int .i64 q.lib, .slice qa q.kids.length qc, .slice ka ks.length kc]).cell? ⟨w.heap.size, 0, none⟩ = some (.int .i64 9) := (cellOf HIN.out).trans rfl
  go_enter Try.func20, Try.ntmps20
  go_upto_region 43 with fail
  change Code.wp _ _ _ _ (codeB w #[.int .i64 9, .int .i64 i, .int .i64 nn, .string lb, .string ow, .int .i64 q.kind, .int .i64 q.n, .string q.name, .int .i64 q.stamp, .int .i64 q.lib, .slice qa q.kids.length qc, .slice ka ks.length kc])
  generalize codeB w #[.int .i64 9, .int .i64 i, .int .i64 nn, .string lb, .string ow, .int .i64 q.kind, .int .i64 q.n, .string q.name, .int .i64 q.stamp, .int .i64 q.lib, .slice qa q.kids.length qc, .slice ka ks.length kc] = W0 at HBW HIN CS0 NB0 hsb z11 z0 ⊢
  clear z0
  go_wp2_with fail
  clear z11 HIN
  go_loopw [187] (fun ix wr => ∃ (j : Nat) (tv pv1 av1 : Value) (os : List IE) (ps1 : List PE), j ≤ ks.length ∧ ix = .int .i64 j ∧ Hid (CS B X G pv av ps w (w.heap.size + 1) tv pv1 av1 os ps1 wr) ∧ Hid (Nb (fun b => OG G pv1 av1 b ∨ (X b ∨ OO (w.heap.size + 1) (tv) b)) w.heap.size (.cells #[.int .i64 9, .int .i64 i, .int .i64 nn, .string lb, .string ow, .int .i64 q.kind, .int .i64 q.n, .string q.name, .int .i64 q.stamp, .int .i64 q.lib, .slice qa q.kids.length qc, .slice ka ks.length kc] 40 (0, 0)) wr) ∧ Hid (genL (ks.take j) 0 ps.length = (os.map IE.i, ps1.map PE.pro))) (fun ix _ => ks.length - (intOf ix).toNat)
  case atStart => exact ⟨0, .slice none 0 0, pv, av, [], [], Nat.zero_le _, rfl, CS0.out, NB0.out, (show _ = _ by simp [genL])⟩
  case round =>
    clear CS0 NB0 HBW
    obtain ⟨j, tv, pv1, av1, os, ps1, hj, rfl, CSr, NBr, GE⟩ := hrel
    by_cases hlt : j < ks.length
    · obtain ⟨c, hc⟩ : ∃ c, ks[j]? = some c := ⟨ks[j], List.getElem?_eq_getElem hlt⟩
      have hne : ks ≠ [] := by intro e; rw [e] at hlt; simp at hlt
      obtain ⟨g', b, o, hg, ha, hall⟩ := (HL.out.below (CSr.out.fm.low.mono hB)).at hne
      subst ha
      obtain rfl : g' = f := by omega
      obtain ⟨hbB, qa1, qc1, ka1, kc1, nc, ok, hq1, hk1'⟩ := hall j c hc
      have y0 := nc.c0
      have y1 := nc.c1
      have y2 := nc.c2
      have y3 := nc.c3
      have y4 := nc.c4
      have y5 := nc.c5
      have y6 := nc.c6
      have y7 := nc.c7
      have y8 := nc.c8
      have y9 := nc.c9
      have y10 := nc.c10
      have y11 := nc.c11
      have hmem := List.mem_of_getElem? hc
      have ba : Below wr.heap.size wr (wr.alloc (.cells #[.int .i64 c.kind, .int .i64 c.index, .int .i64 c.n, .string c.lib, .string c.own, .int .i64 c.quote.kind, .int .i64 c.quote.n, .string c.quote.name, .int .i64 c.quote.stamp, .int .i64 c.quote.lib, .slice qa1 c.quote.kids.length qc1, .slice ka1 c.kids.length kc1] 40)) := (Below.refl _ _).alloc (Nat.le_refl _) _
      have hcv : CvOk B0 (wr.alloc (.cells #[.int .i64 c.kind, .int .i64 c.index, .int .i64 c.n, .string c.lib, .string c.own, .int .i64 c.quote.kind, .int .i64 c.quote.n, .string c.quote.name, .int .i64 c.quote.stamp, .int .i64 c.quote.lib, .slice qa1 c.quote.kids.length qc1, .slice ka1 c.kids.length kc1] 40)) g' c qa1 qc1 ka1 kc1 := CvOk.below (w := wr) ⟨ok, hq1, hk1'⟩ (ba.mono (Nat.le_trans hB (Nat.le_trans hB0 CSr.out.fm.low.size)))
      have CSa := hidd (CSr.out.below ba)
      have NBa := hidd (NBr.out.move (Fm.of_below (B := B) ba (Nat.le_trans hB0 CSr.out.fm.low.size)))
      have hol : os.length ≤ sizL (ks.take j) ∧ ps1.length = lamL (ks.take j) := by
        have h1 := genL_len (ks.take j) (fun c hc => LEN.out c (List.mem_of_mem_take hc)) 0 ps.length
        rw [GE.out] at h1
        simp only [List.length_map] at h1
        omega
        
      have sm1 := sizL_more hc
      have sm2 := sizL_take ks (j + 1)
      have sl1 := lamL_more hc
      have sl2 := lamL_take ks (j + 1)
      have slo := lonL_mem hc
      have sol : os.length + sizC c ≤ 10000000 := by omega
      have CALL := hidd (HC.out hne (fun b => X b ∨ OO (w.heap.size + 1) tv b) G pv1 av1 (ps ++ ps1) c qa1 ka1 qc1 kc1 (wr.alloc (.cells #[.int .i64 c.kind, .int .i64 c.index, .int .i64 c.n, .string c.lib, .string c.own, .int .i64 c.quote.kind, .int .i64 c.quote.n, .string c.quote.name, .int .i64 c.quote.stamp, .int .i64 c.quote.lib, .slice qa1 c.quote.kids.length qc1, .slice ka1 c.kids.length kc1] 40)) (okL_in ALL.out.1 hmem) (smCL_in ALL.out.2.1 hmem) (stCL_mem _ ALL.out.2.2 _ hmem) (by omega) (by rw [List.length_append]; omega) (by omega) hcv CSa.out.gs)
      unfold cva at CALL
      have GM := hidd (genL_more hc 0 ps.length)
      have HCJ := hidd hc
      have LNC := hidd (genC_len c (okL_in ALL.out.1 hmem))
      have hosz := hol.1
      have hpsz := hidd hol.2
      have hsz2 : os.length + sizC c ≤ 10000000 := sol
      clear nc ok hq1 hk1' hall hc hcv ba hmem hol sm1 sm2 sl1 sl2 slo sol CSr NBr hne hosz
      go_wp2_with fail
      refine CALL.out.mono ?_
      intro e w1 ht
      obtain ⟨pv2, av2, ps2, rv, is, rfl, cs, gr, row, hm1, hm2, fm⟩ := CSa.out.call ht
      obtain ⟨ra, rc, rfl, hrc⟩ := row.slice
      have hil : is.length = sizC c := by
        have h5 := congrArg List.length hm1
        rw [List.length_map] at h5
        have := (LNC.out 0 (ps ++ ps1).length).1
        omega
      have hils : is.length ≤ sizC c := by omega
      have JBX := hidd (jb_rows hm1 (by omega))
      have NB1 := hidd (NBa.out.move fm)
      have ADD := hidd (add_any w.heap.size (w.heap.size + 1) (tv) os is ra rc w1 cs.ot (Rd.of_own row.own) hrc (by omega) JBX.out)
      have C1 := hidd cs
      have RW := hidd row
      have M1 : Hid (is.map IE.i = (genC c 0 (ps ++ ps1).length).1 ∧ ps2.map PE.pro = (genC c 0 (ps ++ ps1).length).2) := ⟨hm1, hm2⟩
      clear gr row hm1 hm2 fm cs ht CALL hil CSa NBa LNC
      go_wp2_with fail
      refine ADD.out.mono ?_
      rintro e w2 ⟨rfl, tv2, hot, hfm⟩
      obtain ⟨hcs, hf1⟩ := C1.out.grow hot hfm (RW.out.data _)
      have NB2 := hidd (NB1.out.move hf1)
      have CS2 := hidd hcs
      clear hot hfm hcs hf1 ADD C1 RW NB1
      clear y0 y1 y2 y3 y4 y5 y6 y7 y8 y9 y10 y11
      go_wp2_with fail
      go_roundw
      case rel => exact ⟨j + 1, tv2, pv2, av2, _, ps1 ++ ps2, by omega, by go_num, CS2.out, NB2.out, (by
        show _ = _
        rw [GM.out, GE.out]; simp only [List.length_map, List.map_append, onE_map]; rw [genC_at c (0 + os.length) (ps.length + ps1.length), ← List.length_append, ← M1.out.1, ← M1.out.2, Nat.zero_add])⟩
      case measure => simp [intOf]; omega
    · obtain rfl : j = ks.length := by omega
      rw [List.take_length] at GE
      obtain ⟨ta, tc, rfl, htc⟩ := CSr.out.ot.slice
      have n0 : wr.cell? ⟨w.heap.size + 1, 0, none⟩ = some (.slice ta os.length tc) := (cellOf CSr.out.ot.box).trans rfl
      have z11 : wr.cell? ⟨w.heap.size, 11, none⟩ = some (.slice ka ks.length kc) := (cellOf NBr.out.1).trans rfl
      have hol : os.length ≤ sizL ks := by
        have h1 := genL_len ks LEN.out 0 ps.length
        rw [GE.out] at h1
        simp only [List.length_map] at h1
        omega
      have HE : Hid (R = (os.map IE.i ++ [insA 8 ((ks.length : Int) - 1)], ps1.map PE.pro)) := by
        show _ = _
        rw [HR.out, genC_else i nn lb ow q ks 0 ps.length (by decide) (by decide) (by decide), GE.out]
        have : lastI ⟨9, i, nn, lb, ow, q, ks⟩ = insA 8 ((ks.length : Int) - 1) := by unfold lastI; simp
        rw [this]
      have hwx : IntKind.i64.wrap ((ks.length : Int) - 1) = (ks.length : Int) - 1 := wrapI (by omega) (by omega)
      have R2 : Hid (RowR w.heap.size (fun b => OG G pv1 av1 b ∨ (X b ∨ False)) (.slice ta os.length tc) os wr) := by
        refine ⟨CSr.out.ot.own, fun g hg e => ?_, fun e he => (CSr.out.ok e he).stay (fun _ _ => rfl) (fun b hb => ⟨hb.1, fun e => hb.2 (e.elim (fun e => e.elim (fun e => Or.inl (Or.inl e)) (fun e => e.elim (fun e => Or.inl (Or.inr e)) False.elim)) (fun e => Or.inr (Or.inr e)))⟩)⟩
        rcases e with e | e | e
        · exact CSr.out.tg g (Or.inr hg.symm) e
        · exact CSr.out.tx g (Or.inr hg.symm) e
        · exact e
      have HO : Hid ((wr.alloc (.cells (IE.mk (insA 8 ((ks.length : Int) - 1)) none 0).cells.toArray 46)).ownsRow w.heap.size 46 11 (.slice ta os.length tc) os.length (flatI os) ∧ w.heap.size ≤ (wr.alloc (.cells (IE.mk (insA 8 ((ks.length : Int) - 1)) none 0).cells.toArray 46)).heap.size) := ⟨CSr.out.ot.own.alloc _, by have := CSr.out.ot.ble; simp; omega⟩
      clear GE HR
      go_wp2_with (at_builtin; refine wpList_row rfl _ _ 42 rfl w.heap.size 46 i1 _ 11 128 Try.underlying42 jinf jz0 jz1 jz2 rfl (by decide) (.slice ta os.length tc) os.length (flatI os) rfl HO.out.1 (some ⟨wr.heap.size, 0, none⟩) 1 1 (IE.mk (insA 8 ((ks.length : Int) - 1)) none 0).cells rfl rfl (Or.inr ⟨wr.heap.size, 0, rfl, alloc1_cells wr _ _ _ rfl⟩) (IE.one _) (by unfold maxLen; omega) (by omega) HO.out.2 ?_)
      intro v4 w4 hown4 hg4 hw4
      obtain ⟨row4, fm4⟩ := R2.out.push ((Below.refl _ _).alloc (Nat.le_refl _) (.cells (IE.mk (insA 8 ((ks.length : Int) - 1)) none 0).cells.toArray 46)) CSr.out.ot.ble (fun b e => e.elim (fun e => (CSr.out.gs.oglt e).2) (fun e => e.elim (fun e => CSr.out.gs.xlt b (Or.inl e)) False.elim)) ⟨insA 8 ((ks.length : Int) - 1), none, 0⟩ (ie_plain _ _ _ (Nat.zero_le _) (Nat.zero_le _) rfl) hown4 hg4 (by simpa using hw4)
      have hTin : CS B X G pv av ps w (w.heap.size + 1) (.slice ta os.length tc) pv1 av1 os ps1 wr := CSr.out
      have END := hidd (ToldG.push9 HG.out.xlt hTin row4 fm4)
      have hq := HE.out
      subst hq
      clear row4 fm4 hown4 hg4 hw4 HO R2 HE n0 z11 hTin CSr NBr
      try simp only [Act.put, List.setIfInBounds_toArray, List.set_cons_succ, List.set_cons_zero]
      go_wp2_with fail
      go_ret
      exact END.out
end Go.Proofs.Ytbbmdhkbndgdkaa
