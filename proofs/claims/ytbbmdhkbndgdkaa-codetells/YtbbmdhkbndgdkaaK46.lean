/- The document's code of a choice. -/
import Derived.Test.YtbbmdhkbndgdkaaK45
namespace Go.Proofs.Ytbbmdhkbndgdkaa
set_option linter.unusedVariables false
set_option linter.unusedSimpArgs false
open Go.RowKit

theorem onI00 (x : In) : onI 0 0 x = x := by
  by_cases h : x.op = 9 ∨ x.op = 10
  · rw [onI_jump h]; simp
  · exact onI_noj (fun e => h (Or.inl e)) (fun e => h (Or.inr e))
theorem onP0 (p : Pro) : onP 0 p = p := by
  obtain ⟨a, c⟩ := p
  unfold onP
  simp only
  congr
  rw [show onI 0 0 = id from funext onI00, List.map_id]
/-- Code from a place on. -/
theorem genC_at (c : Cor) (n pr : Nat) : genC c n pr = ((genC c 0 pr).1.map (onI n 0), (genC c 0 pr).2) := by
  have h := genC_on c n 0 0 pr
  rw [Nat.zero_add, Nat.add_zero] at h
  rw [h, show onP 0 = id from funext onP0, List.map_id]
theorem RowR.data {B0 : Nat} {O P : Nat → Prop} {Q : Nat → Prop} {rv : Value} {es : List IE} {w : World} (h : RowR B0 (fun b => O b ∨ (P b ∨ Q b)) rv es w) (n : Nat) : ∀ e ∈ es.map (onE n), e.Ok (fun b => b < w.heap.size ∧ ¬ ((O b ∨ P b) ∨ Q b)) w := by
  intro e he
  obtain ⟨f, hf, rfl⟩ := List.mem_map.1 he
  exact onE_ok ((h.ok f hf).stay (fun _ _ => rfl) (fun b hb => ⟨hb.1, fun o => hb.2 (Or.inl (o.elim (fun o => o.elim Or.inl (fun o => Or.inr (Or.inl o))) (fun o => Or.inr (Or.inr o))))⟩))
theorem jb_rows {c : Cor} {pr : Nat} {is : List IE} (h : is.map IE.i = (genC c 0 pr).1) (hl : is.length ≤ 10000000) : ∀ e ∈ is, (e.i.op = 9 ∨ e.i.op = 10) → 0 ≤ e.i.a ∧ e.i.a ≤ 1000000000 := by
  intro e he ho
  have hm : e.i ∈ (genC c 0 pr).1 := by rw [← h]; exact List.mem_map_of_mem he
  have h2 := ((genC_jg c 0 pr).1 e.i hm).1 ho
  have h3 := congrArg List.length h
  rw [List.length_map] at h3
  refine ⟨h2.1, ?_⟩
  have := h2.2
  omega
/-- The choice's code, put together. -/
theorem genC_choice (i nn : Int) (lb ow : ByteArray) (q : Dat) (x y z : Cor) (pr : Nat) (a b d : List IE) (p1 p2 p3 : List PE) (ha : a.map IE.i = (genC x 0 pr).1) (hp1 : p1.map PE.pro = (genC x 0 pr).2) (hb : b.map IE.i = (genC y 0 (pr + p1.length)).1) (hp2 : p2.map PE.pro = (genC y 0 (pr + p1.length)).2)
    (hd : d.map IE.i = (genC z 0 (pr + p1.length + p2.length)).1) (hp3 : p3.map PE.pro = (genC z 0 (pr + p1.length + p2.length)).2) :
    genC ⟨7, i, nn, lb, ow, q, [x, y, z]⟩ 0 pr = ((((([] ++ a.map (onE 0)) ++ [IE.mk (insA 10 ((a.length : Int) + 1 + b.length + 1)) none 0]) ++ b.map (onE (a.length + 1))) ++ [IE.mk (insA 9 ((a.length : Int) + 1 + b.length + 1 + d.length)) none 0] ++ d.map (onE (a.length + 1 + b.length + 1))).map IE.i, (p1 ++ p2 ++ p3).map PE.pro) := by
  have l1 : (genC x 0 pr).1.length = a.length := by rw [← ha, List.length_map]
  have l2 : (genC x 0 pr).2.length = p1.length := by rw [← hp1, List.length_map]
  rw [genC]
  simp only [Int.reduceEq, if_false, if_true]
  rw [l1, l2, Nat.zero_add, genC_at y (a.length + 1) (pr + p1.length), ← hb, ← hp2]
  simp only [List.length_map]
  rw [genC_at z (a.length + 1 + b.length + 1) (pr + p1.length + p2.length), ← hd, ← hp3, ← ha, ← hp1]
  simp only [List.length_map, List.map_append, List.map_cons, List.map_nil, onE_map, List.nil_append, List.map_map]
  have e0 : (IE.i ∘ onE 0) = IE.i := by funext e; simp [onE, onI00]
  refine Prod.ext ?_ rfl
  simp [onE, onI00, Function.comp_def, insA]

set_option maxRecDepth 100000 in
set_option maxHeartbeats 12800000 in
theorem Code_7 (B0 B f : Nat) (hB : B0 ≤ B) (hC : CodeW B0 B f) (X : Nat → Prop) (G : Nat) (pv av : Value) (ps : List PE) (i nn : Int) (lb ow : ByteArray) (q : Dat) (x y z : Cor) (qa ka : Option Addr) (qc kc : Nat) (w : World) (hk : Cc B0 w (f + 1) ka [x, y, z]) (hkc : 3 ≤ kc)
    (okx : okL [x, y, z]) (smx : smCL [x, y, z]) (stx : stCL [x, y, z]) (hsz : sizL [x, y, z] + 2 ≤ 10000000) (hlm : ps.length + lamL [x, y, z] ≤ 10000000) (hln : lonL [x, y, z] ≤ 10000000) (h : GS B X G pv av ps w) :
    Calls Try.prog 20 #[.pointer (some ⟨G, 0, none⟩), .agg (cva ⟨7, i, nn, lb, ow, q, [x, y, z]⟩ qa qc ka kc)] w (ToldG B X G pv av ps (genC ⟨7, i, nn, lb, ow, q, [x, y, z]⟩ 0 ps.length) w) := by
  obtain ⟨g', b, o, hg, rfl, hall⟩ := hk.at (by simp)
  obtain rfl : g' = f := by omega
  have hbB : b < B0 := (hall 0 x rfl).1
  have hbw : b < w.heap.size := Nat.lt_of_lt_of_le (Nat.lt_of_lt_of_le hbB hB) h.ble
  simp only [okL, smCL, stCL, sizL, lamL, lonL, Nat.add_zero, Nat.max_zero] at okx smx stx hsz hlm hln
  obtain ⟨ok1, ok2, ok3, _⟩ := okx
  obtain ⟨sm1, sm2, sm3, _⟩ := smx
  obtain ⟨st1, st2, st3, _⟩ := stx
  have gl1 := (genC_len x ok1 0 ps.length).1
  have gl1p := (genC_len x ok1 0 ps.length).2
  have HG := hidd h
  have HC := hidd hC
  have hsb := codeB_size w #[.int .i64 7, .int .i64 i, .int .i64 nn, .string lb, .string ow, .int .i64 q.kind, .int .i64 q.n, .string q.name, .int .i64 q.stamp, .int .i64 q.lib, .slice qa q.kids.length qc, .slice (some ⟨b, o, none⟩) 3 kc]
  have HBW := hidd (codeB_below w #[.int .i64 7, .int .i64 i, .int .i64 nn, .string lb, .string ow, .int .i64 q.kind, .int .i64 q.n, .string q.name, .int .i64 q.stamp, .int .i64 q.lib, .slice qa q.kids.length qc, .slice (some ⟨b, o, none⟩) 3 kc])
  have HIN := hidd (codeB_in w #[.int .i64 7, .int .i64 i, .int .i64 nn, .string lb, .string ow, .int .i64 q.kind, .int .i64 q.n, .string q.name, .int .i64 q.stamp, .int .i64 q.lib, .slice qa q.kids.length qc, .slice (some ⟨b, o, none⟩) 3 kc])
  have CS0 := hidd (CS.start h HBW.out (T := w.heap.size + 1) (Nat.le_succ _) (codeB_out w #[.int .i64 7, .int .i64 i, .int .i64 nn, .string lb, .string ow, .int .i64 q.kind, .int .i64 q.n, .string q.name, .int .i64 q.stamp, .int .i64 q.lib, .slice qa q.kids.length qc, .slice (some ⟨b, o, none⟩) 3 kc]))
  have KN : Hid (∀ W, Below B w W → ∀ (j : Nat) (c : Cor), [x, y, z][j]? = some c → ∃ qa qc ka kc, Nc W b (o + j * 12) c qa qc ka kc ∧ CvOk B0 W g' c qa qc ka kc) := by
    intro W hb j c hc
    obtain ⟨_, qa, qc, ka, kc, nc, ok, hq, hk⟩ := hall j c hc
    exact ⟨qa, qc, ka, kc, nc.stay (hb.block b (Nat.lt_of_lt_of_le hbB hB)), CvOk.below (w := w) ⟨ok, hq, hk⟩ (hb.mono hB)⟩
  have hB0 := h.ble
  have LEN : Hid (∀ pr, (genC x 0 pr).1.length = sizC x ∧ (genC x 0 pr).2.length = lamC x ∧ (genC y 0 pr).1.length = sizC y ∧ (genC y 0 pr).2.length = lamC y ∧ (genC z 0 pr).1.length = sizC z ∧ (genC z 0 pr).2.length = lamC z) := fun pr => ⟨(genC_len x ok1 0 pr).1, (genC_len x ok1 0 pr).2, (genC_len y ok2 0 pr).1, (genC_len y ok2 0 pr).2, (genC_len z ok3 0 pr).1, (genC_len z ok3 0 pr).2⟩
  have OKS : Hid ((okC x ∧ smC x ∧ stC x) ∧ (okC y ∧ smC y ∧ stC y) ∧ (okC z ∧ smC z ∧ stC z)) := ⟨⟨ok1, sm1, st1⟩, ⟨ok2, sm2, st2⟩, ok3, sm3, st3⟩
  have NOG : Hid (¬ OG G pv av w.heap.size ∧ ¬ X w.heap.size) := ⟨fun e => by have := (HG.out.oglt e).2; omega, fun e => by have := HG.out.xlt _ e; omega⟩
  clear hk hall h hC ok1 ok2 ok3 sm1 sm2 sm3 st1 st2 st3 gl1 gl1p
  obtain ⟨R, hR⟩ : ∃ r, r = genC ⟨7, i, nn, lb, ow, q, [x, y, z]⟩ 0 ps.length := ⟨_, rfl⟩
  rw [← hR]
  have HR := hidd hR
  clear hR
  unfold cva
  simp only [List.length_cons, List.length_nil, Nat.zero_add, Nat.reduceAdd]
  go_enter Try.func20, Try.ntmps20
  have z11 : (codeB w #[.int .i64 7, .int .i64 i, .int .i64 nn, .string lb, .string ow, .int .i64 q.kind, .int .i64 q.n, .string q.name, .int .i64 q.stamp, .int .i64 q.lib, .slice qa q.kids.length qc, .slice (some ⟨b, o, none⟩) 3 kc]).cell? ⟨w.heap.size, 11, none⟩ = some (.slice (some ⟨b, o, none⟩) 3 kc) := (cellOf HIN.out).trans rfl
  have z0 : (codeB w #[.int .i64 7, .int .i64 i, .int .i64 nn, .string lb, .string ow, .int .i64 q.kind, .int .i64 q.n, .string q.name, .int .i64 q.stamp, .int .i64 q.lib, .slice qa q.kids.length qc, .slice (some ⟨b, o, none⟩) 3 kc]).cell? ⟨w.heap.size, 0, none⟩ = some (.int .i64 7) := (cellOf HIN.out).trans rfl
  go_upto_region 17 with fail
  change Code.wp _ _ _ _ (codeB w #[.int .i64 7, .int .i64 i, .int .i64 nn, .string lb, .string ow, .int .i64 q.kind, .int .i64 q.n, .string q.name, .int .i64 q.stamp, .int .i64 q.lib, .slice qa q.kids.length qc, .slice (some ⟨b, o, none⟩) 3 kc])
  generalize codeB w #[.int .i64 7, .int .i64 i, .int .i64 nn, .string lb, .string ow, .int .i64 q.kind, .int .i64 q.n, .string q.name, .int .i64 q.stamp, .int .i64 q.lib, .slice qa q.kids.length qc, .slice (some ⟨b, o, none⟩) 3 kc] = W0 at HBW HIN CS0 hsb z11 z0 ⊢
  clear z0
  obtain ⟨qa0, qc0, ka0, kc0, nc, hcv⟩ := KN.out W0 (HBW.out.mono hB0) 0 x rfl
  rw [show o + 0 * 12 = o by omega] at nc
  have hgs := CS0.out.gs
  rw [List.append_nil] at hgs
  have y0 := nc.c0
  have y1 := nc.c1
  have y2 := nc.c2
  have y3 := nc.c3
  have y4 := nc.c4
  have y5 := nc.c5
  have y6 := nc.c6
  have y7 := nc.c7
  have y8 := nc.c8
  have y9 := nc.c9
  have y10 := nc.c10
  have y11 := nc.c11
  have CALL := hidd (HC.out (fun b => X b ∨ OO (w.heap.size + 1) (.slice none 0 0) b) G pv av ps x qa0 ka0 qc0 kc0 W0 OKS.out.1.1 OKS.out.1.2.1 OKS.out.1.2.2 (by omega) (by omega) (by omega) hcv hgs)
  unfold cva at CALL
  clear nc hcv hgs
  go_wp2_with fail
  refine CALL.out.mono ?_
  intro e w1 ht
  obtain ⟨pv1, av1, ps1, rv1, is1, rfl, cs, gr, row, hm1, hm2, fm⟩ := CS0.out.call (ps1 := []) (by rw [List.append_nil]; exact ht)
  rw [List.nil_append] at cs gr
  obtain ⟨ra1, rc1, rfl, hrc1⟩ := row.slice
  have hil1 : is1.length ≤ sizC x := by
    have h5 := congrArg List.length hm1
    rw [List.length_map] at h5
    have := LEN.out ps.length
    omega
  have PL1 : Hid (ps1.length = lamC x) := by
    show _ = _
    have h5 := congrArg List.length hm2
    rw [List.length_map] at h5
    have := LEN.out ps.length
    omega
  have M1 : Hid (is1.map IE.i = (genC x 0 ps.length).1 ∧ ps1.map PE.pro = (genC x 0 ps.length).2) := ⟨hm1, hm2⟩
  have JB1 := hidd (jb_rows hm1 (by omega))
  have CS1 := hidd cs
  have IN1 : Hid (w1.heap[w.heap.size]? = some (.cells #[.int .i64 7, .int .i64 i, .int .i64 nn, .string lb, .string ow, .int .i64 q.kind, .int .i64 q.n, .string q.name, .int .i64 q.stamp, .int .i64 q.lib, .slice qa q.kids.length qc, .slice (some ⟨b, o, none⟩) 3 kc] 40 (0, 0))) := (fm.keep _ (Array.getElem?_eq_some_iff.1 HIN.out).1 (by
    rintro (e | e | e | e)
    · exact NOG.out.1 e
    · exact NOG.out.2 e
    · omega
    · simp [Value.ownBlock] at e)).trans HIN.out
  have NG1 : Hid (¬ OG G pv1 av1 w.heap.size) := fun e => NOG.out.1 ((fm.own _ (Array.getElem?_eq_some_iff.1 HIN.out).1 (Or.inl e)).elim (fun e => e) (fun e => by
    exfalso
    rcases e with e | e | e
    · exact NOG.out.2 e
    · omega
    · simp [Value.ownBlock] at e))
  have R1_1 := hidd row
  clear gr row hm1 hm2 fm cs ht CALL y0 y1 y2 y3 y4 y5 y6 y7 y8 y9 y10 y11 z11
  obtain ⟨qa1, qc1, ka1, kc1, nc, hcv⟩ := KN.out w1 CS1.out.fm.low 1 y rfl
  rw [show o + 1 * 12 = o + 12 by omega] at nc
  have hgs := CS1.out.gs
  have y0 := nc.c0
  have y1 := nc.c1
  have y2 := nc.c2
  have y3 := nc.c3
  have y4 := nc.c4
  have y5 := nc.c5
  have y6 := nc.c6
  have y7 := nc.c7
  have y8 := nc.c8
  have y9 := nc.c9
  have y10 := nc.c10
  have y11 := nc.c11
  have z11 : w1.cell? ⟨w.heap.size, 11, none⟩ = some (.slice (some ⟨b, o, none⟩) 3 kc) := (cellOf IN1.out).trans rfl
  have CALL := hidd (HC.out (fun b => X b ∨ OO (w.heap.size + 1) (.slice none 0 0) b) G pv1 av1 (ps ++ ps1) y qa1 ka1 qc1 kc1 w1 OKS.out.2.1.1 OKS.out.2.1.2.1 OKS.out.2.1.2.2 (by omega) (by rw [List.length_append]; have := PL1.out; omega) (by omega) hcv hgs)
  unfold cva at CALL
  clear nc hcv hgs
  go_wp2_with fail
  refine CALL.out.mono ?_
  intro e w2 ht
  obtain ⟨pv2, av2, ps2, rv2, is2, rfl, cs, gr, row, hm1, hm2, fm⟩ := CS1.out.call  (by exact ht)
  obtain ⟨ra2, rc2, rfl, hrc2⟩ := row.slice
  have hil2 : is2.length ≤ sizC y := by
    have h5 := congrArg List.length hm1
    rw [List.length_map] at h5
    have := LEN.out (ps ++ ps1).length
    omega
  have PL2 : Hid (ps2.length = lamC y) := by
    show _ = _
    have h5 := congrArg List.length hm2
    rw [List.length_map] at h5
    have := LEN.out (ps ++ ps1).length
    omega
  have M2 : Hid (is2.map IE.i = (genC y 0 (ps ++ ps1).length).1 ∧ ps2.map PE.pro = (genC y 0 (ps ++ ps1).length).2) := ⟨hm1, hm2⟩
  have JB2 := hidd (jb_rows hm1 (by omega))
  have CS2 := hidd cs
  have IN2 : Hid (w2.heap[w.heap.size]? = some (.cells #[.int .i64 7, .int .i64 i, .int .i64 nn, .string lb, .string ow, .int .i64 q.kind, .int .i64 q.n, .string q.name, .int .i64 q.stamp, .int .i64 q.lib, .slice qa q.kids.length qc, .slice (some ⟨b, o, none⟩) 3 kc] 40 (0, 0))) := (fm.keep _ (Array.getElem?_eq_some_iff.1 IN1.out).1 (by
    rintro (e | e | e | e)
    · exact NG1.out e
    · exact NOG.out.2 e
    · omega
    · simp [Value.ownBlock] at e)).trans IN1.out
  have NG2 : Hid (¬ OG G pv2 av2 w.heap.size) := fun e => NG1.out ((fm.own _ (Array.getElem?_eq_some_iff.1 IN1.out).1 (Or.inl e)).elim (fun e => e) (fun e => by
    exfalso
    rcases e with e | e | e
    · exact NOG.out.2 e
    · omega
    · simp [Value.ownBlock] at e))
  have R2_2 := hidd row
  have R1_2 := hidd (R1_1.out.move fm)
  clear gr row hm1 hm2 fm cs ht CALL y0 y1 y2 y3 y4 y5 y6 y7 y8 y9 y10 y11 z11 R1_1
  obtain ⟨qa2, qc2, ka2, kc2, nc, hcv⟩ := KN.out w2 CS2.out.fm.low 2 z rfl
  rw [show o + 2 * 12 = o + 24 by omega] at nc
  have hgs := CS2.out.gs
  have y0 := nc.c0
  have y1 := nc.c1
  have y2 := nc.c2
  have y3 := nc.c3
  have y4 := nc.c4
  have y5 := nc.c5
  have y6 := nc.c6
  have y7 := nc.c7
  have y8 := nc.c8
  have y9 := nc.c9
  have y10 := nc.c10
  have y11 := nc.c11
  have z11 : w2.cell? ⟨w.heap.size, 11, none⟩ = some (.slice (some ⟨b, o, none⟩) 3 kc) := (cellOf IN2.out).trans rfl
  have CALL := hidd (HC.out (fun b => X b ∨ OO (w.heap.size + 1) (.slice none 0 0) b) G pv2 av2 (ps ++ (ps1 ++ ps2)) z qa2 ka2 qc2 kc2 w2 OKS.out.2.2.1 OKS.out.2.2.2.1 OKS.out.2.2.2.2 (by omega) (by rw [List.length_append, List.length_append]; have := PL1.out; have := PL2.out; omega) (by omega) hcv hgs)
  unfold cva at CALL
  clear nc hcv hgs
  go_wp2_with fail
  refine CALL.out.mono ?_
  intro e w3 ht
  obtain ⟨pv3, av3, ps3, rv3, is3, rfl, cs, gr, row, hm1, hm2, fm⟩ := CS2.out.call  (by exact ht)
  obtain ⟨ra3, rc3, rfl, hrc3⟩ := row.slice
  have hil3 : is3.length ≤ sizC z := by
    have h5 := congrArg List.length hm1
    rw [List.length_map] at h5
    have := LEN.out (ps ++ (ps1 ++ ps2)).length
    omega
  have PL3 : Hid (ps3.length = lamC z) := by
    show _ = _
    have h5 := congrArg List.length hm2
    rw [List.length_map] at h5
    have := LEN.out (ps ++ (ps1 ++ ps2)).length
    omega
  have M3 : Hid (is3.map IE.i = (genC z 0 (ps ++ (ps1 ++ ps2)).length).1 ∧ ps3.map PE.pro = (genC z 0 (ps ++ (ps1 ++ ps2)).length).2) := ⟨hm1, hm2⟩
  have JB3 := hidd (jb_rows hm1 (by omega))
  have CS3 := hidd cs
  have IN3 : Hid (w3.heap[w.heap.size]? = some (.cells #[.int .i64 7, .int .i64 i, .int .i64 nn, .string lb, .string ow, .int .i64 q.kind, .int .i64 q.n, .string q.name, .int .i64 q.stamp, .int .i64 q.lib, .slice qa q.kids.length qc, .slice (some ⟨b, o, none⟩) 3 kc] 40 (0, 0))) := (fm.keep _ (Array.getElem?_eq_some_iff.1 IN2.out).1 (by
    rintro (e | e | e | e)
    · exact NG2.out e
    · exact NOG.out.2 e
    · omega
    · simp [Value.ownBlock] at e)).trans IN2.out
  have NG3 : Hid (¬ OG G pv3 av3 w.heap.size) := fun e => NG2.out ((fm.own _ (Array.getElem?_eq_some_iff.1 IN2.out).1 (Or.inl e)).elim (fun e => e) (fun e => by
    exfalso
    rcases e with e | e | e
    · exact NOG.out.2 e
    · omega
    · simp [Value.ownBlock] at e))
  have R3_3 := hidd row
  have R1_3 := hidd (R1_2.out.move fm)
  have R2_3 := hidd (R2_2.out.move fm)
  clear gr row hm1 hm2 fm cs ht CALL y0 y1 y2 y3 y4 y5 y6 y7 y8 y9 y10 y11 z11 R1_2 R2_2
  obtain ⟨i1, jinf, jz0, jz1, jz2⟩ := info_parts infoIns
  clear HIN IN1 IN2 IN3 NG1 NG2 NG3 CS0 CS1 CS2 HBW
  have ADD := hidd (add_any w.heap.size (w.heap.size + 1) (.slice none 0 0) [] is1 ra1 rc1 w3 CS3.out.ot (Rd.of_own R1_3.out.own) hrc1 (by simp; omega) JB1.out)
  go_wp2_with fail
  refine ADD.out.mono ?_
  rintro e w4 ⟨rfl, tv4, hot, hfm⟩
  obtain ⟨hcs, hf1⟩ := CS3.out.grow hot hfm (R1_3.out.data _)
  have CS4 := hidd hcs
  have R2_4 := hidd (R2_3.out.move hf1)
  have R3_4 := hidd (R3_3.out.move hf1)
  obtain ⟨L4, hL⟩ : ∃ L, L = [] ++ is1.map (onE 0) := ⟨_, rfl⟩
  have HL4 := hidd hL
  have LL4 : Hid (L4.length = is1.length) := by show _ = _; rw [hL]; simp
  rw [show ([] ++ is1.map (onE [].length)) = L4 from hL.symm] at CS4
  clear hL hcs hf1 hfm hot ADD CS3 R1_3
  obtain ⟨ta5, tc5, rfl, htc5⟩ := CS4.out.ot.slice
  have hll5 : L4.length ≤ 10000000 := by have := LL4.out; omega
  have n0 : w4.cell? ⟨w.heap.size + 1, 0, none⟩ = some (.slice ta5 L4.length tc5) := (cellOf CS4.out.ot.box).trans rfl
  have HO : Hid ((w4.alloc (.cells (IE.mk (insA 10 ((is1.length : Int) + 1 + is2.length + 1)) none 0).cells.toArray 46)).ownsRow w.heap.size 46 11 (.slice ta5 L4.length tc5) L4.length (flatI L4) ∧ w.heap.size ≤ (w4.alloc (.cells (IE.mk (insA 10 ((is1.length : Int) + 1 + is2.length + 1)) none 0).cells.toArray 46)).heap.size) := ⟨CS4.out.ot.own.alloc _, by have := CS4.out.ot.ble; simp; omega⟩
  go_wp2_with (at_builtin; refine wpList_row rfl _ _ 42 rfl w.heap.size 46 i1 _ 11 128 Try.underlying42 jinf jz0 jz1 jz2 rfl (by decide) (.slice ta5 L4.length tc5) L4.length (flatI L4) rfl HO.out.1 (some ⟨w4.heap.size, 0, none⟩) 1 1 (IE.mk (insA 10 ((is1.length : Int) + 1 + is2.length + 1)) none 0).cells rfl rfl (Or.inr ⟨w4.heap.size, 0, rfl, alloc1_cells w4 _ _ _ rfl⟩) (IE.one _) (by unfold maxLen; omega) (by omega) HO.out.2 ?_)
  intro tv5 wq ho hg hw
  obtain ⟨hot, hfm⟩ := CS4.out.ot.push (fs := [IE.mk (insA 10 ((is1.length : Int) + 1 + is2.length + 1)) none 0]) ((Below.refl _ _).alloc (Nat.le_refl _) (.cells (IE.mk (insA 10 ((is1.length : Int) + 1 + is2.length + 1)) none 0).cells.toArray 46)) (by simpa [flatI] using ho) hg (by simpa using hw)
  obtain ⟨hcs, hf1⟩ := CS4.out.grow hot hfm (fun e he => by simp at he; subst he; exact ie_plain _ _ _ (Nat.zero_le _) (Nat.zero_le _) rfl)
  have tb : wq.heap[w.heap.size + 1]? = some (.cells #[.slice ta5 L4.length tc5] 42 (0, 0)) := (hg.block _ (by have := CS4.out.ot.lt; simp; omega) (fun e => CS4.out.ot.sep e.symm)).trans ((Below.heap_alloc _ _ _ CS4.out.ot.lt).trans CS4.out.ot.box)
  have n1 : wq.cell? ⟨w.heap.size + 1, 0, none⟩ = some (.slice ta5 L4.length tc5) := (cellOf tb).trans rfl
  have q1 : wq.frozen? ⟨w.heap.size + 1, 0, none⟩ = false := by simp [World.frozen?, tb]
  obtain ⟨sa5, sc5, hsv, _⟩ := own_slice ho
  subst hsv
  have CS5 := hidd hcs
  have R2_5 := hidd (R2_4.out.move hf1)
  have R3_5 := hidd (R3_4.out.move hf1)
  obtain ⟨L5, hL⟩ : ∃ L, L = L4 ++ [IE.mk (insA 10 ((is1.length : Int) + 1 + is2.length + 1)) none 0] := ⟨_, rfl⟩
  have HL5 := hidd hL
  have LL5 : Hid (L5.length = is1.length + 1) := by show _ = _; rw [hL]; have := LL4.out; simp; omega
  rw [← hL] at CS5
  clear hL hcs hf1 hfm hot tb ho hg hw HO n0 CS4 R2_4 R3_4
  try simp only [Act.put, List.setIfInBounds_toArray, List.set_cons_succ, List.set_cons_zero]
  go_upto_region 22 with fail
  clear n1 q1
  generalize wq.setCell ⟨w.heap.size + 1, 0, none⟩ (.slice sa5 (L4.length + 1) sc5) = w5 at CS5 R2_5 R3_5 ⊢
  have ADD := hidd (add_any w.heap.size (w.heap.size + 1) (.slice sa5 (L4.length + 1) sc5) L5 is2 ra2 rc2 w5 CS5.out.ot (Rd.of_own R2_5.out.own) hrc2 (by have := LL5.out; omega) JB2.out)
  go_wp2_with fail
  refine ADD.out.mono ?_
  rintro e w6 ⟨rfl, tv6, hot, hfm⟩
  obtain ⟨hcs, hf1⟩ := CS5.out.grow hot hfm (R2_5.out.data _)
  have CS6 := hidd hcs
  have R3_6 := hidd (R3_5.out.move hf1)
  obtain ⟨L6, hL⟩ : ∃ L, L = L5 ++ is2.map (onE L5.length) := ⟨_, rfl⟩
  have HL6 := hidd hL
  have LL6 : Hid (L6.length = is1.length + 1 + is2.length) := by show _ = _; rw [hL]; simp; have := LL5.out; omega
  rw [show (L5 ++ is2.map (onE L5.length)) = L6 from hL.symm] at CS6
  clear hL hcs hf1 hfm hot ADD CS5 R2_5
  obtain ⟨ta7, tc7, rfl, htc7⟩ := CS6.out.ot.slice
  have hll7 : L6.length ≤ 10000000 := by have := LL6.out; omega
  have n0 : w6.cell? ⟨w.heap.size + 1, 0, none⟩ = some (.slice ta7 L6.length tc7) := (cellOf CS6.out.ot.box).trans rfl
  have HO : Hid ((w6.alloc (.cells (IE.mk (insA 9 ((is1.length : Int) + 1 + is2.length + 1 + is3.length)) none 0).cells.toArray 46)).ownsRow w.heap.size 46 11 (.slice ta7 L6.length tc7) L6.length (flatI L6) ∧ w.heap.size ≤ (w6.alloc (.cells (IE.mk (insA 9 ((is1.length : Int) + 1 + is2.length + 1 + is3.length)) none 0).cells.toArray 46)).heap.size) := ⟨CS6.out.ot.own.alloc _, by have := CS6.out.ot.ble; simp; omega⟩
  go_wp2_with (at_builtin; refine wpList_row rfl _ _ 42 rfl w.heap.size 46 i1 _ 11 128 Try.underlying42 jinf jz0 jz1 jz2 rfl (by decide) (.slice ta7 L6.length tc7) L6.length (flatI L6) rfl HO.out.1 (some ⟨w6.heap.size, 0, none⟩) 1 1 (IE.mk (insA 9 ((is1.length : Int) + 1 + is2.length + 1 + is3.length)) none 0).cells rfl rfl (Or.inr ⟨w6.heap.size, 0, rfl, alloc1_cells w6 _ _ _ rfl⟩) (IE.one _) (by unfold maxLen; omega) (by omega) HO.out.2 ?_)
  intro tv7 wq ho hg hw
  obtain ⟨hot, hfm⟩ := CS6.out.ot.push (fs := [IE.mk (insA 9 ((is1.length : Int) + 1 + is2.length + 1 + is3.length)) none 0]) ((Below.refl _ _).alloc (Nat.le_refl _) (.cells (IE.mk (insA 9 ((is1.length : Int) + 1 + is2.length + 1 + is3.length)) none 0).cells.toArray 46)) (by simpa [flatI] using ho) hg (by simpa using hw)
  obtain ⟨hcs, hf1⟩ := CS6.out.grow hot hfm (fun e he => by simp at he; subst he; exact ie_plain _ _ _ (Nat.zero_le _) (Nat.zero_le _) rfl)
  have tb : wq.heap[w.heap.size + 1]? = some (.cells #[.slice ta7 L6.length tc7] 42 (0, 0)) := (hg.block _ (by have := CS6.out.ot.lt; simp; omega) (fun e => CS6.out.ot.sep e.symm)).trans ((Below.heap_alloc _ _ _ CS6.out.ot.lt).trans CS6.out.ot.box)
  have n1 : wq.cell? ⟨w.heap.size + 1, 0, none⟩ = some (.slice ta7 L6.length tc7) := (cellOf tb).trans rfl
  have q1 : wq.frozen? ⟨w.heap.size + 1, 0, none⟩ = false := by simp [World.frozen?, tb]
  obtain ⟨sa7, sc7, hsv, _⟩ := own_slice ho
  subst hsv
  have CS7 := hidd hcs
  have R3_7 := hidd (R3_6.out.move hf1)
  obtain ⟨L7, hL⟩ : ∃ L, L = L6 ++ [IE.mk (insA 9 ((is1.length : Int) + 1 + is2.length + 1 + is3.length)) none 0] := ⟨_, rfl⟩
  have HL7 := hidd hL
  have LL7 : Hid (L7.length = is1.length + 1 + is2.length + 1) := by show _ = _; rw [hL]; have := LL6.out; simp; omega
  rw [← hL] at CS7
  clear hL hcs hf1 hfm hot tb ho hg hw HO n0 CS6 R3_6
  try simp only [Act.put, List.setIfInBounds_toArray, List.set_cons_succ, List.set_cons_zero]
  go_upto_region 24 with fail
  clear n1 q1
  generalize wq.setCell ⟨w.heap.size + 1, 0, none⟩ (.slice sa7 (L6.length + 1) sc7) = w7 at CS7 R3_7 ⊢
  have ADD := hidd (add_any w.heap.size (w.heap.size + 1) (.slice sa7 (L6.length + 1) sc7) L7 is3 ra3 rc3 w7 CS7.out.ot (Rd.of_own R3_7.out.own) hrc3 (by have := LL7.out; omega) JB3.out)
  go_wp2_with fail
  refine ADD.out.mono ?_
  rintro e w8 ⟨rfl, tv8, hot, hfm⟩
  obtain ⟨hcs, hf1⟩ := CS7.out.grow hot hfm (R3_7.out.data _)
  have CS8 := hidd hcs
  obtain ⟨L8, hL⟩ : ∃ L, L = L7 ++ is3.map (onE L7.length) := ⟨_, rfl⟩
  have HL8 := hidd hL
  have LL8 : Hid (L8.length = is1.length + 1 + is2.length + 1 + is3.length) := by show _ = _; rw [hL]; simp; have := LL7.out; omega
  rw [show (L7 ++ is3.map (onE L7.length)) = L8 from hL.symm] at CS8
  clear hL hcs hf1 hfm hot ADD CS7 R3_7
  obtain ⟨ta, tc, rfl, htc⟩ := CS8.out.ot.slice
  have n0 : w8.cell? ⟨w.heap.size + 1, 0, none⟩ = some (.slice ta L8.length tc) := (cellOf CS8.out.ot.box).trans rfl
  have DN := hidd CS8.out.done
  have EQ : Hid (R = (L8.map IE.i, (ps1 ++ ps2 ++ ps3).map PE.pro)) := by
    show _ = _
    rw [HR.out, genC_choice i nn lb ow q x y z ps.length is1 is2 is3 ps1 ps2 ps3 M1.out.1 M1.out.2 (by rw [← List.length_append]; exact M2.out.1) (by rw [← List.length_append]; exact M2.out.2) (by have := M3.out.1; simpa [Nat.add_assoc] using this) (by have := M3.out.2; simpa [Nat.add_assoc] using this)]
    rw [HL8.out, HL7.out, HL6.out, HL5.out, HL4.out]
    have l5 : (([] ++ is1.map (onE 0)) ++ [IE.mk (insA 10 ((is1.length : Int) + 1 + is2.length + 1)) none 0]).length = is1.length + 1 := by simp
    have l7 : (((([] ++ is1.map (onE 0)) ++ [IE.mk (insA 10 ((is1.length : Int) + 1 + is2.length + 1)) none 0]) ++ is2.map (onE (is1.length + 1))) ++ [IE.mk (insA 9 ((is1.length : Int) + 1 + is2.length + 1 + is3.length)) none 0]).length = is1.length + 1 + is2.length + 1 := by simp; omega
    rw [l5, l7]
  have hq := EQ.out
  subst hq
  clear EQ HR CS8
  go_wp2_with fail
  go_ret
  exact DN.out
end Go.Proofs.Ytbbmdhkbndgdkaa
