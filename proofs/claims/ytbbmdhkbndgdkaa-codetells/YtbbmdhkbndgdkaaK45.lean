/- The document's code of what is set, and defined. -/
import Derived.Test.YtbbmdhkbndgdkaaK44
namespace Go.Proofs.Ytbbmdhkbndgdkaa
set_option linter.unusedVariables false
set_option linter.unusedSimpArgs false
open Go.RowKit

theorem RowR.other {B0 : Nat} {O : Nat → Prop} {rv : Value} {es : List IE} {w w' : World} (h : RowR B0 O rv es w) (hk : ∀ b, b < w.heap.size → ¬ O b → w'.heap[b]? = w.heap[b]?) (hs : w.heap.size ≤ w'.heap.size) : RowR B0 O rv es w' :=
  ⟨own_stay h.own (fun g hg => hk g (h.own.lt g hg).2 (h.nb g hg)), h.nb, fun e he => (h.ok e he).stay (fun b hb => hk b hb.1 (fun e => hb.2 (Or.inl e))) (fun b hb => ⟨Nat.lt_of_lt_of_le hb.1 hs, hb.2⟩)⟩
/-- The last step: an instruction behind a kid's code. -/
theorem ToldG.push {B G T : Nat} {X : Nat → Prop} {pv av pv2 av2 rv rv' : Value} {ps ps2 : List PE} {is : List IE} {e : IE} {w w1 w2 w4 : World} {BR : Nat} {g : List In × List Pro} {tv : Value}
    (hxl : ∀ b, X b → b < w.heap.size) (fm1 : Fm (OG G pv av) (OG G pv2 av2) B w w1) (hTw : w.heap.size ≤ T) (hB : B ≤ w.heap.size) (kT : Keep T w1 w2)
    (gr : GS B (fun b => (X b ∨ OO T tv b) ∨ some b = rv.ownBlock) G pv2 av2 (ps ++ ps2) w2) (hBR : w.heap.size ≤ BR)
    (hrv : ∀ g, rv.ownBlock = some g → ¬ (OG G pv2 av2 g ∨ (X g ∨ OO T tv g)) ∧ BR ≤ g)
    (row4 : RowR BR (fun b => OG G pv2 av2 b ∨ (X b ∨ OO T tv b)) rv' (is ++ [e]) w4) (fm4 : Fm (fun b => some b = rv.ownBlock) (fun b => some b = rv'.ownBlock) BR w2 w4)
    (h1 : is.map IE.i ++ [e.i] = g.1) (h2 : ps2.map PE.pro = g.2) : ToldG B X G pv av ps g w (.returned rv') w4 := by
  have hs1 := fm1.low.size
  have hs2 := kT.size
  have hs4 := fm4.low.size
  refine ⟨pv2, av2, ps2, rv', is ++ [e], rfl, ?_, ⟨own_base row4.own hBR, fun g hg o => row4.nb g hg (o.elim Or.inl (fun o => Or.inr (Or.inl o))), fun f hf => (row4.ok f hf).stay (fun _ _ => rfl) (fun b hb => ⟨hb.1, fun o => hb.2 (o.elim (fun o => Or.inl (o.elim Or.inl (fun o => Or.inr (Or.inl o)))) Or.inr)⟩)⟩, by rw [List.map_append]; exact h1, h2, ?_⟩
  · refine gr.other (fun b hb hh => fm4.keep b hb (fun o => ?_)) hs4 ?_ ?_
    · rcases hh with o2 | o2
      · exact (hrv b o.symm).1 (Or.inl o2)
      · exact o2 (Or.inr (Or.inr o))
    · rintro b (o | o)
      · have := hxl b o; omega
      · exact (row4.own.lt b o.symm).2
    · rintro b hb hn (o | o)
      · exact hn (Or.inr (Or.inl (Or.inl o)))
      · exact hn (Or.inr (Or.inr (fm4.own b hb o)))
  · refine ⟨(fm1.low.trans (kT.toBelow (by omega) (by omega))).trans (fm4.low.mono (by omega)), fun b hb ho => ?_, fm1.own⟩
    refine (fm4.keep b (by omega) (fun o => ?_)).trans ((kT.block b (by omega) (by simp; omega)).trans (fm1.keep b hb ho))
    have := (hrv b o.symm).2
    omega
theorem genC_kid {k : Int} (i n : Int) (lb ow : ByteArray) (q : Dat) (x : Cor) (pr : Nat) (h8 : ¬ k = 8) (h7 : ¬ k = 7) (h12 : ¬ k = 12) : genC ⟨k, i, n, lb, ow, q, [x]⟩ 0 pr = ((genC x 0 pr).1 ++ [lastI ⟨k, i, n, lb, ow, q, [x]⟩], (genC x 0 pr).2) := by
  rw [genC_else i n lb ow q [x] 0 pr h8 h7 h12, genL, genL]; simp

set_option maxRecDepth 100000 in
set_option maxHeartbeats 3200000 in
theorem Code_10 (B0 B f : Nat) (hB : B0 ≤ B) (hC : CodeW B0 B f) (X : Nat → Prop) (G : Nat) (pv av : Value) (ps : List PE) (i nn : Int) (lb ow : ByteArray) (q : Dat) (x : Cor) (qa ka : Option Addr) (qc kc : Nat) (w : World) (hl : lb.size ≤ maxLen) (ho : ow.size ≤ maxLen) (hk : Cc B0 w (f + 1) ka [x]) (hkc : 1 ≤ kc)
    (okx : okC x) (smx : smC x) (stx : stC x) (hsz : sizC x ≤ 10000000) (hlm : ps.length + lamC x ≤ 10000000) (hln : lonC x ≤ 10000000) (h : GS B X G pv av ps w) :
    Calls Try.prog 20 #[.pointer (some ⟨G, 0, none⟩), .agg (cva ⟨10, i, nn, lb, ow, q, [x]⟩ qa qc ka kc)] w (ToldG B X G pv av ps (genC ⟨10, i, nn, lb, ow, q, [x]⟩ 0 ps.length) w) := by
  rw [genC_kid i nn lb ow q x ps.length (by decide) (by decide) (by decide)]
  have hI : lastI ⟨10, i, nn, lb, ow, q, [x]⟩ = insA 11 i := by unfold lastI; simp
  rw [hI]
  obtain ⟨g', b, o, hg, rfl, hall⟩ := hk.at (by simp)
  obtain rfl : g' = f := by omega
  obtain ⟨hbB, qa2, qc2, ka2, kc2, nc, ok, hq2, hk2⟩ := hall 0 x rfl
  rw [show o + 0 * 12 = o by omega] at nc
  have hbw : b < w.heap.size := Nat.lt_of_lt_of_le (Nat.lt_of_lt_of_le hbB hB) h.ble
  have HG := hidd h
  have HOK := hidd (ie_plain (fun _ => True) w (insA 11 i) (Nat.zero_le _) (Nat.zero_le _) rfl)
  have hsb := codeB_size w #[.int .i64 10, .int .i64 i, .int .i64 nn, .string lb, .string ow, .int .i64 q.kind, .int .i64 q.n, .string q.name, .int .i64 q.stamp, .int .i64 q.lib, .slice qa q.kids.length qc, .slice (some ⟨b, o, none⟩) 1 kc]
  have HBW := hidd (codeB_below w #[.int .i64 10, .int .i64 i, .int .i64 nn, .string lb, .string ow, .int .i64 q.kind, .int .i64 q.n, .string q.name, .int .i64 q.stamp, .int .i64 q.lib, .slice qa q.kids.length qc, .slice (some ⟨b, o, none⟩) 1 kc])
  have HIN := hidd (codeB_in w #[.int .i64 10, .int .i64 i, .int .i64 nn, .string lb, .string ow, .int .i64 q.kind, .int .i64 q.n, .string q.name, .int .i64 q.stamp, .int .i64 q.lib, .slice qa q.kids.length qc, .slice (some ⟨b, o, none⟩) 1 kc])
  have CS0 := hidd (CS.start h HBW.out (T := w.heap.size + 1) (Nat.le_succ _) (codeB_out w #[.int .i64 10, .int .i64 i, .int .i64 nn, .string lb, .string ow, .int .i64 q.kind, .int .i64 q.n, .string q.name, .int .i64 q.stamp, .int .i64 q.lib, .slice qa q.kids.length qc, .slice (some ⟨b, o, none⟩) 1 kc]))
  have hgs := CS0.out.gs
  rw [List.append_nil] at hgs
  have hcv : CvOk B0 (codeB w #[.int .i64 10, .int .i64 i, .int .i64 nn, .string lb, .string ow, .int .i64 q.kind, .int .i64 q.n, .string q.name, .int .i64 q.stamp, .int .i64 q.lib, .slice qa q.kids.length qc, .slice (some ⟨b, o, none⟩) 1 kc]) g' x qa2 qc2 ka2 kc2 := CvOk.below (w := w) ⟨ok, hq2, hk2⟩ (HBW.out.mono (Nat.le_trans hB h.ble))
  have CALL := hidd (hC (fun b => X b ∨ OO (w.heap.size + 1) (.slice none 0 0) b) G pv av ps x qa2 ka2 qc2 kc2 (codeB w #[.int .i64 10, .int .i64 i, .int .i64 nn, .string lb, .string ow, .int .i64 q.kind, .int .i64 q.n, .string q.name, .int .i64 q.stamp, .int .i64 q.lib, .slice qa q.kids.length qc, .slice (some ⟨b, o, none⟩) 1 kc]) okx smx stx hsz hlm hln hcv hgs)
  have hjl := genC_len x okx 0 ps.length
  generalize genC x 0 ps.length = gx at CALL hjl ⊢
  have y0 : (codeB w #[.int .i64 10, .int .i64 i, .int .i64 nn, .string lb, .string ow, .int .i64 q.kind, .int .i64 q.n, .string q.name, .int .i64 q.stamp, .int .i64 q.lib, .slice qa q.kids.length qc, .slice (some ⟨b, o, none⟩) 1 kc]).cell? ⟨b, o, none⟩ = _ := (HBW.out.cell (p := ⟨b, o, none⟩) hbw).trans nc.c0
  have y1 : (codeB w #[.int .i64 10, .int .i64 i, .int .i64 nn, .string lb, .string ow, .int .i64 q.kind, .int .i64 q.n, .string q.name, .int .i64 q.stamp, .int .i64 q.lib, .slice qa q.kids.length qc, .slice (some ⟨b, o, none⟩) 1 kc]).cell? ⟨b, o + 1, none⟩ = _ := (HBW.out.cell (p := ⟨b, o + 1, none⟩) hbw).trans nc.c1
  have y2 : (codeB w #[.int .i64 10, .int .i64 i, .int .i64 nn, .string lb, .string ow, .int .i64 q.kind, .int .i64 q.n, .string q.name, .int .i64 q.stamp, .int .i64 q.lib, .slice qa q.kids.length qc, .slice (some ⟨b, o, none⟩) 1 kc]).cell? ⟨b, o + 2, none⟩ = _ := (HBW.out.cell (p := ⟨b, o + 2, none⟩) hbw).trans nc.c2
  have y3 : (codeB w #[.int .i64 10, .int .i64 i, .int .i64 nn, .string lb, .string ow, .int .i64 q.kind, .int .i64 q.n, .string q.name, .int .i64 q.stamp, .int .i64 q.lib, .slice qa q.kids.length qc, .slice (some ⟨b, o, none⟩) 1 kc]).cell? ⟨b, o + 3, none⟩ = _ := (HBW.out.cell (p := ⟨b, o + 3, none⟩) hbw).trans nc.c3
  have y4 : (codeB w #[.int .i64 10, .int .i64 i, .int .i64 nn, .string lb, .string ow, .int .i64 q.kind, .int .i64 q.n, .string q.name, .int .i64 q.stamp, .int .i64 q.lib, .slice qa q.kids.length qc, .slice (some ⟨b, o, none⟩) 1 kc]).cell? ⟨b, o + 4, none⟩ = _ := (HBW.out.cell (p := ⟨b, o + 4, none⟩) hbw).trans nc.c4
  have y5 : (codeB w #[.int .i64 10, .int .i64 i, .int .i64 nn, .string lb, .string ow, .int .i64 q.kind, .int .i64 q.n, .string q.name, .int .i64 q.stamp, .int .i64 q.lib, .slice qa q.kids.length qc, .slice (some ⟨b, o, none⟩) 1 kc]).cell? ⟨b, o + 5, none⟩ = _ := (HBW.out.cell (p := ⟨b, o + 5, none⟩) hbw).trans nc.c5
  have y6 : (codeB w #[.int .i64 10, .int .i64 i, .int .i64 nn, .string lb, .string ow, .int .i64 q.kind, .int .i64 q.n, .string q.name, .int .i64 q.stamp, .int .i64 q.lib, .slice qa q.kids.length qc, .slice (some ⟨b, o, none⟩) 1 kc]).cell? ⟨b, o + 6, none⟩ = _ := (HBW.out.cell (p := ⟨b, o + 6, none⟩) hbw).trans nc.c6
  have y7 : (codeB w #[.int .i64 10, .int .i64 i, .int .i64 nn, .string lb, .string ow, .int .i64 q.kind, .int .i64 q.n, .string q.name, .int .i64 q.stamp, .int .i64 q.lib, .slice qa q.kids.length qc, .slice (some ⟨b, o, none⟩) 1 kc]).cell? ⟨b, o + 7, none⟩ = _ := (HBW.out.cell (p := ⟨b, o + 7, none⟩) hbw).trans nc.c7
  have y8 : (codeB w #[.int .i64 10, .int .i64 i, .int .i64 nn, .string lb, .string ow, .int .i64 q.kind, .int .i64 q.n, .string q.name, .int .i64 q.stamp, .int .i64 q.lib, .slice qa q.kids.length qc, .slice (some ⟨b, o, none⟩) 1 kc]).cell? ⟨b, o + 8, none⟩ = _ := (HBW.out.cell (p := ⟨b, o + 8, none⟩) hbw).trans nc.c8
  have y9 : (codeB w #[.int .i64 10, .int .i64 i, .int .i64 nn, .string lb, .string ow, .int .i64 q.kind, .int .i64 q.n, .string q.name, .int .i64 q.stamp, .int .i64 q.lib, .slice qa q.kids.length qc, .slice (some ⟨b, o, none⟩) 1 kc]).cell? ⟨b, o + 9, none⟩ = _ := (HBW.out.cell (p := ⟨b, o + 9, none⟩) hbw).trans nc.c9
  have y10 : (codeB w #[.int .i64 10, .int .i64 i, .int .i64 nn, .string lb, .string ow, .int .i64 q.kind, .int .i64 q.n, .string q.name, .int .i64 q.stamp, .int .i64 q.lib, .slice qa q.kids.length qc, .slice (some ⟨b, o, none⟩) 1 kc]).cell? ⟨b, o + 10, none⟩ = _ := (HBW.out.cell (p := ⟨b, o + 10, none⟩) hbw).trans nc.c10
  have y11 : (codeB w #[.int .i64 10, .int .i64 i, .int .i64 nn, .string lb, .string ow, .int .i64 q.kind, .int .i64 q.n, .string q.name, .int .i64 q.stamp, .int .i64 q.lib, .slice qa q.kids.length qc, .slice (some ⟨b, o, none⟩) 1 kc]).cell? ⟨b, o + 11, none⟩ = _ := (HBW.out.cell (p := ⟨b, o + 11, none⟩) hbw).trans nc.c11
  have z0 : (codeB w #[.int .i64 10, .int .i64 i, .int .i64 nn, .string lb, .string ow, .int .i64 q.kind, .int .i64 q.n, .string q.name, .int .i64 q.stamp, .int .i64 q.lib, .slice qa q.kids.length qc, .slice (some ⟨b, o, none⟩) 1 kc]).cell? ⟨w.heap.size, 0, none⟩ = some (.int .i64 10) := (cellOf HIN.out).trans rfl
  have z1 : (codeB w #[.int .i64 10, .int .i64 i, .int .i64 nn, .string lb, .string ow, .int .i64 q.kind, .int .i64 q.n, .string q.name, .int .i64 q.stamp, .int .i64 q.lib, .slice qa q.kids.length qc, .slice (some ⟨b, o, none⟩) 1 kc]).cell? ⟨w.heap.size, 1, none⟩ = some (.int .i64 i) := (cellOf HIN.out).trans rfl
  have z2 : (codeB w #[.int .i64 10, .int .i64 i, .int .i64 nn, .string lb, .string ow, .int .i64 q.kind, .int .i64 q.n, .string q.name, .int .i64 q.stamp, .int .i64 q.lib, .slice qa q.kids.length qc, .slice (some ⟨b, o, none⟩) 1 kc]).cell? ⟨w.heap.size, 2, none⟩ = some (.int .i64 nn) := (cellOf HIN.out).trans rfl
  have z3 : (codeB w #[.int .i64 10, .int .i64 i, .int .i64 nn, .string lb, .string ow, .int .i64 q.kind, .int .i64 q.n, .string q.name, .int .i64 q.stamp, .int .i64 q.lib, .slice qa q.kids.length qc, .slice (some ⟨b, o, none⟩) 1 kc]).cell? ⟨w.heap.size, 3, none⟩ = some (.string lb) := (cellOf HIN.out).trans rfl
  have z4 : (codeB w #[.int .i64 10, .int .i64 i, .int .i64 nn, .string lb, .string ow, .int .i64 q.kind, .int .i64 q.n, .string q.name, .int .i64 q.stamp, .int .i64 q.lib, .slice qa q.kids.length qc, .slice (some ⟨b, o, none⟩) 1 kc]).cell? ⟨w.heap.size, 4, none⟩ = some (.string ow) := (cellOf HIN.out).trans rfl
  have z5 : (codeB w #[.int .i64 10, .int .i64 i, .int .i64 nn, .string lb, .string ow, .int .i64 q.kind, .int .i64 q.n, .string q.name, .int .i64 q.stamp, .int .i64 q.lib, .slice qa q.kids.length qc, .slice (some ⟨b, o, none⟩) 1 kc]).cell? ⟨w.heap.size, 5, none⟩ = some (.int .i64 q.kind) := (cellOf HIN.out).trans rfl
  have z6 : (codeB w #[.int .i64 10, .int .i64 i, .int .i64 nn, .string lb, .string ow, .int .i64 q.kind, .int .i64 q.n, .string q.name, .int .i64 q.stamp, .int .i64 q.lib, .slice qa q.kids.length qc, .slice (some ⟨b, o, none⟩) 1 kc]).cell? ⟨w.heap.size, 6, none⟩ = some (.int .i64 q.n) := (cellOf HIN.out).trans rfl
  have z7 : (codeB w #[.int .i64 10, .int .i64 i, .int .i64 nn, .string lb, .string ow, .int .i64 q.kind, .int .i64 q.n, .string q.name, .int .i64 q.stamp, .int .i64 q.lib, .slice qa q.kids.length qc, .slice (some ⟨b, o, none⟩) 1 kc]).cell? ⟨w.heap.size, 7, none⟩ = some (.string q.name) := (cellOf HIN.out).trans rfl
  have z8 : (codeB w #[.int .i64 10, .int .i64 i, .int .i64 nn, .string lb, .string ow, .int .i64 q.kind, .int .i64 q.n, .string q.name, .int .i64 q.stamp, .int .i64 q.lib, .slice qa q.kids.length qc, .slice (some ⟨b, o, none⟩) 1 kc]).cell? ⟨w.heap.size, 8, none⟩ = some (.int .i64 q.stamp) := (cellOf HIN.out).trans rfl
  have z9 : (codeB w #[.int .i64 10, .int .i64 i, .int .i64 nn, .string lb, .string ow, .int .i64 q.kind, .int .i64 q.n, .string q.name, .int .i64 q.stamp, .int .i64 q.lib, .slice qa q.kids.length qc, .slice (some ⟨b, o, none⟩) 1 kc]).cell? ⟨w.heap.size, 9, none⟩ = some (.int .i64 q.lib) := (cellOf HIN.out).trans rfl
  have z10 : (codeB w #[.int .i64 10, .int .i64 i, .int .i64 nn, .string lb, .string ow, .int .i64 q.kind, .int .i64 q.n, .string q.name, .int .i64 q.stamp, .int .i64 q.lib, .slice qa q.kids.length qc, .slice (some ⟨b, o, none⟩) 1 kc]).cell? ⟨w.heap.size, 10, none⟩ = some (.slice qa q.kids.length qc) := (cellOf HIN.out).trans rfl
  have z11 : (codeB w #[.int .i64 10, .int .i64 i, .int .i64 nn, .string lb, .string ow, .int .i64 q.kind, .int .i64 q.n, .string q.name, .int .i64 q.stamp, .int .i64 q.lib, .slice qa q.kids.length qc, .slice (some ⟨b, o, none⟩) 1 kc]).cell? ⟨w.heap.size, 11, none⟩ = some (.slice (some ⟨b, o, none⟩) 1 kc) := (cellOf HIN.out).trans rfl
  clear hI hall hk nc ok hq2 hk2 hcv hgs hC okx smx stx h
  unfold cva at CALL
  unfold cva
  simp only [List.length_singleton]
  go_enter Try.func20, Try.ntmps20
  go_upto_region 49 with fail
  change Code.wp _ _ _ _ (codeB w #[.int .i64 10, .int .i64 i, .int .i64 nn, .string lb, .string ow, .int .i64 q.kind, .int .i64 q.n, .string q.name, .int .i64 q.stamp, .int .i64 q.lib, .slice qa q.kids.length qc, .slice (some ⟨b, o, none⟩) 1 kc])
  generalize codeB w #[.int .i64 10, .int .i64 i, .int .i64 nn, .string lb, .string ow, .int .i64 q.kind, .int .i64 q.n, .string q.name, .int .i64 q.stamp, .int .i64 q.lib, .slice qa q.kids.length qc, .slice (some ⟨b, o, none⟩) 1 kc] = W0 at HBW HIN CS0 CALL hsb y0 y1 y2 y3 y4 y5 y6 y7 y8 y9 y10 y11 z0 z1 z2 z3 z4 z5 z6 z7 z8 z9 z10 z11 ⊢
  go_wp2_with fail
  refine CALL.out.mono ?_
  intro e w1 ht
  obtain ⟨pv2, av2, ps2, rv, is, rfl, cs1, gr, row, hm1, hm2, fm1⟩ := CS0.out.call (ps1 := []) (by rw [List.append_nil]; exact ht)
  rw [List.nil_append] at cs1 gr
  obtain ⟨ra, rc, rfl, hrc⟩ := row.slice
  have hisl : is.length ≤ 10000000 := by
    have h5 := congrArg List.length hm1
    rw [List.length_map] at h5
    omega
  have C1 := hidd cs1
  have T1 : w1.heap[w.heap.size + 1]? = some (.cells #[.slice none 0 0] 42 (0, 0)) := cs1.ot.box
  have n1 : w1.cell? ⟨w.heap.size + 1, 0, none⟩ = some (.slice none 0 0) := (cellOf T1).trans rfl
  have q1 : w1.frozen? ⟨w.heap.size + 1, 0, none⟩ = false := by simp [World.frozen?, T1]
  have hnog : ¬ OG G pv av w.heap.size := fun e => by have := (HG.out.oglt e).2; omega
  have hnoo : ¬ (X w.heap.size ∨ OO (w.heap.size + 1) (.slice none 0 0) w.heap.size) := by
    rintro (e | e | e)
    · have := HG.out.xlt _ e; omega
    · omega
    · simp [Value.ownBlock] at e
  have IN1 : w1.heap[w.heap.size]? = some (.cells #[.int .i64 10, .int .i64 i, .int .i64 nn, .string lb, .string ow, .int .i64 q.kind, .int .i64 q.n, .string q.name, .int .i64 q.stamp, .int .i64 q.lib, .slice qa q.kids.length qc, .slice (some ⟨b, o, none⟩) 1 kc] 40 (0, 0)) := (fm1.keep _ (Array.getElem?_eq_some_iff.1 HIN.out).1 (by rintro (e | e); exact hnog e; exact hnoo e)).trans HIN.out
  have kT : Keep (w.heap.size + 1) w1 (w1.setCell ⟨w.heap.size + 1, 0, none⟩ (.slice ra is.length rc)) := (Keep.refl _ _).setCell _ rfl _
  have T2 : (w1.setCell ⟨w.heap.size + 1, 0, none⟩ (.slice ra is.length rc)).heap[w.heap.size + 1]? = some (.cells #[.slice ra is.length rc] 42 (0, 0)) := heap_setCell_same w1 _ 0 #[.slice none 0 0] 42 _ T1
  have IN2 : (w1.setCell ⟨w.heap.size + 1, 0, none⟩ (.slice ra is.length rc)).heap[w.heap.size]? = some (.cells #[.int .i64 10, .int .i64 i, .int .i64 nn, .string lb, .string ow, .int .i64 q.kind, .int .i64 q.n, .string q.name, .int .i64 q.stamp, .int .i64 q.lib, .slice qa q.kids.length qc, .slice (some ⟨b, o, none⟩) 1 kc] 40 (0, 0)) := (kT.block _ (Array.getElem?_eq_some_iff.1 IN1).1 (by simp)).trans IN1
  have hne : ∀ b, ¬ (OG G pv2 av2 b ∨ (X b ∨ OO (w.heap.size + 1) (.slice none 0 0) b)) → b ≠ w.heap.size + 1 := fun b hn e => hn (Or.inr (Or.inr (Or.inl e)))
  have R2 : Hid (RowR W0.heap.size (fun b => OG G pv2 av2 b ∨ (X b ∨ OO (w.heap.size + 1) (.slice none 0 0) b)) (.slice ra is.length rc) is (w1.setCell ⟨w.heap.size + 1, 0, none⟩ (.slice ra is.length rc))) := row.other (fun b hb hn => kT.block b hb (by simpa using hne b hn)) kT.size
  have G2 : Hid (GS B (fun b => (X b ∨ OO (w.heap.size + 1) (.slice none 0 0) b) ∨ some b = (Value.slice ra is.length rc).ownBlock) G pv2 av2 (ps ++ ps2) (w1.setCell ⟨w.heap.size + 1, 0, none⟩ (.slice ra is.length rc))) := by
    refine gr.other (fun b hb hh => kT.block b hb ?_) kT.size (fun b hx => Nat.lt_of_lt_of_le (gr.xlt b hx) kT.size) (fun b _ hn e => hn (Or.inr e))
    rcases hh with e | e
    · intro e2
      exact cs1.tg b (Or.inl (by simpa using e2)) e
    · intro e2
      exact e (Or.inr (Or.inl (Or.inr (Or.inl (by simpa using e2)))))
  have HM : Hid (is.map IE.i = gx.1 ∧ ps2.map PE.pro = gx.2) := ⟨hm1, hm2⟩
  have KT := hidd kT
  have HT2 := hidd T2
  have HI2 := hidd IN2
  have RN := hidd row.nb
  have RL : Hid (∀ g, (Value.slice ra is.length rc).ownBlock = some g → W0.heap.size ≤ g) := fun g hg => (row.own.lt g hg).1
  clear gr row fm1 T1 hnog hnoo IN1 kT T2 IN2 hm1 hm2 cs1 ht CALL CS0 HBW HIN hne y0 z0 y1 z1 y2 z2 y3 z3 y4 z4 y5 z5 y6 z6 y7 z7 y8 z8 y9 z9 y10 z10 y11 z11 hjl
  go_upto_region 50 with fail
  clear n1 q1
  generalize w1.setCell ⟨w.heap.size + 1, 0, none⟩ (.slice ra is.length rc) = w2 at R2 G2 KT HT2 HI2 ⊢
  have n2 : w2.cell? ⟨w.heap.size + 1, 0, none⟩ = some (.slice ra is.length rc) := (cellOf HT2.out).trans rfl
  have z0 : w2.cell? ⟨w.heap.size, 0, none⟩ = some (.int .i64 10) := (cellOf HI2.out).trans rfl
  have z1 : w2.cell? ⟨w.heap.size, 1, none⟩ = some (.int .i64 i) := (cellOf HI2.out).trans rfl
  have z3 : w2.cell? ⟨w.heap.size, 3, none⟩ = some (.string lb) := (cellOf HI2.out).trans rfl
  have z4 : w2.cell? ⟨w.heap.size, 4, none⟩ = some (.string ow) := (cellOf HI2.out).trans rfl
  obtain ⟨i1, jinf, jz0, jz1, jz2⟩ := info_parts infoIns
  have hs2 : w.heap.size + 2 ≤ w2.heap.size := by have := (Array.getElem?_eq_some_iff.1 HT2.out).1; omega
  have HO : Hid ((w2.alloc (.cells (IE.mk (insA 11 i) none 0).cells.toArray 46)).ownsRow W0.heap.size 46 11 (.slice ra is.length rc) is.length (flatI is)) := R2.out.own.alloc _
  have hW02 : W0.heap.size ≤ (w2.alloc (.cells (IE.mk (insA 11 i) none 0).cells.toArray 46)).heap.size := by simp; omega
  have HW02 := hidd hW02
  clear hW02
  go_wp2_with (at_builtin; refine wpList_row rfl _ _ 42 rfl W0.heap.size 46 i1 _ 11 128 Try.underlying42 jinf jz0 jz1 jz2 rfl (by decide) (.slice ra is.length rc) is.length (flatI is) rfl HO.out (some ⟨w2.heap.size, 0, none⟩) 1 1 (IE.mk (insA 11 i) none 0).cells rfl rfl (Or.inr ⟨w2.heap.size, 0, rfl, alloc1_cells w2 _ _ _ rfl⟩) (IE.one _) (by unfold maxLen; omega) (by omega) HW02.out ?_)
  intro v4 w4 hown4 hg4 hw4
  obtain ⟨row4, fm4⟩ := R2.out.push ((Below.refl _ _).alloc (Nat.le_refl _) (.cells (IE.mk (insA 11 i) none 0).cells.toArray 46)) (by omega) (fun b e => e.elim (fun e => (G2.out.oglt e).2) (fun e => G2.out.xlt b (Or.inl e))) ⟨insA 11 i, none, 0⟩ (ie_plain _ _ _ HOK.out.1 HOK.out.2.1 rfl) (by rw [hsb]; exact hown4) hg4 (by simpa using hw4)
  have END := hidd (ToldG.push (g := (gx.1 ++ [insA 11 i], gx.2)) HG.out.xlt C1.out.fm (Nat.le_succ _) HG.out.ble KT.out G2.out (by omega) (fun g hg => ⟨RN.out g hg, RL.out g hg⟩) row4 fm4 (by rw [HM.out.1]) HM.out.2)
  clear row4 fm4 hown4 hg4 hw4 HO HW02 R2 G2 KT HT2 HI2 n2 z0 z1 z3 z4
  try simp only [Act.put, List.setIfInBounds_toArray, List.set_cons_succ, List.set_cons_zero]
  go_wp2_with fail
  go_ret
  exact END.out

set_option maxRecDepth 100000 in
set_option maxHeartbeats 3200000 in
theorem Code_11 (B0 B f : Nat) (hB : B0 ≤ B) (hC : CodeW B0 B f) (X : Nat → Prop) (G : Nat) (pv av : Value) (ps : List PE) (i nn : Int) (lb ow : ByteArray) (q : Dat) (x : Cor) (qa ka : Option Addr) (qc kc : Nat) (w : World) (hl : lb.size ≤ maxLen) (ho : ow.size ≤ maxLen) (hk : Cc B0 w (f + 1) ka [x]) (hkc : 1 ≤ kc)
    (okx : okC x) (smx : smC x) (stx : stC x) (hsz : sizC x ≤ 10000000) (hlm : ps.length + lamC x ≤ 10000000) (hln : lonC x ≤ 10000000) (h : GS B X G pv av ps w) :
    Calls Try.prog 20 #[.pointer (some ⟨G, 0, none⟩), .agg (cva ⟨11, i, nn, lb, ow, q, [x]⟩ qa qc ka kc)] w (ToldG B X G pv av ps (genC ⟨11, i, nn, lb, ow, q, [x]⟩ 0 ps.length) w) := by
  rw [genC_kid i nn lb ow q x ps.length (by decide) (by decide) (by decide)]
  have hI : lastI ⟨11, i, nn, lb, ow, q, [x]⟩ = insG 12 lb ow := by unfold lastI; simp
  rw [hI]
  obtain ⟨g', b, o, hg, rfl, hall⟩ := hk.at (by simp)
  obtain rfl : g' = f := by omega
  obtain ⟨hbB, qa2, qc2, ka2, kc2, nc, ok, hq2, hk2⟩ := hall 0 x rfl
  rw [show o + 0 * 12 = o by omega] at nc
  have hbw : b < w.heap.size := Nat.lt_of_lt_of_le (Nat.lt_of_lt_of_le hbB hB) h.ble
  have HG := hidd h
  have HOK := hidd (ie_plain (fun _ => True) w (insG 12 lb ow) (hl) (ho) rfl)
  have hsb := codeB_size w #[.int .i64 11, .int .i64 i, .int .i64 nn, .string lb, .string ow, .int .i64 q.kind, .int .i64 q.n, .string q.name, .int .i64 q.stamp, .int .i64 q.lib, .slice qa q.kids.length qc, .slice (some ⟨b, o, none⟩) 1 kc]
  have HBW := hidd (codeB_below w #[.int .i64 11, .int .i64 i, .int .i64 nn, .string lb, .string ow, .int .i64 q.kind, .int .i64 q.n, .string q.name, .int .i64 q.stamp, .int .i64 q.lib, .slice qa q.kids.length qc, .slice (some ⟨b, o, none⟩) 1 kc])
  have HIN := hidd (codeB_in w #[.int .i64 11, .int .i64 i, .int .i64 nn, .string lb, .string ow, .int .i64 q.kind, .int .i64 q.n, .string q.name, .int .i64 q.stamp, .int .i64 q.lib, .slice qa q.kids.length qc, .slice (some ⟨b, o, none⟩) 1 kc])
  have CS0 := hidd (CS.start h HBW.out (T := w.heap.size + 1) (Nat.le_succ _) (codeB_out w #[.int .i64 11, .int .i64 i, .int .i64 nn, .string lb, .string ow, .int .i64 q.kind, .int .i64 q.n, .string q.name, .int .i64 q.stamp, .int .i64 q.lib, .slice qa q.kids.length qc, .slice (some ⟨b, o, none⟩) 1 kc]))
  have hgs := CS0.out.gs
  rw [List.append_nil] at hgs
  have hcv : CvOk B0 (codeB w #[.int .i64 11, .int .i64 i, .int .i64 nn, .string lb, .string ow, .int .i64 q.kind, .int .i64 q.n, .string q.name, .int .i64 q.stamp, .int .i64 q.lib, .slice qa q.kids.length qc, .slice (some ⟨b, o, none⟩) 1 kc]) g' x qa2 qc2 ka2 kc2 := CvOk.below (w := w) ⟨ok, hq2, hk2⟩ (HBW.out.mono (Nat.le_trans hB h.ble))
  have CALL := hidd (hC (fun b => X b ∨ OO (w.heap.size + 1) (.slice none 0 0) b) G pv av ps x qa2 ka2 qc2 kc2 (codeB w #[.int .i64 11, .int .i64 i, .int .i64 nn, .string lb, .string ow, .int .i64 q.kind, .int .i64 q.n, .string q.name, .int .i64 q.stamp, .int .i64 q.lib, .slice qa q.kids.length qc, .slice (some ⟨b, o, none⟩) 1 kc]) okx smx stx hsz hlm hln hcv hgs)
  have hjl := genC_len x okx 0 ps.length
  generalize genC x 0 ps.length = gx at CALL hjl ⊢
  have y0 : (codeB w #[.int .i64 11, .int .i64 i, .int .i64 nn, .string lb, .string ow, .int .i64 q.kind, .int .i64 q.n, .string q.name, .int .i64 q.stamp, .int .i64 q.lib, .slice qa q.kids.length qc, .slice (some ⟨b, o, none⟩) 1 kc]).cell? ⟨b, o, none⟩ = _ := (HBW.out.cell (p := ⟨b, o, none⟩) hbw).trans nc.c0
  have y1 : (codeB w #[.int .i64 11, .int .i64 i, .int .i64 nn, .string lb, .string ow, .int .i64 q.kind, .int .i64 q.n, .string q.name, .int .i64 q.stamp, .int .i64 q.lib, .slice qa q.kids.length qc, .slice (some ⟨b, o, none⟩) 1 kc]).cell? ⟨b, o + 1, none⟩ = _ := (HBW.out.cell (p := ⟨b, o + 1, none⟩) hbw).trans nc.c1
  have y2 : (codeB w #[.int .i64 11, .int .i64 i, .int .i64 nn, .string lb, .string ow, .int .i64 q.kind, .int .i64 q.n, .string q.name, .int .i64 q.stamp, .int .i64 q.lib, .slice qa q.kids.length qc, .slice (some ⟨b, o, none⟩) 1 kc]).cell? ⟨b, o + 2, none⟩ = _ := (HBW.out.cell (p := ⟨b, o + 2, none⟩) hbw).trans nc.c2
  have y3 : (codeB w #[.int .i64 11, .int .i64 i, .int .i64 nn, .string lb, .string ow, .int .i64 q.kind, .int .i64 q.n, .string q.name, .int .i64 q.stamp, .int .i64 q.lib, .slice qa q.kids.length qc, .slice (some ⟨b, o, none⟩) 1 kc]).cell? ⟨b, o + 3, none⟩ = _ := (HBW.out.cell (p := ⟨b, o + 3, none⟩) hbw).trans nc.c3
  have y4 : (codeB w #[.int .i64 11, .int .i64 i, .int .i64 nn, .string lb, .string ow, .int .i64 q.kind, .int .i64 q.n, .string q.name, .int .i64 q.stamp, .int .i64 q.lib, .slice qa q.kids.length qc, .slice (some ⟨b, o, none⟩) 1 kc]).cell? ⟨b, o + 4, none⟩ = _ := (HBW.out.cell (p := ⟨b, o + 4, none⟩) hbw).trans nc.c4
  have y5 : (codeB w #[.int .i64 11, .int .i64 i, .int .i64 nn, .string lb, .string ow, .int .i64 q.kind, .int .i64 q.n, .string q.name, .int .i64 q.stamp, .int .i64 q.lib, .slice qa q.kids.length qc, .slice (some ⟨b, o, none⟩) 1 kc]).cell? ⟨b, o + 5, none⟩ = _ := (HBW.out.cell (p := ⟨b, o + 5, none⟩) hbw).trans nc.c5
  have y6 : (codeB w #[.int .i64 11, .int .i64 i, .int .i64 nn, .string lb, .string ow, .int .i64 q.kind, .int .i64 q.n, .string q.name, .int .i64 q.stamp, .int .i64 q.lib, .slice qa q.kids.length qc, .slice (some ⟨b, o, none⟩) 1 kc]).cell? ⟨b, o + 6, none⟩ = _ := (HBW.out.cell (p := ⟨b, o + 6, none⟩) hbw).trans nc.c6
  have y7 : (codeB w #[.int .i64 11, .int .i64 i, .int .i64 nn, .string lb, .string ow, .int .i64 q.kind, .int .i64 q.n, .string q.name, .int .i64 q.stamp, .int .i64 q.lib, .slice qa q.kids.length qc, .slice (some ⟨b, o, none⟩) 1 kc]).cell? ⟨b, o + 7, none⟩ = _ := (HBW.out.cell (p := ⟨b, o + 7, none⟩) hbw).trans nc.c7
  have y8 : (codeB w #[.int .i64 11, .int .i64 i, .int .i64 nn, .string lb, .string ow, .int .i64 q.kind, .int .i64 q.n, .string q.name, .int .i64 q.stamp, .int .i64 q.lib, .slice qa q.kids.length qc, .slice (some ⟨b, o, none⟩) 1 kc]).cell? ⟨b, o + 8, none⟩ = _ := (HBW.out.cell (p := ⟨b, o + 8, none⟩) hbw).trans nc.c8
  have y9 : (codeB w #[.int .i64 11, .int .i64 i, .int .i64 nn, .string lb, .string ow, .int .i64 q.kind, .int .i64 q.n, .string q.name, .int .i64 q.stamp, .int .i64 q.lib, .slice qa q.kids.length qc, .slice (some ⟨b, o, none⟩) 1 kc]).cell? ⟨b, o + 9, none⟩ = _ := (HBW.out.cell (p := ⟨b, o + 9, none⟩) hbw).trans nc.c9
  have y10 : (codeB w #[.int .i64 11, .int .i64 i, .int .i64 nn, .string lb, .string ow, .int .i64 q.kind, .int .i64 q.n, .string q.name, .int .i64 q.stamp, .int .i64 q.lib, .slice qa q.kids.length qc, .slice (some ⟨b, o, none⟩) 1 kc]).cell? ⟨b, o + 10, none⟩ = _ := (HBW.out.cell (p := ⟨b, o + 10, none⟩) hbw).trans nc.c10
  have y11 : (codeB w #[.int .i64 11, .int .i64 i, .int .i64 nn, .string lb, .string ow, .int .i64 q.kind, .int .i64 q.n, .string q.name, .int .i64 q.stamp, .int .i64 q.lib, .slice qa q.kids.length qc, .slice (some ⟨b, o, none⟩) 1 kc]).cell? ⟨b, o + 11, none⟩ = _ := (HBW.out.cell (p := ⟨b, o + 11, none⟩) hbw).trans nc.c11
  have z0 : (codeB w #[.int .i64 11, .int .i64 i, .int .i64 nn, .string lb, .string ow, .int .i64 q.kind, .int .i64 q.n, .string q.name, .int .i64 q.stamp, .int .i64 q.lib, .slice qa q.kids.length qc, .slice (some ⟨b, o, none⟩) 1 kc]).cell? ⟨w.heap.size, 0, none⟩ = some (.int .i64 11) := (cellOf HIN.out).trans rfl
  have z1 : (codeB w #[.int .i64 11, .int .i64 i, .int .i64 nn, .string lb, .string ow, .int .i64 q.kind, .int .i64 q.n, .string q.name, .int .i64 q.stamp, .int .i64 q.lib, .slice qa q.kids.length qc, .slice (some ⟨b, o, none⟩) 1 kc]).cell? ⟨w.heap.size, 1, none⟩ = some (.int .i64 i) := (cellOf HIN.out).trans rfl
  have z2 : (codeB w #[.int .i64 11, .int .i64 i, .int .i64 nn, .string lb, .string ow, .int .i64 q.kind, .int .i64 q.n, .string q.name, .int .i64 q.stamp, .int .i64 q.lib, .slice qa q.kids.length qc, .slice (some ⟨b, o, none⟩) 1 kc]).cell? ⟨w.heap.size, 2, none⟩ = some (.int .i64 nn) := (cellOf HIN.out).trans rfl
  have z3 : (codeB w #[.int .i64 11, .int .i64 i, .int .i64 nn, .string lb, .string ow, .int .i64 q.kind, .int .i64 q.n, .string q.name, .int .i64 q.stamp, .int .i64 q.lib, .slice qa q.kids.length qc, .slice (some ⟨b, o, none⟩) 1 kc]).cell? ⟨w.heap.size, 3, none⟩ = some (.string lb) := (cellOf HIN.out).trans rfl
  have z4 : (codeB w #[.int .i64 11, .int .i64 i, .int .i64 nn, .string lb, .string ow, .int .i64 q.kind, .int .i64 q.n, .string q.name, .int .i64 q.stamp, .int .i64 q.lib, .slice qa q.kids.length qc, .slice (some ⟨b, o, none⟩) 1 kc]).cell? ⟨w.heap.size, 4, none⟩ = some (.string ow) := (cellOf HIN.out).trans rfl
  have z5 : (codeB w #[.int .i64 11, .int .i64 i, .int .i64 nn, .string lb, .string ow, .int .i64 q.kind, .int .i64 q.n, .string q.name, .int .i64 q.stamp, .int .i64 q.lib, .slice qa q.kids.length qc, .slice (some ⟨b, o, none⟩) 1 kc]).cell? ⟨w.heap.size, 5, none⟩ = some (.int .i64 q.kind) := (cellOf HIN.out).trans rfl
  have z6 : (codeB w #[.int .i64 11, .int .i64 i, .int .i64 nn, .string lb, .string ow, .int .i64 q.kind, .int .i64 q.n, .string q.name, .int .i64 q.stamp, .int .i64 q.lib, .slice qa q.kids.length qc, .slice (some ⟨b, o, none⟩) 1 kc]).cell? ⟨w.heap.size, 6, none⟩ = some (.int .i64 q.n) := (cellOf HIN.out).trans rfl
  have z7 : (codeB w #[.int .i64 11, .int .i64 i, .int .i64 nn, .string lb, .string ow, .int .i64 q.kind, .int .i64 q.n, .string q.name, .int .i64 q.stamp, .int .i64 q.lib, .slice qa q.kids.length qc, .slice (some ⟨b, o, none⟩) 1 kc]).cell? ⟨w.heap.size, 7, none⟩ = some (.string q.name) := (cellOf HIN.out).trans rfl
  have z8 : (codeB w #[.int .i64 11, .int .i64 i, .int .i64 nn, .string lb, .string ow, .int .i64 q.kind, .int .i64 q.n, .string q.name, .int .i64 q.stamp, .int .i64 q.lib, .slice qa q.kids.length qc, .slice (some ⟨b, o, none⟩) 1 kc]).cell? ⟨w.heap.size, 8, none⟩ = some (.int .i64 q.stamp) := (cellOf HIN.out).trans rfl
  have z9 : (codeB w #[.int .i64 11, .int .i64 i, .int .i64 nn, .string lb, .string ow, .int .i64 q.kind, .int .i64 q.n, .string q.name, .int .i64 q.stamp, .int .i64 q.lib, .slice qa q.kids.length qc, .slice (some ⟨b, o, none⟩) 1 kc]).cell? ⟨w.heap.size, 9, none⟩ = some (.int .i64 q.lib) := (cellOf HIN.out).trans rfl
  have z10 : (codeB w #[.int .i64 11, .int .i64 i, .int .i64 nn, .string lb, .string ow, .int .i64 q.kind, .int .i64 q.n, .string q.name, .int .i64 q.stamp, .int .i64 q.lib, .slice qa q.kids.length qc, .slice (some ⟨b, o, none⟩) 1 kc]).cell? ⟨w.heap.size, 10, none⟩ = some (.slice qa q.kids.length qc) := (cellOf HIN.out).trans rfl
  have z11 : (codeB w #[.int .i64 11, .int .i64 i, .int .i64 nn, .string lb, .string ow, .int .i64 q.kind, .int .i64 q.n, .string q.name, .int .i64 q.stamp, .int .i64 q.lib, .slice qa q.kids.length qc, .slice (some ⟨b, o, none⟩) 1 kc]).cell? ⟨w.heap.size, 11, none⟩ = some (.slice (some ⟨b, o, none⟩) 1 kc) := (cellOf HIN.out).trans rfl
  clear hI hall hk nc ok hq2 hk2 hcv hgs hC okx smx stx h
  unfold cva at CALL
  unfold cva
  simp only [List.length_singleton]
  go_enter Try.func20, Try.ntmps20
  go_upto_region 49 with fail
  change Code.wp _ _ _ _ (codeB w #[.int .i64 11, .int .i64 i, .int .i64 nn, .string lb, .string ow, .int .i64 q.kind, .int .i64 q.n, .string q.name, .int .i64 q.stamp, .int .i64 q.lib, .slice qa q.kids.length qc, .slice (some ⟨b, o, none⟩) 1 kc])
  generalize codeB w #[.int .i64 11, .int .i64 i, .int .i64 nn, .string lb, .string ow, .int .i64 q.kind, .int .i64 q.n, .string q.name, .int .i64 q.stamp, .int .i64 q.lib, .slice qa q.kids.length qc, .slice (some ⟨b, o, none⟩) 1 kc] = W0 at HBW HIN CS0 CALL hsb y0 y1 y2 y3 y4 y5 y6 y7 y8 y9 y10 y11 z0 z1 z2 z3 z4 z5 z6 z7 z8 z9 z10 z11 ⊢
  go_wp2_with fail
  refine CALL.out.mono ?_
  intro e w1 ht
  obtain ⟨pv2, av2, ps2, rv, is, rfl, cs1, gr, row, hm1, hm2, fm1⟩ := CS0.out.call (ps1 := []) (by rw [List.append_nil]; exact ht)
  rw [List.nil_append] at cs1 gr
  obtain ⟨ra, rc, rfl, hrc⟩ := row.slice
  have hisl : is.length ≤ 10000000 := by
    have h5 := congrArg List.length hm1
    rw [List.length_map] at h5
    omega
  have C1 := hidd cs1
  have T1 : w1.heap[w.heap.size + 1]? = some (.cells #[.slice none 0 0] 42 (0, 0)) := cs1.ot.box
  have n1 : w1.cell? ⟨w.heap.size + 1, 0, none⟩ = some (.slice none 0 0) := (cellOf T1).trans rfl
  have q1 : w1.frozen? ⟨w.heap.size + 1, 0, none⟩ = false := by simp [World.frozen?, T1]
  have hnog : ¬ OG G pv av w.heap.size := fun e => by have := (HG.out.oglt e).2; omega
  have hnoo : ¬ (X w.heap.size ∨ OO (w.heap.size + 1) (.slice none 0 0) w.heap.size) := by
    rintro (e | e | e)
    · have := HG.out.xlt _ e; omega
    · omega
    · simp [Value.ownBlock] at e
  have IN1 : w1.heap[w.heap.size]? = some (.cells #[.int .i64 11, .int .i64 i, .int .i64 nn, .string lb, .string ow, .int .i64 q.kind, .int .i64 q.n, .string q.name, .int .i64 q.stamp, .int .i64 q.lib, .slice qa q.kids.length qc, .slice (some ⟨b, o, none⟩) 1 kc] 40 (0, 0)) := (fm1.keep _ (Array.getElem?_eq_some_iff.1 HIN.out).1 (by rintro (e | e); exact hnog e; exact hnoo e)).trans HIN.out
  have kT : Keep (w.heap.size + 1) w1 (w1.setCell ⟨w.heap.size + 1, 0, none⟩ (.slice ra is.length rc)) := (Keep.refl _ _).setCell _ rfl _
  have T2 : (w1.setCell ⟨w.heap.size + 1, 0, none⟩ (.slice ra is.length rc)).heap[w.heap.size + 1]? = some (.cells #[.slice ra is.length rc] 42 (0, 0)) := heap_setCell_same w1 _ 0 #[.slice none 0 0] 42 _ T1
  have IN2 : (w1.setCell ⟨w.heap.size + 1, 0, none⟩ (.slice ra is.length rc)).heap[w.heap.size]? = some (.cells #[.int .i64 11, .int .i64 i, .int .i64 nn, .string lb, .string ow, .int .i64 q.kind, .int .i64 q.n, .string q.name, .int .i64 q.stamp, .int .i64 q.lib, .slice qa q.kids.length qc, .slice (some ⟨b, o, none⟩) 1 kc] 40 (0, 0)) := (kT.block _ (Array.getElem?_eq_some_iff.1 IN1).1 (by simp)).trans IN1
  have hne : ∀ b, ¬ (OG G pv2 av2 b ∨ (X b ∨ OO (w.heap.size + 1) (.slice none 0 0) b)) → b ≠ w.heap.size + 1 := fun b hn e => hn (Or.inr (Or.inr (Or.inl e)))
  have R2 : Hid (RowR W0.heap.size (fun b => OG G pv2 av2 b ∨ (X b ∨ OO (w.heap.size + 1) (.slice none 0 0) b)) (.slice ra is.length rc) is (w1.setCell ⟨w.heap.size + 1, 0, none⟩ (.slice ra is.length rc))) := row.other (fun b hb hn => kT.block b hb (by simpa using hne b hn)) kT.size
  have G2 : Hid (GS B (fun b => (X b ∨ OO (w.heap.size + 1) (.slice none 0 0) b) ∨ some b = (Value.slice ra is.length rc).ownBlock) G pv2 av2 (ps ++ ps2) (w1.setCell ⟨w.heap.size + 1, 0, none⟩ (.slice ra is.length rc))) := by
    refine gr.other (fun b hb hh => kT.block b hb ?_) kT.size (fun b hx => Nat.lt_of_lt_of_le (gr.xlt b hx) kT.size) (fun b _ hn e => hn (Or.inr e))
    rcases hh with e | e
    · intro e2
      exact cs1.tg b (Or.inl (by simpa using e2)) e
    · intro e2
      exact e (Or.inr (Or.inl (Or.inr (Or.inl (by simpa using e2)))))
  have HM : Hid (is.map IE.i = gx.1 ∧ ps2.map PE.pro = gx.2) := ⟨hm1, hm2⟩
  have KT := hidd kT
  have HT2 := hidd T2
  have HI2 := hidd IN2
  have RN := hidd row.nb
  have RL : Hid (∀ g, (Value.slice ra is.length rc).ownBlock = some g → W0.heap.size ≤ g) := fun g hg => (row.own.lt g hg).1
  clear gr row fm1 T1 hnog hnoo IN1 kT T2 IN2 hm1 hm2 cs1 ht CALL CS0 HBW HIN hne y0 z0 y1 z1 y2 z2 y3 z3 y4 z4 y5 z5 y6 z6 y7 z7 y8 z8 y9 z9 y10 z10 y11 z11 hjl
  go_upto_region 50 with fail
  clear n1 q1
  generalize w1.setCell ⟨w.heap.size + 1, 0, none⟩ (.slice ra is.length rc) = w2 at R2 G2 KT HT2 HI2 ⊢
  have n2 : w2.cell? ⟨w.heap.size + 1, 0, none⟩ = some (.slice ra is.length rc) := (cellOf HT2.out).trans rfl
  have z0 : w2.cell? ⟨w.heap.size, 0, none⟩ = some (.int .i64 11) := (cellOf HI2.out).trans rfl
  have z1 : w2.cell? ⟨w.heap.size, 1, none⟩ = some (.int .i64 i) := (cellOf HI2.out).trans rfl
  have z3 : w2.cell? ⟨w.heap.size, 3, none⟩ = some (.string lb) := (cellOf HI2.out).trans rfl
  have z4 : w2.cell? ⟨w.heap.size, 4, none⟩ = some (.string ow) := (cellOf HI2.out).trans rfl
  obtain ⟨i1, jinf, jz0, jz1, jz2⟩ := info_parts infoIns
  have hs2 : w.heap.size + 2 ≤ w2.heap.size := by have := (Array.getElem?_eq_some_iff.1 HT2.out).1; omega
  have HO : Hid ((w2.alloc (.cells (IE.mk (insG 12 lb ow) none 0).cells.toArray 46)).ownsRow W0.heap.size 46 11 (.slice ra is.length rc) is.length (flatI is)) := R2.out.own.alloc _
  have hW02 : W0.heap.size ≤ (w2.alloc (.cells (IE.mk (insG 12 lb ow) none 0).cells.toArray 46)).heap.size := by simp; omega
  have HW02 := hidd hW02
  clear hW02
  go_wp2_with (at_builtin; refine wpList_row rfl _ _ 42 rfl W0.heap.size 46 i1 _ 11 128 Try.underlying42 jinf jz0 jz1 jz2 rfl (by decide) (.slice ra is.length rc) is.length (flatI is) rfl HO.out (some ⟨w2.heap.size, 0, none⟩) 1 1 (IE.mk (insG 12 lb ow) none 0).cells rfl rfl (Or.inr ⟨w2.heap.size, 0, rfl, alloc1_cells w2 _ _ _ rfl⟩) (IE.one _) (by unfold maxLen; omega) (by omega) HW02.out ?_)
  intro v4 w4 hown4 hg4 hw4
  obtain ⟨row4, fm4⟩ := R2.out.push ((Below.refl _ _).alloc (Nat.le_refl _) (.cells (IE.mk (insG 12 lb ow) none 0).cells.toArray 46)) (by omega) (fun b e => e.elim (fun e => (G2.out.oglt e).2) (fun e => G2.out.xlt b (Or.inl e))) ⟨insG 12 lb ow, none, 0⟩ (ie_plain _ _ _ HOK.out.1 HOK.out.2.1 rfl) (by rw [hsb]; exact hown4) hg4 (by simpa using hw4)
  have END := hidd (ToldG.push (g := (gx.1 ++ [insG 12 lb ow], gx.2)) HG.out.xlt C1.out.fm (Nat.le_succ _) HG.out.ble KT.out G2.out (by omega) (fun g hg => ⟨RN.out g hg, RL.out g hg⟩) row4 fm4 (by rw [HM.out.1]) HM.out.2)
  clear row4 fm4 hown4 hg4 hw4 HO HW02 R2 G2 KT HT2 HI2 n2 z0 z1 z3 z4
  try simp only [Act.put, List.setIfInBounds_toArray, List.set_cons_succ, List.set_cons_zero]
  go_wp2_with fail
  go_ret
  exact END.out

set_option maxRecDepth 100000 in
set_option maxHeartbeats 3200000 in
theorem Code_13 (B0 B f : Nat) (hB : B0 ≤ B) (hC : CodeW B0 B f) (X : Nat → Prop) (G : Nat) (pv av : Value) (ps : List PE) (i nn : Int) (lb ow : ByteArray) (q : Dat) (x : Cor) (qa ka : Option Addr) (qc kc : Nat) (w : World) (hl : lb.size ≤ maxLen) (ho : ow.size ≤ maxLen) (hk : Cc B0 w (f + 1) ka [x]) (hkc : 1 ≤ kc)
    (okx : okC x) (smx : smC x) (stx : stC x) (hsz : sizC x ≤ 10000000) (hlm : ps.length + lamC x ≤ 10000000) (hln : lonC x ≤ 10000000) (h : GS B X G pv av ps w) :
    Calls Try.prog 20 #[.pointer (some ⟨G, 0, none⟩), .agg (cva ⟨13, i, nn, lb, ow, q, [x]⟩ qa qc ka kc)] w (ToldG B X G pv av ps (genC ⟨13, i, nn, lb, ow, q, [x]⟩ 0 ps.length) w) := by
  rw [genC_kid i nn lb ow q x ps.length (by decide) (by decide) (by decide)]
  have hI : lastI ⟨13, i, nn, lb, ow, q, [x]⟩ = insG 13 lb ow := by unfold lastI; simp
  rw [hI]
  obtain ⟨g', b, o, hg, rfl, hall⟩ := hk.at (by simp)
  obtain rfl : g' = f := by omega
  obtain ⟨hbB, qa2, qc2, ka2, kc2, nc, ok, hq2, hk2⟩ := hall 0 x rfl
  rw [show o + 0 * 12 = o by omega] at nc
  have hbw : b < w.heap.size := Nat.lt_of_lt_of_le (Nat.lt_of_lt_of_le hbB hB) h.ble
  have HG := hidd h
  have HOK := hidd (ie_plain (fun _ => True) w (insG 13 lb ow) (hl) (ho) rfl)
  have hsb := codeB_size w #[.int .i64 13, .int .i64 i, .int .i64 nn, .string lb, .string ow, .int .i64 q.kind, .int .i64 q.n, .string q.name, .int .i64 q.stamp, .int .i64 q.lib, .slice qa q.kids.length qc, .slice (some ⟨b, o, none⟩) 1 kc]
  have HBW := hidd (codeB_below w #[.int .i64 13, .int .i64 i, .int .i64 nn, .string lb, .string ow, .int .i64 q.kind, .int .i64 q.n, .string q.name, .int .i64 q.stamp, .int .i64 q.lib, .slice qa q.kids.length qc, .slice (some ⟨b, o, none⟩) 1 kc])
  have HIN := hidd (codeB_in w #[.int .i64 13, .int .i64 i, .int .i64 nn, .string lb, .string ow, .int .i64 q.kind, .int .i64 q.n, .string q.name, .int .i64 q.stamp, .int .i64 q.lib, .slice qa q.kids.length qc, .slice (some ⟨b, o, none⟩) 1 kc])
  have CS0 := hidd (CS.start h HBW.out (T := w.heap.size + 1) (Nat.le_succ _) (codeB_out w #[.int .i64 13, .int .i64 i, .int .i64 nn, .string lb, .string ow, .int .i64 q.kind, .int .i64 q.n, .string q.name, .int .i64 q.stamp, .int .i64 q.lib, .slice qa q.kids.length qc, .slice (some ⟨b, o, none⟩) 1 kc]))
  have hgs := CS0.out.gs
  rw [List.append_nil] at hgs
  have hcv : CvOk B0 (codeB w #[.int .i64 13, .int .i64 i, .int .i64 nn, .string lb, .string ow, .int .i64 q.kind, .int .i64 q.n, .string q.name, .int .i64 q.stamp, .int .i64 q.lib, .slice qa q.kids.length qc, .slice (some ⟨b, o, none⟩) 1 kc]) g' x qa2 qc2 ka2 kc2 := CvOk.below (w := w) ⟨ok, hq2, hk2⟩ (HBW.out.mono (Nat.le_trans hB h.ble))
  have CALL := hidd (hC (fun b => X b ∨ OO (w.heap.size + 1) (.slice none 0 0) b) G pv av ps x qa2 ka2 qc2 kc2 (codeB w #[.int .i64 13, .int .i64 i, .int .i64 nn, .string lb, .string ow, .int .i64 q.kind, .int .i64 q.n, .string q.name, .int .i64 q.stamp, .int .i64 q.lib, .slice qa q.kids.length qc, .slice (some ⟨b, o, none⟩) 1 kc]) okx smx stx hsz hlm hln hcv hgs)
  have hjl := genC_len x okx 0 ps.length
  generalize genC x 0 ps.length = gx at CALL hjl ⊢
  have y0 : (codeB w #[.int .i64 13, .int .i64 i, .int .i64 nn, .string lb, .string ow, .int .i64 q.kind, .int .i64 q.n, .string q.name, .int .i64 q.stamp, .int .i64 q.lib, .slice qa q.kids.length qc, .slice (some ⟨b, o, none⟩) 1 kc]).cell? ⟨b, o, none⟩ = _ := (HBW.out.cell (p := ⟨b, o, none⟩) hbw).trans nc.c0
  have y1 : (codeB w #[.int .i64 13, .int .i64 i, .int .i64 nn, .string lb, .string ow, .int .i64 q.kind, .int .i64 q.n, .string q.name, .int .i64 q.stamp, .int .i64 q.lib, .slice qa q.kids.length qc, .slice (some ⟨b, o, none⟩) 1 kc]).cell? ⟨b, o + 1, none⟩ = _ := (HBW.out.cell (p := ⟨b, o + 1, none⟩) hbw).trans nc.c1
  have y2 : (codeB w #[.int .i64 13, .int .i64 i, .int .i64 nn, .string lb, .string ow, .int .i64 q.kind, .int .i64 q.n, .string q.name, .int .i64 q.stamp, .int .i64 q.lib, .slice qa q.kids.length qc, .slice (some ⟨b, o, none⟩) 1 kc]).cell? ⟨b, o + 2, none⟩ = _ := (HBW.out.cell (p := ⟨b, o + 2, none⟩) hbw).trans nc.c2
  have y3 : (codeB w #[.int .i64 13, .int .i64 i, .int .i64 nn, .string lb, .string ow, .int .i64 q.kind, .int .i64 q.n, .string q.name, .int .i64 q.stamp, .int .i64 q.lib, .slice qa q.kids.length qc, .slice (some ⟨b, o, none⟩) 1 kc]).cell? ⟨b, o + 3, none⟩ = _ := (HBW.out.cell (p := ⟨b, o + 3, none⟩) hbw).trans nc.c3
  have y4 : (codeB w #[.int .i64 13, .int .i64 i, .int .i64 nn, .string lb, .string ow, .int .i64 q.kind, .int .i64 q.n, .string q.name, .int .i64 q.stamp, .int .i64 q.lib, .slice qa q.kids.length qc, .slice (some ⟨b, o, none⟩) 1 kc]).cell? ⟨b, o + 4, none⟩ = _ := (HBW.out.cell (p := ⟨b, o + 4, none⟩) hbw).trans nc.c4
  have y5 : (codeB w #[.int .i64 13, .int .i64 i, .int .i64 nn, .string lb, .string ow, .int .i64 q.kind, .int .i64 q.n, .string q.name, .int .i64 q.stamp, .int .i64 q.lib, .slice qa q.kids.length qc, .slice (some ⟨b, o, none⟩) 1 kc]).cell? ⟨b, o + 5, none⟩ = _ := (HBW.out.cell (p := ⟨b, o + 5, none⟩) hbw).trans nc.c5
  have y6 : (codeB w #[.int .i64 13, .int .i64 i, .int .i64 nn, .string lb, .string ow, .int .i64 q.kind, .int .i64 q.n, .string q.name, .int .i64 q.stamp, .int .i64 q.lib, .slice qa q.kids.length qc, .slice (some ⟨b, o, none⟩) 1 kc]).cell? ⟨b, o + 6, none⟩ = _ := (HBW.out.cell (p := ⟨b, o + 6, none⟩) hbw).trans nc.c6
  have y7 : (codeB w #[.int .i64 13, .int .i64 i, .int .i64 nn, .string lb, .string ow, .int .i64 q.kind, .int .i64 q.n, .string q.name, .int .i64 q.stamp, .int .i64 q.lib, .slice qa q.kids.length qc, .slice (some ⟨b, o, none⟩) 1 kc]).cell? ⟨b, o + 7, none⟩ = _ := (HBW.out.cell (p := ⟨b, o + 7, none⟩) hbw).trans nc.c7
  have y8 : (codeB w #[.int .i64 13, .int .i64 i, .int .i64 nn, .string lb, .string ow, .int .i64 q.kind, .int .i64 q.n, .string q.name, .int .i64 q.stamp, .int .i64 q.lib, .slice qa q.kids.length qc, .slice (some ⟨b, o, none⟩) 1 kc]).cell? ⟨b, o + 8, none⟩ = _ := (HBW.out.cell (p := ⟨b, o + 8, none⟩) hbw).trans nc.c8
  have y9 : (codeB w #[.int .i64 13, .int .i64 i, .int .i64 nn, .string lb, .string ow, .int .i64 q.kind, .int .i64 q.n, .string q.name, .int .i64 q.stamp, .int .i64 q.lib, .slice qa q.kids.length qc, .slice (some ⟨b, o, none⟩) 1 kc]).cell? ⟨b, o + 9, none⟩ = _ := (HBW.out.cell (p := ⟨b, o + 9, none⟩) hbw).trans nc.c9
  have y10 : (codeB w #[.int .i64 13, .int .i64 i, .int .i64 nn, .string lb, .string ow, .int .i64 q.kind, .int .i64 q.n, .string q.name, .int .i64 q.stamp, .int .i64 q.lib, .slice qa q.kids.length qc, .slice (some ⟨b, o, none⟩) 1 kc]).cell? ⟨b, o + 10, none⟩ = _ := (HBW.out.cell (p := ⟨b, o + 10, none⟩) hbw).trans nc.c10
  have y11 : (codeB w #[.int .i64 13, .int .i64 i, .int .i64 nn, .string lb, .string ow, .int .i64 q.kind, .int .i64 q.n, .string q.name, .int .i64 q.stamp, .int .i64 q.lib, .slice qa q.kids.length qc, .slice (some ⟨b, o, none⟩) 1 kc]).cell? ⟨b, o + 11, none⟩ = _ := (HBW.out.cell (p := ⟨b, o + 11, none⟩) hbw).trans nc.c11
  have z0 : (codeB w #[.int .i64 13, .int .i64 i, .int .i64 nn, .string lb, .string ow, .int .i64 q.kind, .int .i64 q.n, .string q.name, .int .i64 q.stamp, .int .i64 q.lib, .slice qa q.kids.length qc, .slice (some ⟨b, o, none⟩) 1 kc]).cell? ⟨w.heap.size, 0, none⟩ = some (.int .i64 13) := (cellOf HIN.out).trans rfl
  have z1 : (codeB w #[.int .i64 13, .int .i64 i, .int .i64 nn, .string lb, .string ow, .int .i64 q.kind, .int .i64 q.n, .string q.name, .int .i64 q.stamp, .int .i64 q.lib, .slice qa q.kids.length qc, .slice (some ⟨b, o, none⟩) 1 kc]).cell? ⟨w.heap.size, 1, none⟩ = some (.int .i64 i) := (cellOf HIN.out).trans rfl
  have z2 : (codeB w #[.int .i64 13, .int .i64 i, .int .i64 nn, .string lb, .string ow, .int .i64 q.kind, .int .i64 q.n, .string q.name, .int .i64 q.stamp, .int .i64 q.lib, .slice qa q.kids.length qc, .slice (some ⟨b, o, none⟩) 1 kc]).cell? ⟨w.heap.size, 2, none⟩ = some (.int .i64 nn) := (cellOf HIN.out).trans rfl
  have z3 : (codeB w #[.int .i64 13, .int .i64 i, .int .i64 nn, .string lb, .string ow, .int .i64 q.kind, .int .i64 q.n, .string q.name, .int .i64 q.stamp, .int .i64 q.lib, .slice qa q.kids.length qc, .slice (some ⟨b, o, none⟩) 1 kc]).cell? ⟨w.heap.size, 3, none⟩ = some (.string lb) := (cellOf HIN.out).trans rfl
  have z4 : (codeB w #[.int .i64 13, .int .i64 i, .int .i64 nn, .string lb, .string ow, .int .i64 q.kind, .int .i64 q.n, .string q.name, .int .i64 q.stamp, .int .i64 q.lib, .slice qa q.kids.length qc, .slice (some ⟨b, o, none⟩) 1 kc]).cell? ⟨w.heap.size, 4, none⟩ = some (.string ow) := (cellOf HIN.out).trans rfl
  have z5 : (codeB w #[.int .i64 13, .int .i64 i, .int .i64 nn, .string lb, .string ow, .int .i64 q.kind, .int .i64 q.n, .string q.name, .int .i64 q.stamp, .int .i64 q.lib, .slice qa q.kids.length qc, .slice (some ⟨b, o, none⟩) 1 kc]).cell? ⟨w.heap.size, 5, none⟩ = some (.int .i64 q.kind) := (cellOf HIN.out).trans rfl
  have z6 : (codeB w #[.int .i64 13, .int .i64 i, .int .i64 nn, .string lb, .string ow, .int .i64 q.kind, .int .i64 q.n, .string q.name, .int .i64 q.stamp, .int .i64 q.lib, .slice qa q.kids.length qc, .slice (some ⟨b, o, none⟩) 1 kc]).cell? ⟨w.heap.size, 6, none⟩ = some (.int .i64 q.n) := (cellOf HIN.out).trans rfl
  have z7 : (codeB w #[.int .i64 13, .int .i64 i, .int .i64 nn, .string lb, .string ow, .int .i64 q.kind, .int .i64 q.n, .string q.name, .int .i64 q.stamp, .int .i64 q.lib, .slice qa q.kids.length qc, .slice (some ⟨b, o, none⟩) 1 kc]).cell? ⟨w.heap.size, 7, none⟩ = some (.string q.name) := (cellOf HIN.out).trans rfl
  have z8 : (codeB w #[.int .i64 13, .int .i64 i, .int .i64 nn, .string lb, .string ow, .int .i64 q.kind, .int .i64 q.n, .string q.name, .int .i64 q.stamp, .int .i64 q.lib, .slice qa q.kids.length qc, .slice (some ⟨b, o, none⟩) 1 kc]).cell? ⟨w.heap.size, 8, none⟩ = some (.int .i64 q.stamp) := (cellOf HIN.out).trans rfl
  have z9 : (codeB w #[.int .i64 13, .int .i64 i, .int .i64 nn, .string lb, .string ow, .int .i64 q.kind, .int .i64 q.n, .string q.name, .int .i64 q.stamp, .int .i64 q.lib, .slice qa q.kids.length qc, .slice (some ⟨b, o, none⟩) 1 kc]).cell? ⟨w.heap.size, 9, none⟩ = some (.int .i64 q.lib) := (cellOf HIN.out).trans rfl
  have z10 : (codeB w #[.int .i64 13, .int .i64 i, .int .i64 nn, .string lb, .string ow, .int .i64 q.kind, .int .i64 q.n, .string q.name, .int .i64 q.stamp, .int .i64 q.lib, .slice qa q.kids.length qc, .slice (some ⟨b, o, none⟩) 1 kc]).cell? ⟨w.heap.size, 10, none⟩ = some (.slice qa q.kids.length qc) := (cellOf HIN.out).trans rfl
  have z11 : (codeB w #[.int .i64 13, .int .i64 i, .int .i64 nn, .string lb, .string ow, .int .i64 q.kind, .int .i64 q.n, .string q.name, .int .i64 q.stamp, .int .i64 q.lib, .slice qa q.kids.length qc, .slice (some ⟨b, o, none⟩) 1 kc]).cell? ⟨w.heap.size, 11, none⟩ = some (.slice (some ⟨b, o, none⟩) 1 kc) := (cellOf HIN.out).trans rfl
  clear hI hall hk nc ok hq2 hk2 hcv hgs hC okx smx stx h
  unfold cva at CALL
  unfold cva
  simp only [List.length_singleton]
  go_enter Try.func20, Try.ntmps20
  go_upto_region 49 with fail
  change Code.wp _ _ _ _ (codeB w #[.int .i64 13, .int .i64 i, .int .i64 nn, .string lb, .string ow, .int .i64 q.kind, .int .i64 q.n, .string q.name, .int .i64 q.stamp, .int .i64 q.lib, .slice qa q.kids.length qc, .slice (some ⟨b, o, none⟩) 1 kc])
  generalize codeB w #[.int .i64 13, .int .i64 i, .int .i64 nn, .string lb, .string ow, .int .i64 q.kind, .int .i64 q.n, .string q.name, .int .i64 q.stamp, .int .i64 q.lib, .slice qa q.kids.length qc, .slice (some ⟨b, o, none⟩) 1 kc] = W0 at HBW HIN CS0 CALL hsb y0 y1 y2 y3 y4 y5 y6 y7 y8 y9 y10 y11 z0 z1 z2 z3 z4 z5 z6 z7 z8 z9 z10 z11 ⊢
  go_wp2_with fail
  refine CALL.out.mono ?_
  intro e w1 ht
  obtain ⟨pv2, av2, ps2, rv, is, rfl, cs1, gr, row, hm1, hm2, fm1⟩ := CS0.out.call (ps1 := []) (by rw [List.append_nil]; exact ht)
  rw [List.nil_append] at cs1 gr
  obtain ⟨ra, rc, rfl, hrc⟩ := row.slice
  have hisl : is.length ≤ 10000000 := by
    have h5 := congrArg List.length hm1
    rw [List.length_map] at h5
    omega
  have C1 := hidd cs1
  have T1 : w1.heap[w.heap.size + 1]? = some (.cells #[.slice none 0 0] 42 (0, 0)) := cs1.ot.box
  have n1 : w1.cell? ⟨w.heap.size + 1, 0, none⟩ = some (.slice none 0 0) := (cellOf T1).trans rfl
  have q1 : w1.frozen? ⟨w.heap.size + 1, 0, none⟩ = false := by simp [World.frozen?, T1]
  have hnog : ¬ OG G pv av w.heap.size := fun e => by have := (HG.out.oglt e).2; omega
  have hnoo : ¬ (X w.heap.size ∨ OO (w.heap.size + 1) (.slice none 0 0) w.heap.size) := by
    rintro (e | e | e)
    · have := HG.out.xlt _ e; omega
    · omega
    · simp [Value.ownBlock] at e
  have IN1 : w1.heap[w.heap.size]? = some (.cells #[.int .i64 13, .int .i64 i, .int .i64 nn, .string lb, .string ow, .int .i64 q.kind, .int .i64 q.n, .string q.name, .int .i64 q.stamp, .int .i64 q.lib, .slice qa q.kids.length qc, .slice (some ⟨b, o, none⟩) 1 kc] 40 (0, 0)) := (fm1.keep _ (Array.getElem?_eq_some_iff.1 HIN.out).1 (by rintro (e | e); exact hnog e; exact hnoo e)).trans HIN.out
  have kT : Keep (w.heap.size + 1) w1 (w1.setCell ⟨w.heap.size + 1, 0, none⟩ (.slice ra is.length rc)) := (Keep.refl _ _).setCell _ rfl _
  have T2 : (w1.setCell ⟨w.heap.size + 1, 0, none⟩ (.slice ra is.length rc)).heap[w.heap.size + 1]? = some (.cells #[.slice ra is.length rc] 42 (0, 0)) := heap_setCell_same w1 _ 0 #[.slice none 0 0] 42 _ T1
  have IN2 : (w1.setCell ⟨w.heap.size + 1, 0, none⟩ (.slice ra is.length rc)).heap[w.heap.size]? = some (.cells #[.int .i64 13, .int .i64 i, .int .i64 nn, .string lb, .string ow, .int .i64 q.kind, .int .i64 q.n, .string q.name, .int .i64 q.stamp, .int .i64 q.lib, .slice qa q.kids.length qc, .slice (some ⟨b, o, none⟩) 1 kc] 40 (0, 0)) := (kT.block _ (Array.getElem?_eq_some_iff.1 IN1).1 (by simp)).trans IN1
  have hne : ∀ b, ¬ (OG G pv2 av2 b ∨ (X b ∨ OO (w.heap.size + 1) (.slice none 0 0) b)) → b ≠ w.heap.size + 1 := fun b hn e => hn (Or.inr (Or.inr (Or.inl e)))
  have R2 : Hid (RowR W0.heap.size (fun b => OG G pv2 av2 b ∨ (X b ∨ OO (w.heap.size + 1) (.slice none 0 0) b)) (.slice ra is.length rc) is (w1.setCell ⟨w.heap.size + 1, 0, none⟩ (.slice ra is.length rc))) := row.other (fun b hb hn => kT.block b hb (by simpa using hne b hn)) kT.size
  have G2 : Hid (GS B (fun b => (X b ∨ OO (w.heap.size + 1) (.slice none 0 0) b) ∨ some b = (Value.slice ra is.length rc).ownBlock) G pv2 av2 (ps ++ ps2) (w1.setCell ⟨w.heap.size + 1, 0, none⟩ (.slice ra is.length rc))) := by
    refine gr.other (fun b hb hh => kT.block b hb ?_) kT.size (fun b hx => Nat.lt_of_lt_of_le (gr.xlt b hx) kT.size) (fun b _ hn e => hn (Or.inr e))
    rcases hh with e | e
    · intro e2
      exact cs1.tg b (Or.inl (by simpa using e2)) e
    · intro e2
      exact e (Or.inr (Or.inl (Or.inr (Or.inl (by simpa using e2)))))
  have HM : Hid (is.map IE.i = gx.1 ∧ ps2.map PE.pro = gx.2) := ⟨hm1, hm2⟩
  have KT := hidd kT
  have HT2 := hidd T2
  have HI2 := hidd IN2
  have RN := hidd row.nb
  have RL : Hid (∀ g, (Value.slice ra is.length rc).ownBlock = some g → W0.heap.size ≤ g) := fun g hg => (row.own.lt g hg).1
  clear gr row fm1 T1 hnog hnoo IN1 kT T2 IN2 hm1 hm2 cs1 ht CALL CS0 HBW HIN hne y0 z0 y1 z1 y2 z2 y3 z3 y4 z4 y5 z5 y6 z6 y7 z7 y8 z8 y9 z9 y10 z10 y11 z11 hjl
  go_upto_region 50 with fail
  clear n1 q1
  generalize w1.setCell ⟨w.heap.size + 1, 0, none⟩ (.slice ra is.length rc) = w2 at R2 G2 KT HT2 HI2 ⊢
  have n2 : w2.cell? ⟨w.heap.size + 1, 0, none⟩ = some (.slice ra is.length rc) := (cellOf HT2.out).trans rfl
  have z0 : w2.cell? ⟨w.heap.size, 0, none⟩ = some (.int .i64 13) := (cellOf HI2.out).trans rfl
  have z1 : w2.cell? ⟨w.heap.size, 1, none⟩ = some (.int .i64 i) := (cellOf HI2.out).trans rfl
  have z3 : w2.cell? ⟨w.heap.size, 3, none⟩ = some (.string lb) := (cellOf HI2.out).trans rfl
  have z4 : w2.cell? ⟨w.heap.size, 4, none⟩ = some (.string ow) := (cellOf HI2.out).trans rfl
  obtain ⟨i1, jinf, jz0, jz1, jz2⟩ := info_parts infoIns
  have hs2 : w.heap.size + 2 ≤ w2.heap.size := by have := (Array.getElem?_eq_some_iff.1 HT2.out).1; omega
  have HO : Hid ((w2.alloc (.cells (IE.mk (insG 13 lb ow) none 0).cells.toArray 46)).ownsRow W0.heap.size 46 11 (.slice ra is.length rc) is.length (flatI is)) := R2.out.own.alloc _
  have hW02 : W0.heap.size ≤ (w2.alloc (.cells (IE.mk (insG 13 lb ow) none 0).cells.toArray 46)).heap.size := by simp; omega
  have HW02 := hidd hW02
  clear hW02
  go_wp2_with (at_builtin; refine wpList_row rfl _ _ 42 rfl W0.heap.size 46 i1 _ 11 128 Try.underlying42 jinf jz0 jz1 jz2 rfl (by decide) (.slice ra is.length rc) is.length (flatI is) rfl HO.out (some ⟨w2.heap.size, 0, none⟩) 1 1 (IE.mk (insG 13 lb ow) none 0).cells rfl rfl (Or.inr ⟨w2.heap.size, 0, rfl, alloc1_cells w2 _ _ _ rfl⟩) (IE.one _) (by unfold maxLen; omega) (by omega) HW02.out ?_)
  intro v4 w4 hown4 hg4 hw4
  obtain ⟨row4, fm4⟩ := R2.out.push ((Below.refl _ _).alloc (Nat.le_refl _) (.cells (IE.mk (insG 13 lb ow) none 0).cells.toArray 46)) (by omega) (fun b e => e.elim (fun e => (G2.out.oglt e).2) (fun e => G2.out.xlt b (Or.inl e))) ⟨insG 13 lb ow, none, 0⟩ (ie_plain _ _ _ HOK.out.1 HOK.out.2.1 rfl) (by rw [hsb]; exact hown4) hg4 (by simpa using hw4)
  have END := hidd (ToldG.push (g := (gx.1 ++ [insG 13 lb ow], gx.2)) HG.out.xlt C1.out.fm (Nat.le_succ _) HG.out.ble KT.out G2.out (by omega) (fun g hg => ⟨RN.out g hg, RL.out g hg⟩) row4 fm4 (by rw [HM.out.1]) HM.out.2)
  clear row4 fm4 hown4 hg4 hw4 HO HW02 R2 G2 KT HT2 HI2 n2 z0 z1 z3 z4
  try simp only [Act.put, List.setIfInBounds_toArray, List.set_cons_succ, List.set_cons_zero]
  go_wp2_with fail
  go_ret
  exact END.out
end Go.Proofs.Ytbbmdhkbndgdkaa
