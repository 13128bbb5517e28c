/- The maker: the first procedure. -/
import Derived.Test.YtfmanhkeclogfaaGreatDoorK20
namespace Go.Proofs.YtfmanhkeclogfaaGreatDoor
set_option linter.unusedVariables false
set_option linter.unusedSimpArgs false
open Go.RowKit

/-- THE MAKER WITHOUT A TAPE. -/
structure MP (B : Nat) (X : Nat → Prop) (M : Nat) (pv : Value) (ps : List PE) (w : World) : Prop where
  mb : w.heap[M]? = some (.cells #[pv] 86 (0, 0))
  bm : B ≤ M
  pr : w.ownsRow B 47 2 pv ps.length (flatP ps)
  s4 : pv.ownBlock ≠ some M
  xlt : ∀ b, X b → b < w.heap.size
  pi : ∀ p ∈ ps, p.Ok (fun b => b < w.heap.size ∧ (b ≠ M ∧ some b ≠ pv.ownBlock) ∧ ¬ X b) w
structure FP (B M : Nat) (pv pv' : Value) (w w' : World) : Prop where
  low : Below B w w'
  keep : ∀ b, b < w.heap.size → (b ≠ M ∧ some b ≠ pv.ownBlock) → w'.heap[b]? = w.heap[b]?
  pev : pv'.ownBlock = pv.ownBlock ∨ ∃ g, pv'.ownBlock = some g ∧ w.heap.size ≤ g
theorem FP.trans {B M : Nat} {pv pv1 pv2 : Value} {w w1 w2 : World} (h : FP B M pv pv1 w w1) (k : FP B M pv1 pv2 w1 w2) : FP B M pv pv2 w w2 := by
  have fr : ∀ b, b < w.heap.size → some b ≠ pv.ownBlock → some b ≠ pv1.ownBlock := by
    intro b hb hn
    rcases h.pev with e | ⟨g, e, hg⟩
    · rw [e]; exact hn
    · rw [e]; intro e2; have := Option.some.inj e2; omega
  refine ⟨h.low.trans k.low, fun b hb hf => (k.keep b (Nat.lt_of_lt_of_le hb h.low.size) ⟨hf.1, fr b hb hf.2⟩).trans (h.keep b hb hf), ?_⟩
  rcases k.pev with e | ⟨g, e, hg⟩
  · rcases h.pev with e2 | ⟨g, e2, hg⟩
    · exact Or.inl (e.trans e2)
    · exact Or.inr ⟨g, e.trans e2, hg⟩
  · exact Or.inr ⟨g, e, Nat.le_trans h.low.size hg⟩
theorem FP.of_below {B M : Nat} {pv : Value} {w w' : World} (hb : Below w.heap.size w w') (hB : B ≤ w.heap.size) : FP B M pv pv w w' :=
  ⟨hb.mono hB, fun b h _ => hb.block b h, Or.inl rfl⟩
section
variable {B M : Nat} {X : Nat → Prop} {pv : Value} {ps : List PE} {w w' : World}
theorem MP.mlt (h : MP B X M pv ps w) : M < w.heap.size := (Array.getElem?_eq_some_iff.1 h.mb).1
theorem MP.ble (h : MP B X M pv ps w) : B ≤ w.heap.size := Nat.le_of_lt (Nat.lt_of_le_of_lt h.bm h.mlt)
theorem MP.below (h : MP B X M pv ps w) (hb : Below w.heap.size w w') : MP B X M pv ps w' :=
  ⟨(hb.block _ h.mlt).trans h.mb, h.bm, own_below h.pr hb, h.s4, fun b hx => Nat.lt_of_lt_of_le (h.xlt b hx) hb.size, fun e he => (h.pi e he).stay (fun k hk => hb.block k hk.1) (fun k hk => ⟨Nat.lt_of_lt_of_le hk.1 hb.size, hk.2⟩)⟩
theorem MP.pslice (h : MP B X M pv ps w) : ∃ a cap, pv = .slice a ps.length cap ∧ ps.length ≤ cap := by
  rcases h.pr.2 with ⟨rfl, h0⟩ | ⟨g, cap, cur, rfl, hbg, hg, hnc, hcm, hcs, htake⟩
  · exact ⟨none, 0, by rw [h0], by rw [h0]; exact Nat.le_refl _⟩
  · exact ⟨some ⟨g, 0, none⟩, cap, rfl, hnc⟩
end
theorem MP.pushP {B M : Nat} {X : Nat → Prop} {pv pv' : Value} {ps : List PE} {w w2 w4 : World} (h : MP B X M pv ps w) (h2 : Below w.heap.size w w2) (e : PE) (he : e.Ok (fun b => b < w.heap.size ∧ (b ≠ M ∧ some b ≠ pv.ownBlock) ∧ ¬ X b) w)
    (hown : w4.ownsRow B 47 2 pv' (ps.length + 1) (flatP ps ++ e.cells)) (hg : w2.grownBy w4 pv.ownBlock) (hw : pv'.ownBlock = pv.ownBlock ∨ pv'.ownBlock = some w2.heap.size) :
    MP B X M pv' (ps ++ [e]) (w4.setCell ⟨M, 0, none⟩ pv') ∧ FP B M pv pv' w (w4.setCell ⟨M, 0, none⟩ pv') := by
  have m2 := h.below h2
  have hs2 := h2.size
  have hs4 := hg.size
  have hke : Keep M w4 (w4.setCell ⟨M, 0, none⟩ pv') := (Keep.refl _ _).setCell _ rfl _
  have hs5 := hke.size
  have tev : pv'.ownBlock = pv.ownBlock ∨ ∃ g, pv'.ownBlock = some g ∧ w.heap.size ≤ g := by
    rcases hw with e | e
    · exact Or.inl e
    · exact Or.inr ⟨_, e, hs2⟩
  have keep : ∀ b, b < w2.heap.size → (b ≠ M ∧ some b ≠ pv.ownBlock) → (w4.setCell ⟨M, 0, none⟩ pv').heap[b]? = w2.heap[b]? := fun b hb hf => (hke.block b (by omega) (by simpa using hf.1)).trans (hg.block b hb hf.2)
  have ne : ∀ k, k < w2.heap.size → pv.ownBlock ≠ some k → pv'.ownBlock ≠ some k := by
    intro k hk hn
    rcases hw with e | e
    · rw [e]; exact hn
    · rw [e]; intro e2; have := Option.some.inj e2; omega
  have mlt := m2.mlt
  refine ⟨⟨?_, h.bm, ?_, ne M mlt h.s4, fun b hx => by have := m2.xlt b hx; omega, ?_⟩, (h2.mono h.ble).trans (((Below.refl B w2).grown hg m2.ble (fun k hk => (m2.pr.lt k hk).1)).trans (hke.toBelow h.bm (by have := m2.ble; omega))), fun b hb hf => (keep b (by omega) hf).trans (h2.block b hb), tev⟩
  · have h5 : w4.heap[M]? = some (.cells #[pv] 86 (0, 0)) := (hg.block M mlt (fun e => h.s4 e.symm)).trans m2.mb
    exact heap_setCell_same w4 M 0 #[pv] 86 pv' h5
  · rw [flatP_append, List.length_append]
    have : flatP [e] = e.cells := by simp [flatP]
    rw [this]
    exact hown.kept hke (Or.inr (by have := ne M mlt h.s4; simpa using this))
  · intro f hf
    have h1 : f.Ok (fun b => b < w2.heap.size ∧ (b ≠ M ∧ some b ≠ pv.ownBlock) ∧ ¬ X b) w2 := by
      rcases List.mem_append.1 hf with hf | hf
      · exact m2.pi f hf
      · simp at hf
        subst hf
        exact he.stay (fun k hk => h2.block k hk.1) (fun k hk => ⟨Nat.lt_of_lt_of_le hk.1 h2.size, hk.2⟩)
    exact h1.stay (fun k hk => keep k hk.1 hk.2.1) (fun k hk => ⟨by have := hk.1; omega, ⟨hk.2.1.1, fun e => ne k hk.1 (fun e2 => hk.2.1.2 e2.symm) e.symm⟩, hk.2.2⟩)
theorem MP.inner {B M : Nat} {X : Nat → Prop} {pv : Value} {ps : List PE} {w : World} (h : MP B X M pv ps w) :
    MK B X w.heap.size M (.slice none 0 0) pv [] ps (w.alloc (.cells #[.slice none 0 0] 165)) := by
  have hb : Below w.heap.size w (w.alloc (.cells #[.slice none 0 0] 165)) := (Below.refl _ _).alloc (Nat.le_refl _) _
  have m := h.below hb
  have hml := h.mlt
  refine ⟨World.alloc_heap_new w _, m.mb, by omega, h.ble, h.bm, World.ownsRow_nil _ _ _ _, m.pr, by simp [Value.ownBlock], by simp [Value.ownBlock], ?_, h.s4, by simp [Value.ownBlock], m.xlt, by simp [Value.ownBlock], by simp, ?_⟩
  · intro e
    have := (h.pr.lt _ e).2
    omega
  · intro p hp
    exact (h.pi p hp).stay (fun k hk => hb.block k hk.1) (fun k hk => ⟨Nat.lt_of_lt_of_le hk.1 hb.size, ⟨by have := hk.1; omega, hk.2.1.1, by simp [Value.ownBlock], hk.2.1.2⟩, hk.2.2⟩)
theorem MP.outer {B M T2 : Nat} {X : Nat → Prop} {pv tv2 pv2 : Value} {is2 : List IE} {ps ps2 : List PE} {w w1 w' : World} {tv1 : Value} (h : MP B X M pv ps w) (hb : Below w.heap.size w w1) (hT2 : w.heap.size ≤ T2) (h1 : tv1.ownBlock = none)
    (hf : FR B T2 M tv1 pv tv2 pv2 w1 w') (h2 : MK B X T2 M tv2 pv2 is2 ps2 w') : MP B X M pv2 ps2 w' ∧ FP B M pv pv2 w w' := by
  have hs := hb.size
  have pev : pv2.ownBlock = pv.ownBlock ∨ ∃ g, pv2.ownBlock = some g ∧ w.heap.size ≤ g := by
    rcases hf.pev with e | ⟨g, e, hg⟩
    · exact Or.inl e
    · exact Or.inr ⟨g, e, by omega⟩
  refine ⟨⟨h2.mb, h.bm, h2.pr, h2.s4, h2.xlt, fun p hp => (h2.pi p hp).stay (fun _ _ => rfl) (fun k hk => ⟨hk.1, ⟨hk.2.1.2.1, hk.2.1.2.2.2⟩, hk.2.2⟩)⟩, (hb.mono h.ble).trans hf.low, fun b hbl hfr => (hf.keep b (by omega) ⟨by omega, hfr.1, by rw [h1]; simp, hfr.2⟩).trans (hb.block b hbl), pev⟩
theorem MP.code {B M : Nat} {X : Nat → Prop} {g cap : Nat} {ps : List PE} {w : World} (h : MP B X M (.slice (some ⟨g, 0, none⟩) ps.length cap) ps w) (n : Nat) (p : PE) (hp : ps[n]? = some p) (es : List IE) (a : Option Addr) (c : Nat)
    (hd : (PE.mk p.args es a c).Ok (fun b => b < w.heap.size ∧ (b ≠ M ∧ some b ≠ (Value.slice (some ⟨g, 0, none⟩) ps.length cap).ownBlock) ∧ ¬ X b) w) :
    MP B X M (.slice (some ⟨g, 0, none⟩) ps.length cap) (ps.set n ⟨p.args, es, a, c⟩) (w.setCell ⟨g, n * 2 + 1, none⟩ (.slice a es.length c)) ∧ FP B M (.slice (some ⟨g, 0, none⟩) ps.length cap) (.slice (some ⟨g, 0, none⟩) ps.length cap) w (w.setCell ⟨g, n * 2 + 1, none⟩ (.slice a es.length c)) := by
  have hke : Keep g w (w.setCell ⟨g, n * 2 + 1, none⟩ (.slice a es.length c)) := (Keep.refl _ _).setCell _ rfl _
  have hg := h.pr.lt g rfl
  have hgM : g ≠ M := fun e => h.s4 (by rw [← e]; rfl)
  have keep : ∀ b, b < w.heap.size → (b ≠ M ∧ some b ≠ (Value.slice (some ⟨g, 0, none⟩) ps.length cap).ownBlock) → (w.setCell ⟨g, n * 2 + 1, none⟩ (.slice a es.length c)).heap[b]? = w.heap[b]? := fun b hb hf => hke.block b hb hf.2
  refine ⟨⟨(hke.block M h.mlt (by simpa using fun e => hgM e.symm)).trans h.mb, h.bm, ?_, h.s4, fun b hx => Nat.lt_of_lt_of_le (h.xlt b hx) hke.size, ?_⟩, hke.toBelow hg.1 h.ble, keep, Or.inl rfl⟩
  · rw [List.length_set, ← flatP_setC es a c ps n p hp]
    exact (h.pr.stored (n * 2 + 1) (.slice a es.length c)).1
  · intro f hf
    have h1 : f.Ok (fun b => b < w.heap.size ∧ (b ≠ M ∧ some b ≠ (Value.slice (some ⟨g, 0, none⟩) ps.length cap).ownBlock) ∧ ¬ X b) w := by
      rcases List.mem_or_eq_of_mem_set hf with hf | rfl
      · exact h.pi f hf
      · exact hd
    exact h1.stay (fun k hk => keep k hk.1 hk.2.1) (fun k hk => ⟨Nat.lt_of_lt_of_le hk.1 hke.size, hk.2⟩)
theorem MK.doneP {B M T2 : Nat} {X : Nat → Prop} {tv2 pv2 : Value} {is : List IE} {ps : List PE} {w : World} (h : MK B X T2 M tv2 pv2 is ps w) (h0 : is ≠ []) {a : Option Addr} {c : Nat} (hv : tv2 = .slice a is.length c) (ar : Int) :
    (PE.mk ar is a c).Ok (fun b => b < w.heap.size ∧ (b ≠ M ∧ some b ≠ pv2.ownBlock) ∧ ¬ X b) w := by
  rcases h.tr.2 with ⟨_, h1⟩ | ⟨g, cap, cur, e, hbg, hg, hnc, _⟩
  · exact absurd (List.length_eq_zero_iff.1 h1) h0
  · rw [hv] at e
    simp at e
    obtain ⟨rfl, rfl⟩ := e
    subst hv
    refine ⟨hnc, Or.inr ⟨g, rfl, ⟨(h.tr.lt g rfl).2, ⟨fun e => h.s2 (by rw [← e]; rfl), fun e => h.s5 g rfl e.symm⟩, h.xt g rfl⟩, ?_⟩, ?_⟩
    · intro j u hu
      have hj : j < is.length * 11 := by
        have := (List.getElem?_eq_some_iff.1 hu).1
        rwa [flatI_len] at this
      rw [h.tr.cellAt j hj]
      exact hu
    · intro f hf
      exact (h.ti f hf).stay (fun _ _ => rfl) (fun k hk => ⟨hk.1, ⟨hk.2.1.2.1, hk.2.1.2.2.2⟩, hk.2.2⟩)

set_option maxRecDepth 100000 in
set_option maxHeartbeats 1600000 in
theorem proto27_any (B : Nat) (X : Nat → Prop) (M : Nat) (pv : Value) (ps : List PE) (w : World) (ar : Int) (x0 x1 : Addr) (g : List In × List Pro) (h : MP B X M pv ps w) (hlp : ps.length + g.2.length ≤ 1000000000) (hli : g.1.length ≤ 1000000000)
    (hcl : ∀ W T2 pv2, MK B X T2 M (.slice none 0 0) pv2 [] (ps ++ [⟨ar, [], none, 0⟩]) W → (∀ b, b < w.heap.size → (b ≠ M ∧ some b ≠ pv.ownBlock) → W.heap[b]? = w.heap[b]?) → Below B w W → Calls Tryz.prog 71 #[.pointer (some ⟨T2, 0, none⟩), .pointer (some x0), .pointer (some x1)] W (ToldM B X T2 M (.slice none 0 0) pv2 [] (ps ++ [⟨ar, [], none, 0⟩]) g W)) :
    Calls Tryz.prog 70 #[.pointer (some ⟨M, 0, none⟩), .int .i64 ar, .func (.func 71) #[] #[.pointer (some x0), .pointer (some x1)]] w fun r w' => r = .returned (.int .i64 ps.length) ∧ ∃ pv' ps', ps'.map PE.pro = ⟨ar, g.1 ++ [insO 15]⟩ :: g.2 ∧ MP B X M pv' (ps ++ ps') w' ∧ FP B M pv pv' w w' := by
  have MK0 := hidd h
  have CL := hidd hcl
  have hM := h.mlt
  have mb : w.cell? ⟨M, 0, none⟩ = some pv := by simp [World.cell?, h.mb]
  have mz : w.frozen? ⟨M, 0, none⟩ = false := by simp [World.frozen?, h.mb]
  obtain ⟨pa, pc, hpv, hpc⟩ := h.pslice
  have ba : Below w.heap.size w (w.alloc (.cells #[.int .i64 ar, .slice none 0 0] 47)) := (Below.refl _ _).alloc (Nat.le_refl _) _
  have M1 := hidd (h.below ba)
  have BA := hidd ba
  clear h hcl ba
  subst hpv
  obtain ⟨i0, hinf, hz0, hz1, hz2⟩ := info_parts infoPro
  go_enter Tryz.func70, Tryz.ntmps70
  go_wp2_with (at_builtin; refine wpList_append_where rfl _ _ 22 rfl B 47 i0 _ 2 32 Tryz.underlying22 hinf hz0 hz1 hz2 rfl (by decide) (.slice pa ps.length pc) ps.length (flatP ps) rfl (by exact M1.out.pr) ⟨w.heap.size, 0, none⟩ 1 1 (PE.mk ar [] none 0).cells rfl rfl ?c1 ?c2 (by decide) ?c3 ?c4 ?c5 ?_)
  case c1 =>
    intro q u hq
    have hcell := World.cell?_alloc_mark w #[.int .i64 ar, .slice none 0 0] 47 (0, 0) q
    have hadd := addr_add w.heap.size q
    rw [hadd, hcell]
    simpa [PE.cells] using hq
  case c2 =>
    intro u hu
    simp [PE.cells] at hu
    rcases hu with rfl | rfl <;> rfl
  case c3 => unfold maxLen; omega
  case c4 => omega
  case c5 => exact M1.out.ble
  intro pv1 w4 hown4 hg4 hw4
  obtain ⟨hmk, hfr⟩ := MK0.out.pushP BA.out (PE.mk ar [] none 0) ⟨Nat.le_refl _, Or.inl rfl, by simp⟩ hown4 hg4 (by simpa using hw4)
  obtain ⟨pa1, pc1, hpv1, _⟩ := hmk.pslice
  rw [List.length_append, List.length_singleton] at hpv1
  subst hpv1
  have b4 : w4.heap[M]? = some (.cells #[.slice pa ps.length pc] 86 (0, 0)) := (hg4.block M M1.out.mlt (fun e => MK0.out.s4 e.symm)).trans M1.out.mb
  have n4 : w4.cell? ⟨M, 0, none⟩ = some (.slice pa ps.length pc) := by simp [World.cell?, b4]
  have z4 : w4.frozen? ⟨M, 0, none⟩ = false := by simp [World.frozen?, b4]
  have HM := hidd hmk
  have HF := hidd hfr
  clear hmk hfr hown4 hg4 hw4 b4 mb mz M1 BA
  go_upto_region 4 with fail
  have hsz : w4.heap.size = (w4.setCell ⟨M, 0, none⟩ (.slice pa1 (ps.length + 1) pc1)).heap.size := by simp [World.setCell]
  rw [hsz]
  clear hsz
  generalize w4.setCell ⟨M, 0, none⟩ (.slice pa1 (ps.length + 1) pc1) = w1 at HM HF ⊢
  have MI := hidd HM.out.inner
  have hbi : Below w1.heap.size w1 (w1.alloc (.cells #[.slice none 0 0] 165)) := (Below.refl _ _).alloc (Nat.le_refl _) _
  have HBI := hidd hbi
  have hle1 := HF.out.low.size
  have CALL := hidd (CL.out _ _ _ MI.out (fun b hb hf => (hbi.block b (Nat.lt_of_lt_of_le hb hle1)).trans (HF.out.keep b hb hf)) (HF.out.low.trans (hbi.mono HM.out.ble)))
  clear hbi n4 z4 CL MI
  generalize hW1 : w1.alloc (.cells #[.slice none 0 0] 165) = W1 at CALL HBI ⊢
  clear hW1
  obtain ⟨T2, hT2⟩ : ∃ T2, T2 = w1.heap.size := ⟨_, rfl⟩
  rw [← hT2] at CALL ⊢
  have HT2 := hidd hT2
  clear hT2
  go_wp2_with fail
  refine CALL.out.mono ?_
  rintro e w2 ⟨rfl, tv2, pv2, is2, ps2, hi2, hp2, mk2, fr2⟩
  have hlen2 : is2.length ≤ 1000000000 := by rw [← List.length_map (f := IE.i), hi2]; exact hli
  have hlp2 : ps2.length = g.2.length := by rw [← List.length_map (f := PE.pro), hp2]
  have MK2 := hidd mk2
  have FR2 := hidd fr2
  have EQS : Hid (is2.map IE.i = g.1 ∧ ps2.map PE.pro = g.2) := ⟨hi2, hp2⟩
  clear mk2 fr2 hi2 hp2 CALL
  rw [List.nil_append] at MK2
  have PUT : Hid (Calls Tryz.prog 73 #[.pointer (some ⟨T2, 0, none⟩), .agg #[.int .i64 15, .int .i64 0, .int .i64 0, .string ⟨#[]⟩, .string ⟨#[]⟩, .int .i64 0, .int .i64 0, .string ⟨#[]⟩, .int .i64 0, .int .i64 0, .slice none 0 0]] w2 fun e w' => e = .returned (.int .i64 is2.length) ∧ ∃ tv', MK B X T2 M tv' pv2 (is2 ++ [IE.mk (insO 15) none 0]) (ps ++ [PE.mk ar [] none 0] ++ ps2) w' ∧ FR B T2 M tv2 pv2 tv' pv2 w2 w') := put_any B _ T2 M tv2 pv2 is2 _ w2 (insO 15) none 0 MK2.out ⟨Nat.zero_le _, Nat.zero_le _, Nat.zero_le _, Nat.le_refl _, 0, rfl⟩ hlen2
  go_wp2_with fail
  refine PUT.out.mono ?_
  rintro e w5 ⟨rfl, tv3, mk3, fr3⟩
  obtain ⟨hmo, hfo⟩ := HM.out.outer HBI.out (Nat.le_of_eq HT2.out.symm) rfl (FR2.out.trans fr3) mk3
  have HD : Hid (Below w5.heap.size w5 w5.drew) := Below.drew (Below.refl _ _)
  have hmd := hmo.below HD.out
  have hm3 := mk3.below HD.out
  obtain ⟨a3, c3, htv3, _⟩ := mk3.tslice
  have hdn := hm3.doneP (by simp) htv3 ar
  obtain ⟨g2, cap2, hpv2⟩ : ∃ g2 cap2, pv2 = .slice (some ⟨g2, 0, none⟩) (ps ++ [PE.mk ar [] none 0] ++ ps2).length cap2 := by
    rcases hmo.pr.2 with ⟨_, h0⟩ | ⟨g2, cap2, cur, e, _⟩
    · simp at h0
    · exact ⟨g2, cap2, e⟩
  subst hpv2
  have hco := hmd.code ps.length (PE.mk ar [] none 0) (by simp) _ a3 c3 hdn
  have hset : (ps ++ [PE.mk ar [] none 0] ++ ps2).set ps.length (PE.mk ar (is2 ++ [IE.mk (insO 15) none 0]) a3 c3) = ps ++ (PE.mk ar (is2 ++ [IE.mk (insO 15) none 0]) a3 c3 :: ps2) := by
    rw [List.append_assoc, List.set_append_right _ _ (Nat.le_refl _), Nat.sub_self]
    rfl
  have hMg : M ≠ g2 := fun e => hmo.s4 (by rw [e]; rfl)
  have hTg : T2 ≠ g2 := fun e => mk3.s3 (by rw [e]; rfl)
  have BX : Hid (w5.drew.heap[M]? = some (.cells #[.slice (some ⟨g2, 0, none⟩) (ps ++ [PE.mk ar [] none 0] ++ ps2).length cap2] 86 (0, 0)) ∧ w5.drew.heap[T2]? = some (.cells #[tv3] 165 (0, 0))) := ⟨hmd.mb, hm3.tb⟩
  have g2c : ∃ u, w5.drew.cell? ⟨g2, ps.length * 2 + 1, none⟩ = some u := ⟨_, (hmd.pr.cellAt (ps.length * 2 + 1) (by rw [List.length_append, List.length_append, List.length_singleton]; omega)).trans (List.getElem?_eq_getElem (by rw [flatP_len, List.length_append, List.length_append, List.length_singleton]; omega))⟩
  have g2z := hmd.pr.frozenAt (ps.length * 2 + 1)
  have hpn : ps.length < (ps ++ [PE.mk ar [] none 0] ++ ps2).length := by rw [List.length_append, List.length_append, List.length_singleton]; omega
  have hpm : (ps ++ [PE.mk ar [] none 0] ++ ps2).length ≤ 9000000000 := by rw [List.length_append, List.length_append, List.length_singleton]; omega
  have CO : Hid (∃ pv' ps', ps'.map PE.pro = Pro.mk ar (g.1 ++ [insO 15]) :: g.2 ∧ MP B X M pv' (ps ++ ps') (w5.drew.setCell ⟨g2, ps.length * 2 + 1, none⟩ (.slice a3 (is2 ++ [IE.mk (insO 15) none 0]).length c3)) ∧ FP B M (.slice pa ps.length pc) pv' w (w5.drew.setCell ⟨g2, ps.length * 2 + 1, none⟩ (.slice a3 (is2 ++ [IE.mk (insO 15) none 0]).length c3))) := by
    refine ⟨_, PE.mk ar (is2 ++ [IE.mk (insO 15) none 0]) a3 c3 :: ps2, ?_, ?_, HF.out.trans (hfo.trans ((FP.of_below HD.out hmo.ble).trans hco.2))⟩
    · rw [List.map_cons, EQS.out.2]
      unfold PE.pro
      simp only [List.map_append, EQS.out.1]
      rfl
    · have := hco.1
      rw [hset] at this
      exact this
  generalize (ps ++ [PE.mk ar [] none 0] ++ ps2).length = psn at BX hpn hpm
  subst htv3
  generalize (is2 ++ [IE.mk (insO 15) none 0]).length = isn at BX CO
  obtain ⟨u0, g2c⟩ := g2c
  clear hmo hfo hmd hm3 hdn hco hset mk3 fr3 PUT MK2 FR2 EQS HM HF HBI MK0 HD
  go_upto_region 6 with fail
  refine wp_region_held_drew (S := fun u => u.heap[M]? = some (.cells #[.slice (some ⟨g2, 0, none⟩) psn cap2] 86 (0, 0)) ∧ u.heap[T2]? = some (.cells #[.slice a3 isn c3] 165 (0, 0))) (by kernel_rfl) BX.out (fun hS => ?_)
  refine wpAnyH_take (i := 0) (oi := { dst := some 29, op := Op.move (Operand.tmp 0), type := 125, pos := _, after := _, guard := none }) (v := .pointer (some ⟨M, 0, none⟩)) rfl (by kernel_rfl) (by kernel_rfl) (by kernel_rfl) (fun _ _ _ h => h) (Or.inl ⟨by rfl, fun u hu => by go_simp⟩) hS ?_
  simp only [Act.put, List.setIfInBounds_toArray, List.set_cons_zero, List.set_cons_succ]
  refine wpAnyH_take (i := 1) (oi := { dst := some 30, op := Op.nilCheck (Operand.tmp 29), type := 0, pos := _, after := _, guard := none }) (v := .pointer (some ⟨M, 0, none⟩)) rfl (by kernel_rfl) (by kernel_rfl) (by kernel_rfl) (fun _ _ _ h => h) (Or.inl ⟨by rfl, fun u hu => by go_simp⟩) hS ?_
  simp only [Act.put, List.setIfInBounds_toArray, List.set_cons_zero, List.set_cons_succ]
  refine wpAnyH_take (i := 2) (oi := { dst := some 31, op := Op.fieldAddr 86 (Operand.tmp 30) 0, type := 0, pos := _, after := _, guard := none }) (v := .pointer (some ⟨M, 0, none⟩)) rfl (by kernel_rfl) (by kernel_rfl) (by kernel_rfl) (fun _ _ _ h => h) (Or.inl ⟨by rfl, fun u hu => by go_simp⟩) hS ?_
  simp only [Act.put, List.setIfInBounds_toArray, List.set_cons_zero, List.set_cons_succ]
  refine wpAnyH_take (i := 3) (oi := { dst := some 32, op := Op.load 22 (Operand.tmp 31), type := 22, pos := _, after := _, guard := none }) (v := .slice (some ⟨g2, 0, none⟩) psn cap2) rfl (by kernel_rfl) (by kernel_rfl) (by kernel_rfl) (fun _ _ _ h => h) (Or.inl ⟨by rfl, fun u hu => by (have z : u.cell? ⟨M, 0, none⟩ = some (.slice (some ⟨g2, 0, none⟩) psn cap2) := (by simp [World.cell?, show u.heap[M]? = _ from hu.1]); go_simp)⟩) hS ?_
  simp only [Act.put, List.setIfInBounds_toArray, List.set_cons_zero, List.set_cons_succ]
  refine wpAnyH_take (i := 4) (oi := { dst := some 33, op := Op.move (Operand.tmp 7), type := 3, pos := _, after := _, guard := none }) (v := .int .i64 ps.length) rfl (by kernel_rfl) (by kernel_rfl) (by kernel_rfl) (fun _ _ _ h => h) (Or.inl ⟨by rfl, fun u hu => by go_simp⟩) hS ?_
  simp only [Act.put, List.setIfInBounds_toArray, List.set_cons_zero, List.set_cons_succ]
  refine wpAnyH_take (i := 5) (oi := { dst := some 34, op := Op.load 165 (Operand.tmp 8), type := 165, pos := _, after := _, guard := none }) (v := .slice a3 isn c3) rfl (by kernel_rfl) (by kernel_rfl) (by kernel_rfl) (fun _ _ _ h => h) (Or.inl ⟨by rfl, fun u hu => by (have z : u.cell? ⟨T2, 0, none⟩ = some (.slice a3 isn c3) := (by simp [World.cell?, show u.heap[T2]? = _ from hu.2]); go_simp)⟩) hS ?_
  simp only [Act.put, List.setIfInBounds_toArray, List.set_cons_zero, List.set_cons_succ]
  refine wpAnyH_take (i := 6) (oi := { dst := some 35, op := Op.indexAddr 22 (Operand.tmp 32) (Operand.tmp 33), type := 0, pos := _, after := _, guard := none }) (v := .pointer (some ⟨g2, ps.length * 2, none⟩)) rfl (by kernel_rfl) (by kernel_rfl) (by kernel_rfl) (fun _ _ _ h => h) (Or.inl ⟨by rfl, fun u hu => by go_simp⟩) hS ?_
  simp only [Act.put, List.setIfInBounds_toArray, List.set_cons_zero, List.set_cons_succ]
  refine wpAnyH_take (i := 7) (oi := { dst := some 36, op := Op.fieldAddr 47 (Operand.tmp 35) 1, type := 0, pos := _, after := _, guard := none }) (v := .pointer (some ⟨g2, ps.length * 2 + 1, none⟩)) rfl (by kernel_rfl) (by kernel_rfl) (by kernel_rfl) (fun _ _ _ h => h) (Or.inl ⟨by rfl, fun u hu => by go_simp⟩) hS ?_
  simp only [Act.put, List.setIfInBounds_toArray, List.set_cons_zero, List.set_cons_succ]
  refine wpAnyH_ready (rs := [8]) (by kernel_rfl) (by simp) (AllReadyH.cons (o := { dst := none, op := Op.store 45 (Operand.tmp 36) (Operand.tmp 34), type := 0, pos := _, after := _, guard := none }) rfl (fun K hK => ?_) AllReadyH.nil)
  go_simp
  change K _ (w5.drew.setCell ⟨g2, ps.length * 2 + 1, none⟩ (.slice a3 isn c3))
  have hS6 : (w5.drew.setCell ⟨g2, ps.length * 2 + 1, none⟩ (.slice a3 isn c3)).heap[M]? = some (.cells #[.slice (some ⟨g2, 0, none⟩) psn cap2] 86 (0, 0)) ∧ (w5.drew.setCell ⟨g2, ps.length * 2 + 1, none⟩ (.slice a3 isn c3)).heap[T2]? = some (.cells #[.slice a3 isn c3] 165 (0, 0)) := ⟨(Below.heap_setCell _ _ _ _ (by show M ≠ g2; exact hMg)).trans hS.1, (Below.heap_setCell _ _ _ _ (by show T2 ≠ g2; exact hTg)).trans hS.2⟩
  generalize w5.drew.setCell ⟨g2, ps.length * 2 + 1, none⟩ (.slice a3 isn c3) = w6 at CO hS6 ⊢
  refine hK.out _ _ hS6 (fun hS => ?_)
  clear hK K
  refine wpAnyH_done (by kernel_rfl) ?_ _
  go_wp2_with fail
  go_ret
  exact ⟨rfl, CO.out⟩

end Go.Proofs.YtfmanhkeclogfaaGreatDoor
