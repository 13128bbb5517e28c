/- The maker: procedures begun and ended. -/
import Derived.Test.YtbbmdhkbndgdkaaCq
namespace Go.Proofs.Ytbbmdhkbndgdkaa
set_option linter.unusedVariables false
set_option linter.unusedSimpArgs false
open Go.RowKit

/-- A PROCEDURE IS APPENDED, and the maker's box filled anew. -/
theorem MK.pushP {B T M : Nat} {X : Nat → Prop} {tv pv pv' : Value} {is : List IE} {ps : List PE} {w w2 w4 : World} (h : MK B X T M tv pv is ps w) (h2 : Below w.heap.size w w2) (e : PE) (he : e.Ok (fun b => b < w.heap.size ∧ Fr T M tv pv b ∧ ¬ X b) w)
    (hown : w4.ownsRow B 44 2 pv' (ps.length + 1) (flatP ps ++ e.cells)) (hg : w2.grownBy w4 pv.ownBlock) (hw : pv'.ownBlock = pv.ownBlock ∨ pv'.ownBlock = some w2.heap.size) :
    MK B X T M tv pv' is (ps ++ [e]) (w4.setCell ⟨M, 0, none⟩ pv') ∧ FR B T M tv pv tv pv' w (w4.setCell ⟨M, 0, none⟩ pv') := by
  have m2 := h.below h2
  have hs2 := h2.size
  have hs4 := hg.size
  have hke : Keep M w4 (w4.setCell ⟨M, 0, none⟩ pv') := (Keep.refl _ _).setCell _ rfl _
  have hs5 := hke.size
  have tev : pv'.ownBlock = pv.ownBlock ∨ ∃ g, pv'.ownBlock = some g ∧ w.heap.size ≤ g := by
    rcases hw with e | e
    · exact Or.inl e
    · exact Or.inr ⟨_, e, hs2⟩
  have keep : ∀ b, b < w2.heap.size → Fr T M tv pv b → (w4.setCell ⟨M, 0, none⟩ pv').heap[b]? = w2.heap[b]? := fun b hb hf => (hke.block b (by omega) (by simpa using hf.2.1)).trans (hg.block b hb hf.2.2.2)
  have fr : FR B T M tv pv tv pv' w (w4.setCell ⟨M, 0, none⟩ pv') := by
    refine ⟨(h2.mono h.ble).trans (((Below.refl B w2).grown hg m2.ble (fun k hk => (m2.pr.lt k hk).1)).trans (hke.toBelow h.bm (by have := m2.ble; omega))), fun b hb hf => (keep b (by omega) hf).trans (h2.block b hb), Or.inl rfl, tev⟩
  have hfr2 : ∀ b, b < w2.heap.size → Fr T M tv pv b → Fr T M tv pv' b := by
    intro b hb hf
    refine ⟨hf.1, hf.2.1, hf.2.2.1, ?_⟩
    rcases hw with e | e
    · rw [e]; exact hf.2.2.2
    · rw [e]; intro e2; have := Option.some.inj e2; omega
  have ne : ∀ k, k < w2.heap.size → pv.ownBlock ≠ some k → pv'.ownBlock ≠ some k := by
    intro k hk hn
    rcases hw with e | e
    · rw [e]; exact hn
    · rw [e]; intro e2; have := Option.some.inj e2; omega
  have tlt := m2.tlt
  have mlt := m2.mlt
  refine ⟨⟨?_, ?_, h.tm, h.bt, h.bm, ?_, ?_, h.s1, h.s2, ne T tlt h.s3, ne M mlt h.s4, ?_, fun b hx => by have := m2.xlt b hx; omega, h.xt, ?_, ?_⟩, fr⟩
  · exact (hke.block T (by omega) (by simpa using h.tm)).trans ((hg.block T tlt (fun e => h.s3 e.symm)).trans m2.tb)
  · have h5 : w4.heap[M]? = some (.cells #[pv] 55 (0, 0)) := (hg.block M mlt (fun e => h.s4 e.symm)).trans m2.mb
    exact heap_setCell_same w4 M 0 #[pv] 55 pv' h5
  · refine (m2.tr.kept hg ?_).kept hke (Or.inr (by simpa using h.s2))
    cases hv : tv.ownBlock with
    | none => exact Or.inl rfl
    | some g => exact Or.inr (fun e => h.s5 g hv e.symm)
  · rw [flatP_append, List.length_append]
    have : flatP [e] = e.cells := by simp [flatP]
    rw [this]
    exact hown.kept hke (Or.inr (by have := ne M mlt h.s4; simpa using this))
  · intro g hg2
    exact ne g (by have := (m2.tr.lt g hg2).2; omega) (h.s5 g hg2)
  · intro f hf
    exact (m2.ti f hf).stay (fun k hk => keep k hk.1 hk.2.1) (fun k hk => ⟨by have := hk.1; omega, hfr2 k hk.1 hk.2.1, hk.2.2⟩)
  · intro f hf
    have h1 : f.Ok (fun b => b < w2.heap.size ∧ Fr T M tv pv b ∧ ¬ X b) w2 := by
      rcases List.mem_append.1 hf with hf | hf
      · exact m2.pi f hf
      · simp at hf
        subst hf
        exact he.stay (fun k hk => h2.block k hk.1) (fun k hk => ⟨Nat.lt_of_lt_of_le hk.1 h2.size, hk.2⟩)
    exact h1.stay (fun k hk => keep k hk.1 hk.2.1) (fun k hk => ⟨by have := hk.1; omega, hfr2 k hk.1 hk.2.1, hk.2.2⟩)

/-- A NEW TAPE beside the old one. -/
theorem MK.inner {B T M : Nat} {X : Nat → Prop} {tv pv : Value} {is : List IE} {ps : List PE} {w : World} (h : MK B X T M tv pv is ps w) :
    MK B (fun b => X b ∨ b = T ∨ some b = tv.ownBlock) w.heap.size M (.slice none 0 0) pv [] ps (w.alloc (.cells #[.slice none 0 0] 85)) := by
  have hb : Below w.heap.size w (w.alloc (.cells #[.slice none 0 0] 85)) := (Below.refl _ _).alloc (Nat.le_refl _) _
  have m := h.below hb
  have hml := h.mlt
  refine ⟨World.alloc_heap_new w _, m.mb, by omega, h.ble, h.bm, World.ownsRow_nil _ _ _ _, m.pr, by simp [Value.ownBlock], by simp [Value.ownBlock], ?_, h.s4, by simp [Value.ownBlock], ?_, by simp [Value.ownBlock], by simp, ?_⟩
  · intro e
    have := (h.pr.lt _ e).2
    omega
  · intro b hx
    have hs := hb.size
    rcases hx with hx | rfl | hx
    · have := h.xlt b hx; omega
    · have := h.tlt; omega
    · have := (h.tr.lt b hx.symm).2; omega
  · intro p hp
    exact (h.pi p hp).stay (fun k hk => hb.block k hk.1) (fun k hk => ⟨Nat.lt_of_lt_of_le hk.1 hb.size, ⟨by have := hk.1; omega, hk.2.1.2.1, by simp [Value.ownBlock], hk.2.1.2.2.2⟩, fun hx => hx.elim hk.2.2 (fun hx => hx.elim hk.2.1.1 hk.2.1.2.2.1)⟩)
/-- BACK TO THE OLD TAPE: what is done with a new one leaves it. -/
theorem MK.outer {B T M T2 : Nat} {X : Nat → Prop} {tv pv tv2 pv2 : Value} {is is2 : List IE} {ps ps2 : List PE} {w w1 w' : World} {tv1 : Value} (h : MK B X T M tv pv is ps w) (hb : Below w.heap.size w w1) (hT2 : w.heap.size ≤ T2) (h1 : tv1.ownBlock = none)
    (hf : FR B T2 M tv1 pv tv2 pv2 w1 w') (h2 : MK B (fun b => X b ∨ b = T ∨ some b = tv.ownBlock) T2 M tv2 pv2 is2 ps2 w') : MK B X T M tv pv2 is ps2 w' ∧ FR B T M tv pv tv pv2 w w' := by
  have hs := hb.size
  have hTl := h.tlt
  have pev : pv2.ownBlock = pv.ownBlock ∨ ∃ g, pv2.ownBlock = some g ∧ w.heap.size ≤ g := by
    rcases hf.pev with e | ⟨g, e, hg⟩
    · exact Or.inl e
    · exact Or.inr ⟨g, e, by omega⟩
  have ne : ∀ k, k < w.heap.size → pv.ownBlock ≠ some k → pv2.ownBlock ≠ some k := by
    intro k hk hn
    rcases pev with e | ⟨g, e, hg⟩
    · rw [e]; exact hn
    · rw [e]; intro e2; have := Option.some.inj e2; omega
  have keep : ∀ b, b < w.heap.size → b ≠ M → some b ≠ pv.ownBlock → w'.heap[b]? = w.heap[b]? := fun b hbl hm hp => (hf.keep b (by omega) ⟨by omega, hm, by rw [h1]; simp, hp⟩).trans (hb.block b hbl)
  have hsz := hf.low.size
  have hs' : w.heap.size ≤ w'.heap.size := by
    have := (Array.getElem?_eq_some_iff.1 h2.tb).1
    omega
  refine ⟨⟨(keep T hTl h.tm (fun e => h.s3 e.symm)).trans h.tb, h2.mb, h.tm, h.bt, h.bm, ?_, h2.pr, h.s1, h.s2, ne T hTl h.s3, h2.s4, ?_, fun b hx => h2.xlt b (Or.inl hx), h.xt, ?_, ?_⟩, (hb.mono h.ble).trans hf.low, fun b hbl hfr => keep b hbl hfr.2.1 hfr.2.2.2, Or.inl rfl, pev⟩
  · rcases h.tr.2 with ⟨rfl, h0⟩ | ⟨g, cap, cur, rfl, hbg, hg, hrest⟩
    · exact ⟨h.tr.1, Or.inl ⟨rfl, h0⟩⟩
    · have hgl := (Array.getElem?_eq_some_iff.1 hg).1
      refine ⟨h.tr.1, Or.inr ⟨g, cap, cur, rfl, hbg, ?_, hrest⟩⟩
      exact (keep g hgl (fun e => h.s2 (by rw [← e]; rfl)) (fun e => h.s5 g rfl e.symm)).trans hg
  · intro g hg
    exact ne g (h.tr.lt g hg).2 (h.s5 g hg)
  · intro e he
    exact (h.ti e he).stay (fun k hk => keep k hk.1 hk.2.1.2.1 hk.2.1.2.2.2) (fun k hk => ⟨by have := hk.1; omega, ⟨hk.2.1.1, hk.2.1.2.1, hk.2.1.2.2.1, fun e2 => ne k hk.1 (fun e3 => hk.2.1.2.2.2 e3.symm) e2.symm⟩, hk.2.2⟩)
  · intro p hp
    exact (h2.pi p hp).stay (fun _ _ => rfl) (fun k hk => ⟨hk.1, ⟨fun e => hk.2.2 (Or.inr (Or.inl e)), hk.2.1.2.1, fun e => hk.2.2 (Or.inr (Or.inr e)), hk.2.1.2.2.2⟩, fun hx => hk.2.2 (Or.inl hx)⟩)
end Go.Proofs.Ytbbmdhkbndgdkaa
