/- The maker: where a jump lands. The maker: procedures begun and ended. The maker: proto. -/
import Derived.Test.YtfmanhkeclogfaaGreatDoorK17
namespace Go.Proofs.YtfmanhkeclogfaaGreatDoor
section
set_option linter.unusedVariables false
set_option linter.unusedSimpArgs false
open Go.RowKit

def IE.at (e : IE) (x : Int) : IE := ⟨{ e.i with a := x }, e.qa, e.qc⟩
theorem flatI_setA (x : Int) : ∀ (es : List IE) (j : Nat) (e : IE), es[j]? = some e → (flatI es).set (j * 11 + 1) (.int .i64 x) = flatI (es.set j (e.at x))
  | y :: r, 0, e, h => by
    simp at h
    subst h
    rw [flatI_cons, List.set_cons_zero, flatI_cons]
    rfl
  | y :: r, j + 1, e, h => by
    have h1 : r[j]? = some e := by simpa using h
    rw [flatI_cons, List.set_cons_succ, flatI_cons, ← flatI_setA x r j e h1, List.set_append_right _ _ (by rw [IE.len]; omega), IE.len]
    congr 2
    omega
theorem MK.land {B T M : Nat} {X : Nat → Prop} {g cap : Nat} {pv : Value} {is : List IE} {ps : List PE} {w : World} (h : MK B X T M (.slice (some ⟨g, 0, none⟩) is.length cap) pv is ps w) (j : Nat) (e : IE) (hj : is[j]? = some e) (x : Int) :
    MK B X T M (.slice (some ⟨g, 0, none⟩) is.length cap) pv (is.set j (e.at x)) ps (w.setCell ⟨g, j * 11 + 1, none⟩ (.int .i64 x)) ∧ FR B T M (.slice (some ⟨g, 0, none⟩) is.length cap) pv (.slice (some ⟨g, 0, none⟩) is.length cap) pv w (w.setCell ⟨g, j * 11 + 1, none⟩ (.int .i64 x)) := by
  have hke : Keep g w (w.setCell ⟨g, j * 11 + 1, none⟩ (.int .i64 x)) := (Keep.refl _ _).setCell _ rfl _
  have hg := h.tr.lt g rfl
  have hgT : g ≠ T := fun e => h.s1 (by rw [← e]; rfl)
  have hgM : g ≠ M := fun e => h.s2 (by rw [← e]; rfl)
  have keep : ∀ b, b < w.heap.size → Fr T M (.slice (some ⟨g, 0, none⟩) is.length cap) pv b → (w.setCell ⟨g, j * 11 + 1, none⟩ (.int .i64 x)).heap[b]? = w.heap[b]? := fun b hb hf => hke.block b hb hf.2.2.1
  refine ⟨⟨(hke.block T h.tlt (by simpa using fun e => hgT e.symm)).trans h.tb, (hke.block M h.mlt (by simpa using fun e => hgM e.symm)).trans h.mb, h.tm, h.bt, h.bm, ?_, ?_, h.s1, h.s2, h.s3, h.s4, h.s5, fun b hx => Nat.lt_of_lt_of_le (h.xlt b hx) hke.size, h.xt, ?_, ?_⟩, hke.toBelow hg.1 h.ble, keep, Or.inl rfl, Or.inl rfl⟩
  · rw [List.length_set, ← flatI_setA x is j e hj]
    exact (h.tr.stored (j * 11 + 1) (.int .i64 x)).1
  · refine h.pr.kept hke ?_
    cases hv : pv.ownBlock with
    | none => exact Or.inl rfl
    | some k => exact Or.inr (fun e => h.s5 g rfl (by rw [hv]; exact e))
  · intro f hf
    have h1 : f.Ok (fun b => b < w.heap.size ∧ Fr T M (.slice (some ⟨g, 0, none⟩) is.length cap) pv b ∧ ¬ X b) w := by
      rcases List.mem_or_eq_of_mem_set hf with hf | rfl
      · exact h.ti f hf
      · exact h.ti e (List.mem_of_getElem? hj)
    exact h1.stay (fun k hk => keep k hk.1 hk.2.1) (fun k hk => ⟨Nat.lt_of_lt_of_le hk.1 hke.size, hk.2⟩)
  · intro f hf
    exact (h.pi f hf).stay (fun k hk => keep k hk.1 hk.2.1) (fun k hk => ⟨Nat.lt_of_lt_of_le hk.1 hke.size, hk.2⟩)

set_option maxRecDepth 100000 in
set_option maxHeartbeats 800000 in
theorem land_any (B : Nat) (X : Nat → Prop) (T M : Nat) (tv pv : Value) (is : List IE) (ps : List PE) (w : World) (h : MK B X T M tv pv is ps w) (j : Nat) (e : IE) (hj : is[j]? = some e) (hlen : is.length ≤ 1000000000) :
    Calls Tryz.prog 123 #[tv, .int .i64 j] w fun r w' => r = .returned (.tuple #[]) ∧ MK B X T M tv pv (is.set j (e.at is.length)) ps w' ∧ FR B T M tv pv tv pv w w' := by
  have hjl : j < is.length := (List.getElem?_eq_some_iff.1 hj).1
  obtain ⟨g, cap, hv, hgc⟩ : ∃ g cap, tv = .slice (some ⟨g, 0, none⟩) is.length cap ∧ is.length ≤ cap := by
    rcases h.tr.2 with ⟨_, h0⟩ | ⟨g, cap, cur, e, _, _, hnc, _⟩
    · omega
    · exact ⟨g, cap, e, hnc⟩
  subst hv
  have HL := hidd (h.land j e hj is.length)
  have hc := h.tr.cellAt (j * 11 + 1) (by omega)
  have hf := h.tr.frozenAt (j * 11 + 1)
  obtain ⟨u, hu⟩ : ∃ u, (flatI is)[j * 11 + 1]? = some u := ⟨_, List.getElem?_eq_getElem (by rw [flatI_len]; omega)⟩
  rw [hu] at hc
  clear h hu
  go_enter Tryz.func123, Tryz.ntmps123
  go_wp2_with fail
  go_end0
  exact ⟨rfl, HL.out.1, HL.out.2⟩
end
section
set_option linter.unusedVariables false
set_option linter.unusedSimpArgs false
open Go.RowKit

/-- A PROCEDURE IS APPENDED, and the maker's box filled anew. -/
theorem MK.pushP {B T M : Nat} {X : Nat → Prop} {tv pv pv' : Value} {is : List IE} {ps : List PE} {w w2 w4 : World} (h : MK B X T M tv pv is ps w) (h2 : Below w.heap.size w w2) (e : PE) (he : e.Ok (fun b => b < w.heap.size ∧ Fr T M tv pv b ∧ ¬ X b) w)
    (hown : w4.ownsRow B 47 2 pv' (ps.length + 1) (flatP ps ++ e.cells)) (hg : w2.grownBy w4 pv.ownBlock) (hw : pv'.ownBlock = pv.ownBlock ∨ pv'.ownBlock = some w2.heap.size) :
    MK B X T M tv pv' is (ps ++ [e]) (w4.setCell ⟨M, 0, none⟩ pv') ∧ FR B T M tv pv tv pv' w (w4.setCell ⟨M, 0, none⟩ pv') := by
  have m2 := h.below h2
  have hs2 := h2.size
  have hs4 := hg.size
  have hke : Keep M w4 (w4.setCell ⟨M, 0, none⟩ pv') := (Keep.refl _ _).setCell _ rfl _
  have hs5 := hke.size
  have tev : pv'.ownBlock = pv.ownBlock ∨ ∃ g, pv'.ownBlock = some g ∧ w.heap.size ≤ g := by
    rcases hw with e | e
    · exact Or.inl e
    · exact Or.inr ⟨_, e, hs2⟩
  have keep : ∀ b, b < w2.heap.size → Fr T M tv pv b → (w4.setCell ⟨M, 0, none⟩ pv').heap[b]? = w2.heap[b]? := fun b hb hf => (hke.block b (by omega) (by simpa using hf.2.1)).trans (hg.block b hb hf.2.2.2)
  have fr : FR B T M tv pv tv pv' w (w4.setCell ⟨M, 0, none⟩ pv') := by
    refine ⟨(h2.mono h.ble).trans (((Below.refl B w2).grown hg m2.ble (fun k hk => (m2.pr.lt k hk).1)).trans (hke.toBelow h.bm (by have := m2.ble; omega))), fun b hb hf => (keep b (by omega) hf).trans (h2.block b hb), Or.inl rfl, tev⟩
  have hfr2 : ∀ b, b < w2.heap.size → Fr T M tv pv b → Fr T M tv pv' b := by
    intro b hb hf
    refine ⟨hf.1, hf.2.1, hf.2.2.1, ?_⟩
    rcases hw with e | e
    · rw [e]; exact hf.2.2.2
    · rw [e]; intro e2; have := Option.some.inj e2; omega
  have ne : ∀ k, k < w2.heap.size → pv.ownBlock ≠ some k → pv'.ownBlock ≠ some k := by
    intro k hk hn
    rcases hw with e | e
    · rw [e]; exact hn
    · rw [e]; intro e2; have := Option.some.inj e2; omega
  have tlt := m2.tlt
  have mlt := m2.mlt
  refine ⟨⟨?_, ?_, h.tm, h.bt, h.bm, ?_, ?_, h.s1, h.s2, ne T tlt h.s3, ne M mlt h.s4, ?_, fun b hx => by have := m2.xlt b hx; omega, h.xt, ?_, ?_⟩, fr⟩
  · exact (hke.block T (by omega) (by simpa using h.tm)).trans ((hg.block T tlt (fun e => h.s3 e.symm)).trans m2.tb)
  · have h5 : w4.heap[M]? = some (.cells #[pv] 86 (0, 0)) := (hg.block M mlt (fun e => h.s4 e.symm)).trans m2.mb
    exact heap_setCell_same w4 M 0 #[pv] 86 pv' h5
  · refine (m2.tr.kept hg ?_).kept hke (Or.inr (by simpa using h.s2))
    cases hv : tv.ownBlock with
    | none => exact Or.inl rfl
    | some g => exact Or.inr (fun e => h.s5 g hv e.symm)
  · rw [flatP_append, List.length_append]
    have : flatP [e] = e.cells := by simp [flatP]
    rw [this]
    exact hown.kept hke (Or.inr (by have := ne M mlt h.s4; simpa using this))
  · intro g hg2
    exact ne g (by have := (m2.tr.lt g hg2).2; omega) (h.s5 g hg2)
  · intro f hf
    exact (m2.ti f hf).stay (fun k hk => keep k hk.1 hk.2.1) (fun k hk => ⟨by have := hk.1; omega, hfr2 k hk.1 hk.2.1, hk.2.2⟩)
  · intro f hf
    have h1 : f.Ok (fun b => b < w2.heap.size ∧ Fr T M tv pv b ∧ ¬ X b) w2 := by
      rcases List.mem_append.1 hf with hf | hf
      · exact m2.pi f hf
      · simp at hf
        subst hf
        exact he.stay (fun k hk => h2.block k hk.1) (fun k hk => ⟨Nat.lt_of_lt_of_le hk.1 h2.size, hk.2⟩)
    exact h1.stay (fun k hk => keep k hk.1 hk.2.1) (fun k hk => ⟨by have := hk.1; omega, hfr2 k hk.1 hk.2.1, hk.2.2⟩)

/-- A NEW TAPE beside the old one. -/
theorem MK.inner {B T M : Nat} {X : Nat → Prop} {tv pv : Value} {is : List IE} {ps : List PE} {w : World} (h : MK B X T M tv pv is ps w) :
    MK B (fun b => X b ∨ b = T ∨ some b = tv.ownBlock) w.heap.size M (.slice none 0 0) pv [] ps (w.alloc (.cells #[.slice none 0 0] 165)) := by
  have hb : Below w.heap.size w (w.alloc (.cells #[.slice none 0 0] 165)) := (Below.refl _ _).alloc (Nat.le_refl _) _
  have m := h.below hb
  have hml := h.mlt
  refine ⟨World.alloc_heap_new w _, m.mb, by omega, h.ble, h.bm, World.ownsRow_nil _ _ _ _, m.pr, by simp [Value.ownBlock], by simp [Value.ownBlock], ?_, h.s4, by simp [Value.ownBlock], ?_, by simp [Value.ownBlock], by simp, ?_⟩
  · intro e
    have := (h.pr.lt _ e).2
    omega
  · intro b hx
    have hs := hb.size
    rcases hx with hx | rfl | hx
    · have := h.xlt b hx; omega
    · have := h.tlt; omega
    · have := (h.tr.lt b hx.symm).2; omega
  · intro p hp
    exact (h.pi p hp).stay (fun k hk => hb.block k hk.1) (fun k hk => ⟨Nat.lt_of_lt_of_le hk.1 hb.size, ⟨by have := hk.1; omega, hk.2.1.2.1, by simp [Value.ownBlock], hk.2.1.2.2.2⟩, fun hx => hx.elim hk.2.2 (fun hx => hx.elim hk.2.1.1 hk.2.1.2.2.1)⟩)
/-- BACK TO THE OLD TAPE: what is done with a new one leaves it. -/
theorem MK.outer {B T M T2 : Nat} {X : Nat → Prop} {tv pv tv2 pv2 : Value} {is is2 : List IE} {ps ps2 : List PE} {w w1 w' : World} {tv1 : Value} (h : MK B X T M tv pv is ps w) (hb : Below w.heap.size w w1) (hT2 : w.heap.size ≤ T2) (h1 : tv1.ownBlock = none)
    (hf : FR B T2 M tv1 pv tv2 pv2 w1 w') (h2 : MK B (fun b => X b ∨ b = T ∨ some b = tv.ownBlock) T2 M tv2 pv2 is2 ps2 w') : MK B X T M tv pv2 is ps2 w' ∧ FR B T M tv pv tv pv2 w w' := by
  have hs := hb.size
  have hTl := h.tlt
  have pev : pv2.ownBlock = pv.ownBlock ∨ ∃ g, pv2.ownBlock = some g ∧ w.heap.size ≤ g := by
    rcases hf.pev with e | ⟨g, e, hg⟩
    · exact Or.inl e
    · exact Or.inr ⟨g, e, by omega⟩
  have ne : ∀ k, k < w.heap.size → pv.ownBlock ≠ some k → pv2.ownBlock ≠ some k := by
    intro k hk hn
    rcases pev with e | ⟨g, e, hg⟩
    · rw [e]; exact hn
    · rw [e]; intro e2; have := Option.some.inj e2; omega
  have keep : ∀ b, b < w.heap.size → b ≠ M → some b ≠ pv.ownBlock → w'.heap[b]? = w.heap[b]? := fun b hbl hm hp => (hf.keep b (by omega) ⟨by omega, hm, by rw [h1]; simp, hp⟩).trans (hb.block b hbl)
  have hsz := hf.low.size
  have hs' : w.heap.size ≤ w'.heap.size := by
    have := (Array.getElem?_eq_some_iff.1 h2.tb).1
    omega
  refine ⟨⟨(keep T hTl h.tm (fun e => h.s3 e.symm)).trans h.tb, h2.mb, h.tm, h.bt, h.bm, ?_, h2.pr, h.s1, h.s2, ne T hTl h.s3, h2.s4, ?_, fun b hx => h2.xlt b (Or.inl hx), h.xt, ?_, ?_⟩, (hb.mono h.ble).trans hf.low, fun b hbl hfr => keep b hbl hfr.2.1 hfr.2.2.2, Or.inl rfl, pev⟩
  · rcases h.tr.2 with ⟨rfl, h0⟩ | ⟨g, cap, cur, rfl, hbg, hg, hrest⟩
    · exact ⟨h.tr.1, Or.inl ⟨rfl, h0⟩⟩
    · have hgl := (Array.getElem?_eq_some_iff.1 hg).1
      refine ⟨h.tr.1, Or.inr ⟨g, cap, cur, rfl, hbg, ?_, hrest⟩⟩
      exact (keep g hgl (fun e => h.s2 (by rw [← e]; rfl)) (fun e => h.s5 g rfl e.symm)).trans hg
  · intro g hg
    exact ne g (h.tr.lt g hg).2 (h.s5 g hg)
  · intro e he
    exact (h.ti e he).stay (fun k hk => keep k hk.1 hk.2.1.2.1 hk.2.1.2.2.2) (fun k hk => ⟨by have := hk.1; omega, ⟨hk.2.1.1, hk.2.1.2.1, hk.2.1.2.2.1, fun e2 => ne k hk.1 (fun e3 => hk.2.1.2.2.2 e3.symm) e2.symm⟩, hk.2.2⟩)
  · intro p hp
    exact (h2.pi p hp).stay (fun _ _ => rfl) (fun k hk => ⟨hk.1, ⟨fun e => hk.2.2 (Or.inr (Or.inl e)), hk.2.1.2.1, fun e => hk.2.2 (Or.inr (Or.inr e)), hk.2.1.2.2.2⟩, fun hx => hk.2.2 (Or.inl hx)⟩)
end
section
set_option linter.unusedVariables false
set_option linter.unusedSimpArgs false
open Go.RowKit

theorem flatP_setC (es : List IE) (a : Option Addr) (c : Nat) : ∀ (ps : List PE) (n : Nat) (p : PE), ps[n]? = some p → (flatP ps).set (n * 2 + 1) (.slice a es.length c) = flatP (ps.set n ⟨p.args, es, a, c⟩)
  | y :: r, 0, p, h => by
    simp at h
    subst h
    rw [flatP_cons, List.set_cons_zero, flatP_cons]
    rfl
  | y :: r, n + 1, p, h => by
    have h1 : r[n]? = some p := by simpa using h
    rw [flatP_cons, List.set_cons_succ, flatP_cons, ← flatP_setC es a c r n p h1, List.set_append_right _ _ (by simp [PE.cells]; omega)]
    congr 2
    simp [PE.cells]
    omega
/-- A procedure's code is stored. -/
theorem MK.code {B T M : Nat} {X : Nat → Prop} {g cap : Nat} {tv : Value} {is : List IE} {ps : List PE} {w : World} (h : MK B X T M tv (.slice (some ⟨g, 0, none⟩) ps.length cap) is ps w) (n : Nat) (p : PE) (hp : ps[n]? = some p) (es : List IE) (a : Option Addr) (c : Nat)
    (hd : (PE.mk p.args es a c).Ok (fun b => b < w.heap.size ∧ Fr T M tv (.slice (some ⟨g, 0, none⟩) ps.length cap) b ∧ ¬ X b) w) :
    MK B X T M tv (.slice (some ⟨g, 0, none⟩) ps.length cap) is (ps.set n ⟨p.args, es, a, c⟩) (w.setCell ⟨g, n * 2 + 1, none⟩ (.slice a es.length c)) ∧ FR B T M tv (.slice (some ⟨g, 0, none⟩) ps.length cap) tv (.slice (some ⟨g, 0, none⟩) ps.length cap) w (w.setCell ⟨g, n * 2 + 1, none⟩ (.slice a es.length c)) := by
  have hke : Keep g w (w.setCell ⟨g, n * 2 + 1, none⟩ (.slice a es.length c)) := (Keep.refl _ _).setCell _ rfl _
  have hg := h.pr.lt g rfl
  have hgT : g ≠ T := fun e => h.s3 (by rw [← e]; rfl)
  have hgM : g ≠ M := fun e => h.s4 (by rw [← e]; rfl)
  have keep : ∀ b, b < w.heap.size → Fr T M tv (.slice (some ⟨g, 0, none⟩) ps.length cap) b → (w.setCell ⟨g, n * 2 + 1, none⟩ (.slice a es.length c)).heap[b]? = w.heap[b]? := fun b hb hf => hke.block b hb hf.2.2.2
  refine ⟨⟨(hke.block T h.tlt (by simpa using fun e => hgT e.symm)).trans h.tb, (hke.block M h.mlt (by simpa using fun e => hgM e.symm)).trans h.mb, h.tm, h.bt, h.bm, ?_, ?_, h.s1, h.s2, h.s3, h.s4, h.s5, fun b hx => Nat.lt_of_lt_of_le (h.xlt b hx) hke.size, h.xt, ?_, ?_⟩, hke.toBelow hg.1 h.ble, keep, Or.inl rfl, Or.inl rfl⟩
  · refine h.tr.kept hke ?_
    cases hv : tv.ownBlock with
    | none => exact Or.inl rfl
    | some k => exact Or.inr (fun e => h.s5 k hv e.symm)
  · rw [List.length_set, ← flatP_setC es a c ps n p hp]
    exact (h.pr.stored (n * 2 + 1) (.slice a es.length c)).1
  · intro f hf
    exact (h.ti f hf).stay (fun k hk => keep k hk.1 hk.2.1) (fun k hk => ⟨Nat.lt_of_lt_of_le hk.1 hke.size, hk.2⟩)
  · intro f hf
    have h1 : f.Ok (fun b => b < w.heap.size ∧ Fr T M tv (.slice (some ⟨g, 0, none⟩) ps.length cap) b ∧ ¬ X b) w := by
      rcases List.mem_or_eq_of_mem_set hf with hf | rfl
      · exact h.pi f hf
      · exact hd
    exact h1.stay (fun k hk => keep k hk.1 hk.2.1) (fun k hk => ⟨Nat.lt_of_lt_of_le hk.1 hke.size, hk.2⟩)
/-- A tape that is done is a procedure's code. -/
theorem MK.done {B T M T2 : Nat} {X : Nat → Prop} {tv tv2 pv2 : Value} {is : List IE} {ps : List PE} {w : World} (h : MK B (fun b => X b ∨ b = T ∨ some b = tv.ownBlock) T2 M tv2 pv2 is ps w) (h0 : is ≠ []) {a : Option Addr} {c : Nat} (hv : tv2 = .slice a is.length c) (ar : Int) :
    (PE.mk ar is a c).Ok (fun b => b < w.heap.size ∧ Fr T M tv pv2 b ∧ ¬ X b) w := by
  rcases h.tr.2 with ⟨_, h1⟩ | ⟨g, cap, cur, e, hbg, hg, hnc, _⟩
  · exact absurd (List.length_eq_zero_iff.1 h1) h0
  · rw [hv] at e
    simp at e
    obtain ⟨rfl, rfl⟩ := e
    subst hv
    have hx := h.xt g rfl
    refine ⟨hnc, Or.inr ⟨g, rfl, ⟨(h.tr.lt g rfl).2, ⟨fun e => hx (Or.inr (Or.inl e)), fun e => h.s2 (by rw [← e]; rfl), fun e => hx (Or.inr (Or.inr e)), fun e => h.s5 g rfl e.symm⟩, fun e => hx (Or.inl e)⟩, ?_⟩, ?_⟩
    · intro j u hu
      have hj : j < is.length * 11 := by
        have := (List.getElem?_eq_some_iff.1 hu).1
        rwa [flatI_len] at this
      rw [h.tr.cellAt j hj]
      exact hu
    · intro f hf
      exact (h.ti f hf).stay (fun _ _ => rfl) (fun k hk => ⟨hk.1, ⟨fun e => hk.2.2 (Or.inr (Or.inl e)), hk.2.1.2.1, fun e => hk.2.2 (Or.inr (Or.inr e)), hk.2.1.2.2.2⟩, fun e => hk.2.2 (Or.inl e)⟩)
/-- What is told of code that was made. -/
def ToldM (B : Nat) (X : Nat → Prop) (T M : Nat) (tv pv : Value) (is : List IE) (ps : List PE) (g : List In × List Pro) (w : World) (r : Ending) (w' : World) : Prop :=
  r = .returned (.tuple #[]) ∧ ∃ tv' pv' is' ps', is'.map IE.i = g.1 ∧ ps'.map PE.pro = g.2 ∧ MK B X T M tv' pv' (is ++ is') (ps ++ ps') w' ∧ FR B T M tv pv tv' pv' w w'

set_option maxRecDepth 100000 in
set_option maxHeartbeats 800000 in
theorem proto37_any (B : Nat) (X : Nat → Prop) (T M : Nat) (tv pv : Value) (is : List IE) (ps : List PE) (w : World) (ar : Int) (x0 x1 : Addr) (g : List In × List Pro) (h : MK B X T M tv pv is ps w) (hlp : ps.length + g.2.length ≤ 1000000000) (hli : g.1.length ≤ 1000000000)
    (hcl : ∀ W T2 pv2, MK B (fun b => X b ∨ b = T ∨ some b = tv.ownBlock) T2 M (.slice none 0 0) pv2 [] (ps ++ [⟨ar, [], none, 0⟩]) W → (∀ b, b < w.heap.size → Fr T M tv pv b → W.heap[b]? = w.heap[b]?) → Below B w W → Calls Tryz.prog 101 #[.pointer (some ⟨T2, 0, none⟩), .pointer (some x0), .pointer (some x1)] W (ToldM B (fun b => X b ∨ b = T ∨ some b = tv.ownBlock) T2 M (.slice none 0 0) pv2 [] (ps ++ [⟨ar, [], none, 0⟩]) g W)) :
    Calls Tryz.prog 70 #[.pointer (some ⟨M, 0, none⟩), .int .i64 ar, .func (.func 101) #[] #[.pointer (some x0), .pointer (some x1)]] w fun r w' => r = .returned (.int .i64 ps.length) ∧ ∃ pv' ps', ps'.map PE.pro = ⟨ar, g.1 ++ [insO 15]⟩ :: g.2 ∧ MK B X T M tv pv' is (ps ++ ps') w' ∧ FR B T M tv pv tv pv' w w' := by
  have MK0 := hidd h
  have CL := hidd hcl
  have hM := h.mlt
  have mb : w.cell? ⟨M, 0, none⟩ = some pv := by simp [World.cell?, h.mb]
  have mz : w.frozen? ⟨M, 0, none⟩ = false := by simp [World.frozen?, h.mb]
  obtain ⟨pa, pc, hpv, hpc⟩ := h.pslice
  have ba : Below w.heap.size w (w.alloc (.cells #[.int .i64 ar, .slice none 0 0] 47)) := (Below.refl _ _).alloc (Nat.le_refl _) _
  have M1 := hidd (h.below ba)
  have BA := hidd ba
  clear h hcl ba
  subst hpv
  obtain ⟨i0, hinf, hz0, hz1, hz2⟩ := info_parts infoPro
  go_enter Tryz.func70, Tryz.ntmps70
  go_wp2_with (at_builtin; refine wpList_append_where rfl _ _ 22 rfl B 47 i0 _ 2 32 Tryz.underlying22 hinf hz0 hz1 hz2 rfl (by decide) (.slice pa ps.length pc) ps.length (flatP ps) rfl (by exact M1.out.pr) ⟨w.heap.size, 0, none⟩ 1 1 (PE.mk ar [] none 0).cells rfl rfl ?c1 ?c2 (by decide) ?c3 ?c4 ?c5 ?_)
  case c1 =>
    intro q u hq
    have hcell := World.cell?_alloc_mark w #[.int .i64 ar, .slice none 0 0] 47 (0, 0) q
    have hadd := addr_add w.heap.size q
    rw [hadd, hcell]
    simpa [PE.cells] using hq
  case c2 =>
    intro u hu
    simp [PE.cells] at hu
    rcases hu with rfl | rfl <;> rfl
  case c3 => unfold maxLen; omega
  case c4 => omega
  case c5 => exact M1.out.ble
  intro pv1 w4 hown4 hg4 hw4
  obtain ⟨hmk, hfr⟩ := MK0.out.pushP BA.out (PE.mk ar [] none 0) ⟨Nat.le_refl _, Or.inl rfl, by simp⟩ hown4 hg4 (by simpa using hw4)
  obtain ⟨pa1, pc1, hpv1, _⟩ := hmk.pslice
  rw [List.length_append, List.length_singleton] at hpv1
  subst hpv1
  have b4 : w4.heap[M]? = some (.cells #[.slice pa ps.length pc] 86 (0, 0)) := (hg4.block M M1.out.mlt (fun e => MK0.out.s4 e.symm)).trans M1.out.mb
  have n4 : w4.cell? ⟨M, 0, none⟩ = some (.slice pa ps.length pc) := by simp [World.cell?, b4]
  have z4 : w4.frozen? ⟨M, 0, none⟩ = false := by simp [World.frozen?, b4]
  have HM := hidd hmk
  have HF := hidd hfr
  clear hmk hfr hown4 hg4 hw4 b4 mb mz M1 BA
  go_upto_region 4 with fail
  have hsz : w4.heap.size = (w4.setCell ⟨M, 0, none⟩ (.slice pa1 (ps.length + 1) pc1)).heap.size := by simp [World.setCell]
  rw [hsz]
  clear hsz
  generalize w4.setCell ⟨M, 0, none⟩ (.slice pa1 (ps.length + 1) pc1) = w1 at HM HF ⊢
  have MI := hidd HM.out.inner
  have hbi : Below w1.heap.size w1 (w1.alloc (.cells #[.slice none 0 0] 165)) := (Below.refl _ _).alloc (Nat.le_refl _) _
  have HBI := hidd hbi
  have hle1 := HF.out.low.size
  have CALL := hidd (CL.out _ _ _ MI.out (fun b hb hf => (hbi.block b (Nat.lt_of_lt_of_le hb hle1)).trans (HF.out.keep b hb hf)) (HF.out.low.trans (hbi.mono HM.out.ble)))
  clear hbi n4 z4 CL MI
  generalize hW1 : w1.alloc (.cells #[.slice none 0 0] 165) = W1 at CALL HBI ⊢
  clear hW1
  obtain ⟨T2, hT2⟩ : ∃ T2, T2 = w1.heap.size := ⟨_, rfl⟩
  rw [← hT2] at CALL ⊢
  have HT2 := hidd hT2
  clear hT2
  go_wp2_with fail
  refine CALL.out.mono ?_
  rintro e w2 ⟨rfl, tv2, pv2, is2, ps2, hi2, hp2, mk2, fr2⟩
  have hlen2 : is2.length ≤ 1000000000 := by rw [← List.length_map (f := IE.i), hi2]; exact hli
  have hlp2 : ps2.length = g.2.length := by rw [← List.length_map (f := PE.pro), hp2]
  have MK2 := hidd mk2
  have FR2 := hidd fr2
  have EQS : Hid (is2.map IE.i = g.1 ∧ ps2.map PE.pro = g.2) := ⟨hi2, hp2⟩
  clear mk2 fr2 hi2 hp2 CALL
  rw [List.nil_append] at MK2
  have PUT : Hid (Calls Tryz.prog 73 #[.pointer (some ⟨T2, 0, none⟩), .agg #[.int .i64 15, .int .i64 0, .int .i64 0, .string ⟨#[]⟩, .string ⟨#[]⟩, .int .i64 0, .int .i64 0, .string ⟨#[]⟩, .int .i64 0, .int .i64 0, .slice none 0 0]] w2 fun e w' => e = .returned (.int .i64 is2.length) ∧ ∃ tv', MK B (fun b => X b ∨ b = T ∨ some b = tv.ownBlock) T2 M tv' pv2 (is2 ++ [IE.mk (insO 15) none 0]) (ps ++ [PE.mk ar [] none 0] ++ ps2) w' ∧ FR B T2 M tv2 pv2 tv' pv2 w2 w') := put_any B _ T2 M tv2 pv2 is2 _ w2 (insO 15) none 0 MK2.out ⟨Nat.zero_le _, Nat.zero_le _, Nat.zero_le _, Nat.le_refl _, 0, rfl⟩ hlen2
  go_wp2_with fail
  refine PUT.out.mono ?_
  rintro e w5 ⟨rfl, tv3, mk3, fr3⟩
  obtain ⟨hmo, hfo⟩ := HM.out.outer HBI.out (Nat.le_of_eq HT2.out.symm) rfl (FR2.out.trans fr3) mk3
  have HD : Hid (Below w5.heap.size w5 w5.drew) := Below.drew (Below.refl _ _)
  have hmd := hmo.below HD.out
  have hm3 := mk3.below HD.out
  obtain ⟨a3, c3, htv3, _⟩ := mk3.tslice
  have hdn := hm3.done (by simp) htv3 ar
  obtain ⟨g2, cap2, hpv2⟩ : ∃ g2 cap2, pv2 = .slice (some ⟨g2, 0, none⟩) (ps ++ [PE.mk ar [] none 0] ++ ps2).length cap2 := by
    rcases hmo.pr.2 with ⟨_, h0⟩ | ⟨g2, cap2, cur, e, _⟩
    · simp at h0
    · exact ⟨g2, cap2, e⟩
  subst hpv2
  have hco := hmd.code ps.length (PE.mk ar [] none 0) (by simp) _ a3 c3 hdn
  have hset : (ps ++ [PE.mk ar [] none 0] ++ ps2).set ps.length (PE.mk ar (is2 ++ [IE.mk (insO 15) none 0]) a3 c3) = ps ++ (PE.mk ar (is2 ++ [IE.mk (insO 15) none 0]) a3 c3 :: ps2) := by
    rw [List.append_assoc, List.set_append_right _ _ (Nat.le_refl _), Nat.sub_self]
    rfl
  have hMg : M ≠ g2 := fun e => hmo.s4 (by rw [e]; rfl)
  have hTg : T2 ≠ g2 := fun e => mk3.s3 (by rw [e]; rfl)
  have BX : Hid (w5.drew.heap[M]? = some (.cells #[.slice (some ⟨g2, 0, none⟩) (ps ++ [PE.mk ar [] none 0] ++ ps2).length cap2] 86 (0, 0)) ∧ w5.drew.heap[T2]? = some (.cells #[tv3] 165 (0, 0))) := ⟨hmd.mb, hm3.tb⟩
  have g2c : ∃ u, w5.drew.cell? ⟨g2, ps.length * 2 + 1, none⟩ = some u := ⟨_, (hmd.pr.cellAt (ps.length * 2 + 1) (by rw [List.length_append, List.length_append, List.length_singleton]; omega)).trans (List.getElem?_eq_getElem (by rw [flatP_len, List.length_append, List.length_append, List.length_singleton]; omega))⟩
  have g2z := hmd.pr.frozenAt (ps.length * 2 + 1)
  have hpn : ps.length < (ps ++ [PE.mk ar [] none 0] ++ ps2).length := by rw [List.length_append, List.length_append, List.length_singleton]; omega
  have hpm : (ps ++ [PE.mk ar [] none 0] ++ ps2).length ≤ 9000000000 := by rw [List.length_append, List.length_append, List.length_singleton]; omega
  have CO : Hid (∃ pv' ps', ps'.map PE.pro = Pro.mk ar (g.1 ++ [insO 15]) :: g.2 ∧ MK B X T M tv pv' is (ps ++ ps') (w5.drew.setCell ⟨g2, ps.length * 2 + 1, none⟩ (.slice a3 (is2 ++ [IE.mk (insO 15) none 0]).length c3)) ∧ FR B T M tv (.slice pa ps.length pc) tv pv' w (w5.drew.setCell ⟨g2, ps.length * 2 + 1, none⟩ (.slice a3 (is2 ++ [IE.mk (insO 15) none 0]).length c3))) := by
    refine ⟨_, PE.mk ar (is2 ++ [IE.mk (insO 15) none 0]) a3 c3 :: ps2, ?_, ?_, HF.out.trans (hfo.trans ((FR.of_below HD.out hmo.ble).trans hco.2))⟩
    · rw [List.map_cons, EQS.out.2]
      unfold PE.pro
      simp only [List.map_append, EQS.out.1]
      rfl
    · have := hco.1
      rw [hset] at this
      exact this
  generalize (ps ++ [PE.mk ar [] none 0] ++ ps2).length = psn at BX hpn hpm
  subst htv3
  generalize (is2 ++ [IE.mk (insO 15) none 0]).length = isn at BX CO
  obtain ⟨u0, g2c⟩ := g2c
  clear hmo hfo hmd hm3 hdn hco hset mk3 fr3 PUT MK2 FR2 EQS HM HF HBI MK0 HD
  go_upto_region 6 with fail
  refine wp_region_held_drew (S := fun u => u.heap[M]? = some (.cells #[.slice (some ⟨g2, 0, none⟩) psn cap2] 86 (0, 0)) ∧ u.heap[T2]? = some (.cells #[.slice a3 isn c3] 165 (0, 0))) (by kernel_rfl) BX.out (fun hS => ?_)
  refine wpAnyH_take (i := 0) (oi := { dst := some 29, op := Op.move (Operand.tmp 0), type := 125, pos := _, after := _, guard := none }) (v := .pointer (some ⟨M, 0, none⟩)) rfl (by kernel_rfl) (by kernel_rfl) (by kernel_rfl) (fun _ _ _ h => h) (Or.inl ⟨by rfl, fun u hu => by go_simp⟩) hS ?_
  simp only [Act.put, List.setIfInBounds_toArray, List.set_cons_zero, List.set_cons_succ]
  refine wpAnyH_take (i := 1) (oi := { dst := some 30, op := Op.nilCheck (Operand.tmp 29), type := 0, pos := _, after := _, guard := none }) (v := .pointer (some ⟨M, 0, none⟩)) rfl (by kernel_rfl) (by kernel_rfl) (by kernel_rfl) (fun _ _ _ h => h) (Or.inl ⟨by rfl, fun u hu => by go_simp⟩) hS ?_
  simp only [Act.put, List.setIfInBounds_toArray, List.set_cons_zero, List.set_cons_succ]
  refine wpAnyH_take (i := 2) (oi := { dst := some 31, op := Op.fieldAddr 86 (Operand.tmp 30) 0, type := 0, pos := _, after := _, guard := none }) (v := .pointer (some ⟨M, 0, none⟩)) rfl (by kernel_rfl) (by kernel_rfl) (by kernel_rfl) (fun _ _ _ h => h) (Or.inl ⟨by rfl, fun u hu => by go_simp⟩) hS ?_
  simp only [Act.put, List.setIfInBounds_toArray, List.set_cons_zero, List.set_cons_succ]
  refine wpAnyH_take (i := 3) (oi := { dst := some 32, op := Op.load 22 (Operand.tmp 31), type := 22, pos := _, after := _, guard := none }) (v := .slice (some ⟨g2, 0, none⟩) psn cap2) rfl (by kernel_rfl) (by kernel_rfl) (by kernel_rfl) (fun _ _ _ h => h) (Or.inl ⟨by rfl, fun u hu => by (have z : u.cell? ⟨M, 0, none⟩ = some (.slice (some ⟨g2, 0, none⟩) psn cap2) := (by simp [World.cell?, show u.heap[M]? = _ from hu.1]); go_simp)⟩) hS ?_
  simp only [Act.put, List.setIfInBounds_toArray, List.set_cons_zero, List.set_cons_succ]
  refine wpAnyH_take (i := 4) (oi := { dst := some 33, op := Op.move (Operand.tmp 7), type := 3, pos := _, after := _, guard := none }) (v := .int .i64 ps.length) rfl (by kernel_rfl) (by kernel_rfl) (by kernel_rfl) (fun _ _ _ h => h) (Or.inl ⟨by rfl, fun u hu => by go_simp⟩) hS ?_
  simp only [Act.put, List.setIfInBounds_toArray, List.set_cons_zero, List.set_cons_succ]
  refine wpAnyH_take (i := 5) (oi := { dst := some 34, op := Op.load 165 (Operand.tmp 8), type := 165, pos := _, after := _, guard := none }) (v := .slice a3 isn c3) rfl (by kernel_rfl) (by kernel_rfl) (by kernel_rfl) (fun _ _ _ h => h) (Or.inl ⟨by rfl, fun u hu => by (have z : u.cell? ⟨T2, 0, none⟩ = some (.slice a3 isn c3) := (by simp [World.cell?, show u.heap[T2]? = _ from hu.2]); go_simp)⟩) hS ?_
  simp only [Act.put, List.setIfInBounds_toArray, List.set_cons_zero, List.set_cons_succ]
  refine wpAnyH_take (i := 6) (oi := { dst := some 35, op := Op.indexAddr 22 (Operand.tmp 32) (Operand.tmp 33), type := 0, pos := _, after := _, guard := none }) (v := .pointer (some ⟨g2, ps.length * 2, none⟩)) rfl (by kernel_rfl) (by kernel_rfl) (by kernel_rfl) (fun _ _ _ h => h) (Or.inl ⟨by rfl, fun u hu => by go_simp⟩) hS ?_
  simp only [Act.put, List.setIfInBounds_toArray, List.set_cons_zero, List.set_cons_succ]
  refine wpAnyH_take (i := 7) (oi := { dst := some 36, op := Op.fieldAddr 47 (Operand.tmp 35) 1, type := 0, pos := _, after := _, guard := none }) (v := .pointer (some ⟨g2, ps.length * 2 + 1, none⟩)) rfl (by kernel_rfl) (by kernel_rfl) (by kernel_rfl) (fun _ _ _ h => h) (Or.inl ⟨by rfl, fun u hu => by go_simp⟩) hS ?_
  simp only [Act.put, List.setIfInBounds_toArray, List.set_cons_zero, List.set_cons_succ]
  refine wpAnyH_ready (rs := [8]) (by kernel_rfl) (by simp) (AllReadyH.cons (o := { dst := none, op := Op.store 45 (Operand.tmp 36) (Operand.tmp 34), type := 0, pos := _, after := _, guard := none }) rfl (fun K hK => ?_) AllReadyH.nil)
  go_simp
  change K _ (w5.drew.setCell ⟨g2, ps.length * 2 + 1, none⟩ (.slice a3 isn c3))
  have hS6 : (w5.drew.setCell ⟨g2, ps.length * 2 + 1, none⟩ (.slice a3 isn c3)).heap[M]? = some (.cells #[.slice (some ⟨g2, 0, none⟩) psn cap2] 86 (0, 0)) ∧ (w5.drew.setCell ⟨g2, ps.length * 2 + 1, none⟩ (.slice a3 isn c3)).heap[T2]? = some (.cells #[.slice a3 isn c3] 165 (0, 0)) := ⟨(Below.heap_setCell _ _ _ _ (by show M ≠ g2; exact hMg)).trans hS.1, (Below.heap_setCell _ _ _ _ (by show T2 ≠ g2; exact hTg)).trans hS.2⟩
  generalize w5.drew.setCell ⟨g2, ps.length * 2 + 1, none⟩ (.slice a3 isn c3) = w6 at CO hS6 ⊢
  refine hK.out _ _ hS6 (fun hS => ?_)
  clear hK K
  refine wpAnyH_done (by kernel_rfl) ?_ _
  go_wp2_with fail
  go_ret
  exact ⟨rfl, CO.out⟩
end
end Go.Proofs.YtfmanhkeclogfaaGreatDoor
