/- What the maker has in memory. -/
import Derived.Test.YtbbmdhkbndgdkaaCm
namespace Go.Proofs.Ytbbmdhkbndgdkaa
set_option linter.unusedVariables false
set_option linter.unusedSimpArgs false
open Go.RowKit

/-- An instruction, and where what it quotes lies. -/
structure IE where
  i : In
  qa : Option Addr
  qc : Nat
def IE.cells (e : IE) : List Value := (ic e.i (.slice e.qa e.i.quote.kids.length e.qc)).toList
def flatI (es : List IE) : List Value := es.flatMap IE.cells
theorem IE.len (e : IE) : e.cells.length = 11 := rfl
theorem flatI_cons (e : IE) (r : List IE) : flatI (e :: r) = e.cells ++ flatI r := by simp [flatI]
theorem flatI_append (a b : List IE) : flatI (a ++ b) = flatI a ++ flatI b := by simp [flatI]
theorem flatI_len : ∀ (es : List IE), (flatI es).length = es.length * 11
  | [] => rfl
  | e :: r => by rw [flatI_cons, List.length_append, e.len, flatI_len r, List.length_cons]; omega
theorem IE.one (e : IE) : ∀ u ∈ e.cells, u.oneCell' = true := by
  intro u hu
  simp [IE.cells, ic] at hu
  rcases hu with rfl | rfl | rfl | rfl | rfl | rfl | rfl | rfl | rfl | rfl | rfl <;> rfl
/-- A procedure, and where its code lies. -/
structure PE where
  args : Int
  es : List IE
  a : Option Addr
  c : Nat
def PE.cells (p : PE) : List Value := [.int .i64 p.args, .slice p.a p.es.length p.c]
def flatP (ps : List PE) : List Value := ps.flatMap PE.cells
theorem flatP_cons (e : PE) (r : List PE) : flatP (e :: r) = e.cells ++ flatP r := by simp [flatP]
theorem flatP_append (a b : List PE) : flatP (a ++ b) = flatP a ++ flatP b := by simp [flatP]
theorem flatP_len : ∀ (es : List PE), (flatP es).length = es.length * 2
  | [] => rfl
  | e :: r => by rw [flatP_cons, List.length_append, flatP_len r, List.length_cons]; simp [PE.cells]; omega
def PE.pro (p : PE) : Pro := ⟨p.args, p.es.map IE.i⟩

def IE.Ok (ok : Nat → Prop) (w : World) (e : IE) : Prop :=
  e.i.lib.size ≤ maxLen ∧ e.i.own.size ≤ maxLen ∧ e.i.quote.name.size ≤ maxLen ∧ e.i.quote.kids.length ≤ e.qc ∧ ∃ f, Dc ok w f e.qa e.i.quote.kids
theorem IE.Ok.stay {ok ok' : Nat → Prop} {w w' : World} {e : IE} (h : e.Ok ok w) (hw : ∀ k, ok k → w'.heap[k]? = w.heap[k]?) (ho : ∀ k, ok k → ok' k) : e.Ok ok' w' := by
  obtain ⟨h1, h2, h3, h4, f, h5⟩ := h
  exact ⟨h1, h2, h3, h4, f, Dc.stay hw ho f _ _ h5⟩
def PE.Ok (ok : Nat → Prop) (w : World) (p : PE) : Prop :=
  p.es.length ≤ p.c ∧ (p.es = [] ∨ ∃ b, p.a = some ⟨b, 0, none⟩ ∧ ok b ∧ ∀ j u, (flatI p.es)[j]? = some u → w.cell? ⟨b, j, none⟩ = some u) ∧ ∀ e ∈ p.es, e.Ok ok w
theorem PE.Ok.stay {ok ok' : Nat → Prop} {w w' : World} {p : PE} (h : p.Ok ok w) (hw : ∀ k, ok k → w'.heap[k]? = w.heap[k]?) (ho : ∀ k, ok k → ok' k) : p.Ok ok' w' := by
  obtain ⟨h1, h2, h3⟩ := h
  refine ⟨h1, ?_, fun e he => (h3 e he).stay hw ho⟩
  rcases h2 with h2 | ⟨b, ha, hb, h2⟩
  · exact Or.inl h2
  · exact Or.inr ⟨b, ha, ho b hb, fun j u hu => (World.cell?_of_block (a := ⟨b, j, none⟩) (hw b hb)).trans (h2 j u hu)⟩

/-- A block that is none of the maker's. -/
def Fr (T M : Nat) (tv pv : Value) (b : Nat) : Prop := b ≠ T ∧ b ≠ M ∧ some b ≠ tv.ownBlock ∧ some b ≠ pv.ownBlock
/-- THE MAKER AT WORK: a tape in box T, procedures in box M. -/
structure MK (B : Nat) (X : Nat → Prop) (T M : Nat) (tv pv : Value) (is : List IE) (ps : List PE) (w : World) : Prop where
  tb : w.heap[T]? = some (.cells #[tv] 85 (0, 0))
  mb : w.heap[M]? = some (.cells #[pv] 55 (0, 0))
  tm : T ≠ M
  bt : B ≤ T
  bm : B ≤ M
  tr : w.ownsRow B 46 11 tv is.length (flatI is)
  pr : w.ownsRow B 44 2 pv ps.length (flatP ps)
  s1 : tv.ownBlock ≠ some T
  s2 : tv.ownBlock ≠ some M
  s3 : pv.ownBlock ≠ some T
  s4 : pv.ownBlock ≠ some M
  s5 : ∀ g, tv.ownBlock = some g → pv.ownBlock ≠ some g
  xlt : ∀ b, X b → b < w.heap.size
  xt : ∀ g, tv.ownBlock = some g → ¬ X g
  ti : ∀ e ∈ is, e.Ok (fun b => b < w.heap.size ∧ Fr T M tv pv b ∧ ¬ X b) w
  pi : ∀ p ∈ ps, p.Ok (fun b => b < w.heap.size ∧ Fr T M tv pv b ∧ ¬ X b) w
/-- What may change. -/
structure FR (B T M : Nat) (tv pv tv' pv' : Value) (w w' : World) : Prop where
  low : Below B w w'
  keep : ∀ b, b < w.heap.size → Fr T M tv pv b → w'.heap[b]? = w.heap[b]?
  tev : tv'.ownBlock = tv.ownBlock ∨ ∃ g, tv'.ownBlock = some g ∧ w.heap.size ≤ g
  pev : pv'.ownBlock = pv.ownBlock ∨ ∃ g, pv'.ownBlock = some g ∧ w.heap.size ≤ g
theorem FR.refl (B T M : Nat) (tv pv : Value) (w : World) : FR B T M tv pv tv pv w w := ⟨Below.refl _ _, fun _ _ _ => rfl, Or.inl rfl, Or.inl rfl⟩
theorem FR.fr {B T M : Nat} {tv pv tv' pv' : Value} {w w' : World} (h : FR B T M tv pv tv' pv' w w') {b : Nat} (hb : b < w.heap.size) (hf : Fr T M tv pv b) : Fr T M tv' pv' b := by
  obtain ⟨h1, h2, h3, h4⟩ := hf
  refine ⟨h1, h2, ?_, ?_⟩
  · rcases h.tev with e | ⟨g, e, hg⟩
    · rw [e]; exact h3
    · rw [e]; intro e2; have := Option.some.inj e2; omega
  · rcases h.pev with e | ⟨g, e, hg⟩
    · rw [e]; exact h4
    · rw [e]; intro e2; have := Option.some.inj e2; omega
theorem FR.trans {B T M : Nat} {tv pv tv1 pv1 tv2 pv2 : Value} {w w1 w2 : World} (h : FR B T M tv pv tv1 pv1 w w1) (k : FR B T M tv1 pv1 tv2 pv2 w1 w2) : FR B T M tv pv tv2 pv2 w w2 := by
  refine ⟨h.low.trans k.low, fun b hb hf => (k.keep b (Nat.lt_of_lt_of_le hb h.low.size) (h.fr hb hf)).trans (h.keep b hb hf), ?_, ?_⟩
  · rcases k.tev with e | ⟨g, e, hg⟩
    · rcases h.tev with e2 | ⟨g, e2, hg⟩
      · exact Or.inl (e.trans e2)
      · exact Or.inr ⟨g, e.trans e2, hg⟩
    · exact Or.inr ⟨g, e, Nat.le_trans h.low.size hg⟩
  · rcases k.pev with e | ⟨g, e, hg⟩
    · rcases h.pev with e2 | ⟨g, e2, hg⟩
      · exact Or.inl (e.trans e2)
      · exact Or.inr ⟨g, e.trans e2, hg⟩
    · exact Or.inr ⟨g, e, Nat.le_trans h.low.size hg⟩
theorem FR.of_below {B T M : Nat} {tv pv : Value} {w w' : World} (hb : Below w.heap.size w w') (hB : B ≤ w.heap.size) : FR B T M tv pv tv pv w w' :=
  ⟨hb.mono hB, fun b h _ => hb.block b h, Or.inl rfl, Or.inl rfl⟩
theorem own_below {B n size : Nat} {T : TypeId} {v : Value} {xs : List Value} {w w' : World} (h : w.ownsRow B T size v n xs) (hk : Below w.heap.size w w') : w'.ownsRow B T size v n xs :=
  h.kept (row := none) ⟨hk.os, hk.tape, hk.output, hk.size, fun k h1 _ => hk.block k h1⟩ (by cases hv : v.ownBlock <;> simp)
section
variable {B T M : Nat} {X : Nat → Prop} {tv pv : Value} {is : List IE} {ps : List PE} {w w' : World}
theorem MK.tlt (h : MK B X T M tv pv is ps w) : T < w.heap.size := (Array.getElem?_eq_some_iff.1 h.tb).1
theorem MK.mlt (h : MK B X T M tv pv is ps w) : M < w.heap.size := (Array.getElem?_eq_some_iff.1 h.mb).1
theorem MK.ble (h : MK B X T M tv pv is ps w) : B ≤ w.heap.size := Nat.le_of_lt (Nat.lt_of_le_of_lt h.bt h.tlt)
/-- New memory is no matter. -/
theorem MK.below (h : MK B X T M tv pv is ps w) (hb : Below w.heap.size w w') : MK B X T M tv pv is ps w' :=
  ⟨(hb.block _ h.tlt).trans h.tb, (hb.block _ h.mlt).trans h.mb, h.tm, h.bt, h.bm, own_below h.tr hb, own_below h.pr hb, h.s1, h.s2, h.s3, h.s4, h.s5, fun b hx => Nat.lt_of_lt_of_le (h.xlt b hx) hb.size, h.xt,
   fun e he => (h.ti e he).stay (fun k hk => hb.block k hk.1) (fun k hk => ⟨Nat.lt_of_lt_of_le hk.1 hb.size, hk.2⟩),
   fun e he => (h.pi e he).stay (fun k hk => hb.block k hk.1) (fun k hk => ⟨Nat.lt_of_lt_of_le hk.1 hb.size, hk.2⟩)⟩
theorem MK.tslice (h : MK B X T M tv pv is ps w) : ∃ a cap, tv = .slice a is.length cap ∧ is.length ≤ cap := by
  rcases h.tr.2 with ⟨rfl, h0⟩ | ⟨g, cap, cur, rfl, hbg, hg, hnc, hcm, hcs, htake⟩
  · exact ⟨none, 0, by rw [h0], by rw [h0]; exact Nat.le_refl _⟩
  · exact ⟨some ⟨g, 0, none⟩, cap, rfl, hnc⟩
theorem MK.pslice (h : MK B X T M tv pv is ps w) : ∃ a cap, pv = .slice a ps.length cap ∧ ps.length ≤ cap := by
  rcases h.pr.2 with ⟨rfl, h0⟩ | ⟨g, cap, cur, rfl, hbg, hg, hnc, hcm, hcs, htake⟩
  · exact ⟨none, 0, by rw [h0], by rw [h0]; exact Nat.le_refl _⟩
  · exact ⟨some ⟨g, 0, none⟩, cap, rfl, hnc⟩
end
/-- AN INSTRUCTION IS APPENDED, and the tape's box filled anew. -/
theorem MK.push {B T M : Nat} {X : Nat → Prop} {tv pv tv' : Value} {is : List IE} {ps : List PE} {w w2 w4 : World} (h : MK B X T M tv pv is ps w) (h2 : Below w.heap.size w w2) (e : IE) (he : e.Ok (fun b => b < w.heap.size ∧ Fr T M tv pv b ∧ ¬ X b) w)
    (hown : w4.ownsRow B 46 11 tv' (is.length + 1) (flatI is ++ e.cells)) (hg : w2.grownBy w4 tv.ownBlock) (hw : tv'.ownBlock = tv.ownBlock ∨ tv'.ownBlock = some w2.heap.size) :
    MK B X T M tv' pv (is ++ [e]) ps (w4.setCell ⟨T, 0, none⟩ tv') ∧ FR B T M tv pv tv' pv w (w4.setCell ⟨T, 0, none⟩ tv') := by
  have m2 := h.below h2
  have hs2 := h2.size
  have hs4 := hg.size
  have hke : Keep T w4 (w4.setCell ⟨T, 0, none⟩ tv') := (Keep.refl _ _).setCell _ rfl _
  have hs5 := hke.size
  have tev : tv'.ownBlock = tv.ownBlock ∨ ∃ g, tv'.ownBlock = some g ∧ w.heap.size ≤ g := by
    rcases hw with e | e
    · exact Or.inl e
    · exact Or.inr ⟨_, e, hs2⟩
  have keep : ∀ b, b < w2.heap.size → Fr T M tv pv b → (w4.setCell ⟨T, 0, none⟩ tv').heap[b]? = w2.heap[b]? := fun b hb hf => (hke.block b (by omega) (by simpa using hf.1)).trans (hg.block b hb hf.2.2.1)
  have fr : FR B T M tv pv tv' pv w (w4.setCell ⟨T, 0, none⟩ tv') := by
    refine ⟨(h2.mono h.ble).trans (((Below.refl B w2).grown hg m2.ble (fun k hk => (m2.tr.lt k hk).1)).trans (hke.toBelow h.bt (by have := m2.ble; omega))), fun b hb hf => (keep b (by omega) hf).trans (h2.block b hb), tev, Or.inl rfl⟩
  have hfr2 : ∀ b, b < w2.heap.size → Fr T M tv pv b → Fr T M tv' pv b := by
    intro b hb hf
    refine ⟨hf.1, hf.2.1, ?_, hf.2.2.2⟩
    rcases hw with e | e
    · rw [e]; exact hf.2.2.1
    · rw [e]; intro e2; have := Option.some.inj e2; omega
  have ne : ∀ k, k < w2.heap.size → tv.ownBlock ≠ some k → tv'.ownBlock ≠ some k := by
    intro k hk hn
    rcases hw with e | e
    · rw [e]; exact hn
    · rw [e]; intro e2; have := Option.some.inj e2; omega
  have tlt := m2.tlt
  have mlt := m2.mlt
  refine ⟨⟨?_, ?_, h.tm, h.bt, h.bm, ?_, ?_, ne T tlt h.s1, ne M mlt h.s2, h.s3, h.s4, ?_, fun b hx => by have := m2.xlt b hx; omega, ?_, ?_, ?_⟩, fr⟩
  · have h5 : w4.heap[T]? = some (.cells #[tv] 85 (0, 0)) := (hg.block T tlt (fun e => h.s1 e.symm)).trans m2.tb
    exact heap_setCell_same w4 T 0 #[tv] 85 tv' h5
  · exact (hke.block M (by omega) (by simpa using fun e => h.tm e.symm)).trans ((hg.block M mlt (fun e => h.s2 e.symm)).trans m2.mb)
  · rw [flatI_append, List.length_append]
    have : flatI [e] = e.cells := by simp [flatI]
    rw [this]
    exact hown.kept hke (Or.inr (by have := ne T tlt h.s1; simpa using this))
  · refine (m2.pr.kept hg ?_).kept hke (Or.inr (by simpa using h.s3))
    cases hv : pv.ownBlock with
    | none => exact Or.inl rfl
    | some g => exact Or.inr (fun e => (h.s5 g e.symm) hv)
  · intro g hg2 hp
    rcases hw with e | e
    · exact h.s5 g (e ▸ hg2) hp
    · rw [e] at hg2
      have := Option.some.inj hg2
      have := (m2.pr.lt g hp).2
      omega
  · intro g hg2 hx
    rcases hw with e | e
    · exact h.xt g (e ▸ hg2) hx
    · rw [e] at hg2
      have := Option.some.inj hg2
      have := m2.xlt g hx
      omega
  · intro f hf
    have h1 : f.Ok (fun b => b < w2.heap.size ∧ Fr T M tv pv b ∧ ¬ X b) w2 := by
      rcases List.mem_append.1 hf with hf | hf
      · exact m2.ti f hf
      · simp at hf
        subst hf
        exact he.stay (fun k hk => h2.block k hk.1) (fun k hk => ⟨Nat.lt_of_lt_of_le hk.1 h2.size, hk.2⟩)
    exact h1.stay (fun k hk => keep k hk.1 hk.2.1) (fun k hk => ⟨by have := hk.1; omega, hfr2 k hk.1 hk.2.1, hk.2.2⟩)
  · intro f hf
    exact (m2.pi f hf).stay (fun k hk => keep k hk.1 hk.2.1) (fun k hk => ⟨by have := hk.1; omega, hfr2 k hk.1 hk.2.1, hk.2.2⟩)
end Go.Proofs.Ytbbmdhkbndgdkaa
