/- The document's code: a procedure more. -/
import Derived.Test.YtbbmdhkbndgdkaaK48
namespace Go.Proofs.Ytbbmdhkbndgdkaa
set_option linter.unusedVariables false
set_option linter.unusedSimpArgs false
open Go.RowKit

theorem infoSl : (Try.prog.info? 42).map (fun i => (i.zero, i.size, i.bytes)) = some (some (.slice none 0 0), 1, 24) := by kernel_rfl
theorem PE.sl_one (l : List PE) : ∀ u ∈ l.map PE.sl, u.oneCell' = true := by
  intro u hu
  obtain ⟨p, _, rfl⟩ := List.mem_map.1 hu
  rfl
/-- One procedure's code has its place already, how many arguments it has is not noted yet. -/
structure GH (B : Nat) (X : Nat → Prop) (G : Nat) (pv2 av : Value) (ps : List PE) (w : World) : Prop where
  box : w.heap[G]? = some (.cells #[pv2, av] 60 (0, 0))
  bg : B ≤ G
  pr : w.ownsRow B 42 1 pv2 (ps.length + 1) (ps.map PE.sl ++ [.slice none 0 0])
  ar : w.ownsRow B 3 1 av ps.length (ints (ps.map PE.args))
  s1 : pv2.ownBlock ≠ some G
  s2 : av.ownBlock ≠ some G
  s3 : ∀ g, pv2.ownBlock = some g → av.ownBlock ≠ some g
  xlt : ∀ b, X b → b < w.heap.size
  ok : ∀ p ∈ ps, p.Ok (fun b => b < w.heap.size ∧ ¬ (OG G pv2 av b ∨ X b)) w
theorem GH.lt {B G : Nat} {X : Nat → Prop} {pv av : Value} {ps : List PE} {w : World} (h : GH B X G pv av ps w) : G < w.heap.size := (Array.getElem?_eq_some_iff.1 h.box).1
theorem GH.ble {B G : Nat} {X : Nat → Prop} {pv av : Value} {ps : List PE} {w : World} (h : GH B X G pv av ps w) : B ≤ w.heap.size := Nat.le_of_lt (Nat.lt_of_le_of_lt h.bg h.lt)
theorem GH.below {B G : Nat} {X : Nat → Prop} {pv av : Value} {ps : List PE} {w w' : World} (h : GH B X G pv av ps w) (hb : Below w.heap.size w w') : GH B X G pv av ps w' :=
  ⟨(hb.block _ h.lt).trans h.box, h.bg, own_below h.pr hb, own_below h.ar hb, h.s1, h.s2, h.s3, fun b hx => Nat.lt_of_lt_of_le (h.xlt b hx) hb.size, fun p hp => (h.ok p hp).stay (fun b hl => hb.block b hl.1) (fun b hl => ⟨Nat.lt_of_lt_of_le hl.1 hb.size, hl.2⟩)⟩
theorem GS.half {B G : Nat} {X : Nat → Prop} {pv av pv2 : Value} {ps : List PE} {w w2 w4 : World} (h : GS B X G pv av ps w) (h2 : Below w.heap.size w w2)
    (hown : w4.ownsRow B 42 1 pv2 (ps.length + 1) (ps.map PE.sl ++ [.slice none 0 0])) (hg : w2.grownBy w4 pv.ownBlock) (hw : pv2.ownBlock = pv.ownBlock ∨ pv2.ownBlock = some w2.heap.size) :
    GH B X G pv2 av ps (w4.setCell ⟨G, 0, none⟩ pv2) ∧ Fm (OG G pv av) (OG G pv2 av) B w (w4.setCell ⟨G, 0, none⟩ pv2) := by
  have m2 := h.below h2
  have hs2 := h2.size
  have hs4 := hg.size
  have hlt := m2.lt
  have hke : Keep G w4 (w4.setCell ⟨G, 0, none⟩ pv2) := (Keep.refl _ _).setCell _ rfl _
  have hs5 := hke.size
  have hne : pv2.ownBlock ≠ some G := by
    rcases hw with e | e
    · rw [e]; exact h.s1
    · rw [e]; intro e2; have := Option.some.inj e2; omega
  have kn : ∀ b, b < w.heap.size → ¬ OG G pv av b → (w4.setCell ⟨G, 0, none⟩ pv2).heap[b]? = w.heap[b]? := fun b hb ho => (hke.block b (by omega) (by simpa using fun e => ho (Or.inl e))).trans ((hg.block b (by omega) (fun e => ho (Or.inr (Or.inl e)))).trans (h2.block b hb))
  have ow : ∀ b, b < w.heap.size → OG G pv2 av b → OG G pv av b := by
    rintro b hb (e | e | e)
    · exact Or.inl e
    · rcases hw with e2 | e2
      · rw [e2] at e; exact Or.inr (Or.inl e)
      · rw [e2] at e; have := Option.some.inj e; omega
    · exact Or.inr (Or.inr e)
  refine ⟨⟨?_, h.bg, hown.kept hke (Or.inr (by simpa using hne)), ?_, hne, h.s2, ?_, fun b hx => by have := h.xlt b hx; omega, fun p hp => (h.ok p hp).stay (fun b hb => kn b hb.1 (fun o => hb.2 (Or.inl o))) (fun b hb => ⟨by have := hb.1; omega, fun o => hb.2 (o.elim (fun o => Or.inl (ow b hb.1 o)) Or.inr)⟩)⟩, (h2.mono h.ble).trans (((Below.refl B w2).grown hg m2.ble (fun k hk => (m2.pr.lt k hk).1)).trans (hke.toBelow h.bg (by have := m2.ble; omega))), kn, ow⟩
  · exact heap_setCell_same w4 G 0 #[pv, av] 60 pv2 ((hg.block G hlt (fun e => h.s1 e.symm)).trans m2.box)
  · refine own_stay m2.ar (fun g hg2 => ?_)
    have hl := (m2.ar.lt g hg2).2
    exact (hke.block g (by omega) (by simpa using fun e => h.s2 (by rw [hg2, e]))).trans (hg.block g hl (fun e => h.s3 g e.symm hg2))
  · intro g hg2 ha
    rcases hw with e | e
    · exact h.s3 g (e ▸ hg2) ha
    · rw [e] at hg2
      have := Option.some.inj hg2
      have := (m2.ar.lt g ha).2
      omega
theorem GH.full {B G : Nat} {X : Nat → Prop} {pv av av2 : Value} {ps : List PE} {i : Int} {w w2 w4 : World} (h : GH B X G pv av ps w) (h2 : Below w.heap.size w w2)
    (hown : w4.ownsRow B 3 1 av2 (ps.length + 1) (ints (ps.map PE.args) ++ [.int .i64 i])) (hg : w2.grownBy w4 av.ownBlock) (hw : av2.ownBlock = av.ownBlock ∨ av2.ownBlock = some w2.heap.size) :
    GS B X G pv av2 (ps ++ [⟨i, [], none, 0⟩]) (w4.setCell ⟨G, 1, none⟩ av2) ∧ Fm (OG G pv av) (OG G pv av2) B w (w4.setCell ⟨G, 1, none⟩ av2) := by
  have m2 := h.below h2
  have hs2 := h2.size
  have hs4 := hg.size
  have hlt := m2.lt
  have hke : Keep G w4 (w4.setCell ⟨G, 1, none⟩ av2) := (Keep.refl _ _).setCell _ rfl _
  have hs5 := hke.size
  have hne : av2.ownBlock ≠ some G := by
    rcases hw with e | e
    · rw [e]; exact h.s2
    · rw [e]; intro e2; have := Option.some.inj e2; omega
  have kn : ∀ b, b < w.heap.size → ¬ OG G pv av b → (w4.setCell ⟨G, 1, none⟩ av2).heap[b]? = w.heap[b]? := fun b hb ho => (hke.block b (by omega) (by simpa using fun e => ho (Or.inl e))).trans ((hg.block b (by omega) (fun e => ho (Or.inr (Or.inr e)))).trans (h2.block b hb))
  have ow : ∀ b, b < w.heap.size → OG G pv av2 b → OG G pv av b := by
    rintro b hb (e | e | e)
    · exact Or.inl e
    · exact Or.inr (Or.inl e)
    · rcases hw with e2 | e2
      · rw [e2] at e; exact Or.inr (Or.inr e)
      · rw [e2] at e; have := Option.some.inj e; omega
  refine ⟨⟨?_, h.bg, ?_, ?_, h.s1, hne, ?_, fun b hx => by have := h.xlt b hx; omega, fun p hp => ?_⟩, (h2.mono h.ble).trans (((Below.refl B w2).grown hg m2.ble (fun k hk => (m2.ar.lt k hk).1)).trans (hke.toBelow h.bg (by have := m2.ble; omega))), kn, ow⟩
  · exact heap_setCell_same w4 G 1 #[pv, av] 60 av2 ((hg.block G hlt (fun e => h.s2 e.symm)).trans m2.box)
  · rw [List.length_append, List.map_append]
    refine own_stay m2.pr (fun g hg2 => ?_)
    have hl := (m2.pr.lt g hg2).2
    exact (hke.block g (by omega) (by simpa using fun e => h.s1 (by rw [hg2, e]))).trans (hg.block g hl (fun e => h.s3 g hg2 e.symm))
  · rw [List.length_append, List.map_append]
    have : ints (ps.map PE.args ++ [PE.mk i [] none 0].map PE.args) = ints (ps.map PE.args) ++ [.int .i64 i] := by simp [ints]
    rw [this]
    exact hown.kept hke (Or.inr (by simpa using hne))
  · intro g hg2 ha
    rcases hw with e | e
    · exact h.s3 g hg2 (e ▸ ha)
    · rw [e] at ha
      have := Option.some.inj ha
      have := (m2.pr.lt g hg2).2
      omega
  · rcases List.mem_append.1 hp with hp | hp
    · exact (h.ok p hp).stay (fun b hb => kn b hb.1 (fun o => hb.2 (Or.inl o))) (fun b hb => ⟨by have := hb.1; omega, fun o => hb.2 (o.elim (fun o => Or.inl (ow b hb.1 o)) Or.inr)⟩)
    · simp at hp
      subst hp
      exact ⟨Nat.le_refl _, Or.inl rfl, by simp⟩
/-- A procedure's code is put where it has its place. -/
theorem GS.put {B G : Nat} {X : Nat → Prop} {g cap N : Nat} {av rv : Value} {ps ps' : List PE} {i : Int} {es : List IE} {ra : Option Addr} {rc : Nat} {w w4 : World} {BR : Nat} (hN : N = ((ps ++ [PE.mk i [] none 0]) ++ ps').length)
    (h : GS B (fun b => X b ∨ some b = rv.ownBlock) G (.slice (some ⟨g, 0, none⟩) N cap) av ((ps ++ [PE.mk i [] none 0]) ++ ps') w)
    (hrv : ∀ b, rv.ownBlock = some b → ¬ (OG G (.slice (some ⟨g, 0, none⟩) N cap) av b ∨ X b))
    (row4 : RowR BR (fun b => OG G (.slice (some ⟨g, 0, none⟩) N cap) av b ∨ X b) (.slice ra es.length rc) es w4) (fm4 : Fm (fun b => some b = rv.ownBlock) (fun b => some b = (Value.slice ra es.length rc).ownBlock) BR w w4) :
    GS B X G (.slice (some ⟨g, 0, none⟩) N cap) av ((ps ++ [PE.mk i es ra rc]) ++ ps') (w4.setCell ⟨g, ps.length, none⟩ (.slice ra es.length rc)) := by
  have hke : Keep g w4 (w4.setCell ⟨g, ps.length, none⟩ (.slice ra es.length rc)) := (Keep.refl _ _).setCell _ rfl _
  have hs4 := fm4.low.size
  have hs5 := hke.size
  have hgo : OG G (.slice (some ⟨g, 0, none⟩) N cap) av g := Or.inr (Or.inl rfl)
  have hog : ∀ b, OG G (.slice (some ⟨g, 0, none⟩) N cap) av b → ¬ some b = rv.ownBlock := fun b ho e => hrv b e.symm (Or.inl ho)
  have k4 : ∀ b, OG G (.slice (some ⟨g, 0, none⟩) N cap) av b → w4.heap[b]? = w.heap[b]? := fun b ho => fm4.keep b (h.oglt ho).2 (hog b ho)
  have hGg : G ≠ g := fun e => h.s1 (by rw [e]; rfl)
  refine ⟨?_, h.bg, ?_, ?_, h.s1, h.s2, h.s3, fun b hx => by have := h.xlt b (Or.inl hx); omega, fun p hp => ?_⟩
  · exact (hke.block G (by have := h.lt; omega) (by simpa using hGg)).trans ((k4 G (Or.inl rfl)).trans h.box)
  · have h1 := own_stay (w' := w4) h.pr (fun b hb => k4 b (Or.inr (Or.inl hb.symm)))
    rw [← hN] at h1
    have h2 := (h1.stored ps.length (.slice ra es.length rc)).1
    have e1 : ((ps ++ [PE.mk i es ra rc]) ++ ps').length = N := by rw [hN]; simp
    have e2 : (((ps ++ [PE.mk i [] none 0]) ++ ps').map PE.sl).set ps.length (.slice ra es.length rc) = ((ps ++ [PE.mk i es ra rc]) ++ ps').map PE.sl := by
      simp [PE.sl]
    rw [e1, ← e2]
    exact h2
  · have e1 : ((ps ++ [PE.mk i es ra rc]) ++ ps').length = ((ps ++ [PE.mk i [] none 0]) ++ ps').length := by simp
    have e2 : ((ps ++ [PE.mk i es ra rc]) ++ ps').map PE.args = ((ps ++ [PE.mk i [] none 0]) ++ ps').map PE.args := by simp
    rw [e1, e2]
    refine own_stay h.ar (fun b hb => (hke.block b (by have := (h.ar.lt b hb).2; omega) ?_).trans (k4 b (Or.inr (Or.inr hb.symm))))
    intro e
    have e3 : b = g := by simpa using e
    exact h.s3 g rfl (by rw [← e3]; exact hb)
  · have hold : ∀ p ∈ (ps ++ [PE.mk i [] none 0]) ++ ps', p.Ok (fun b => b < (w4.setCell ⟨g, ps.length, none⟩ (.slice ra es.length rc)).heap.size ∧ ¬ (OG G (.slice (some ⟨g, 0, none⟩) N cap) av b ∨ X b)) (w4.setCell ⟨g, ps.length, none⟩ (.slice ra es.length rc)) := fun p hp =>
      (h.ok p hp).stay (fun b hb => (hke.block b (by have := hb.1; omega) (by intro e; have e3 : b = g := (by simpa using e); exact hb.2 (Or.inl (e3 ▸ hgo)))).trans (fm4.keep b hb.1 (fun e => hb.2 (Or.inr (Or.inr e))))) (fun b hb => ⟨by have := hb.1; omega, fun o => hb.2 (o.elim Or.inl (fun o => Or.inr (Or.inl o)))⟩)
    rcases List.mem_append.1 hp with hp | hp
    · rcases List.mem_append.1 hp with hp | hp
      · exact hold p (List.mem_append_left _ (List.mem_append_left _ hp))
      · simp at hp
        subst hp
        have kn : ∀ b, b < w4.heap.size → ¬ (OG G (.slice (some ⟨g, 0, none⟩) N cap) av b ∨ X b) → (w4.setCell ⟨g, ps.length, none⟩ (.slice ra es.length rc)).heap[b]? = w4.heap[b]? := fun b hb hn => hke.block b hb (by intro e; have e3 : b = g := (by simpa using e); exact hn (Or.inl (e3 ▸ hgo)))
        refine ⟨?_, ?_, fun e he => (row4.ok e he).stay (fun b hb => kn b hb.1 (fun o => hb.2 (Or.inl o))) (fun b hb => ⟨by have := hb.1; omega, fun o => hb.2 (Or.inl o)⟩)⟩
        · obtain ⟨va, vc, e, hvc⟩ := own_slice row4.own
          simp at e
          show es.length ≤ rc
          rw [e.2]; exact hvc
        · by_cases h0 : es = []
          · exact Or.inl h0
          · obtain ⟨gg, vc, e, _, _, hgl, hob, hc⟩ := own_at row4.own (List.length_pos_iff.2 h0)
            simp at e
            have hnn := row4.nb gg hob
            exact Or.inr ⟨gg, e.1, ⟨by omega, hnn⟩, fun j u hu => (World.cell?_of_block (a := ⟨gg, j, none⟩) (kn gg hgl hnn)).trans (hc j u hu)⟩
    · exact hold p (List.mem_append_right _ hp)
theorem Fm.put {O O' : Nat → Prop} {B BR g k : Nat} {rv rv' v : Value} {w0 w w4 : World} (fm : Fm O O' B w0 w) (fm4 : Fm (fun b => some b = rv.ownBlock) (fun b => some b = rv'.ownBlock) BR w w4) (hBR : w0.heap.size ≤ BR) (hB : B ≤ w0.heap.size) (hrv : ∀ b, rv.ownBlock = some b → BR ≤ b) (hg : O' g) (hgB : B ≤ g) : Fm O O' B w0 (w4.setCell ⟨g, k, none⟩ v) := by
  have hke : Keep g w4 (w4.setCell ⟨g, k, none⟩ v) := (Keep.refl _ _).setCell _ rfl _
  have hs := fm.low.size
  have hs4 := fm4.low.size
  refine ⟨(fm.low.trans (fm4.low.mono (by omega))).trans (hke.toBelow hgB (by omega)), fun b hb ho => (hke.block b (by omega) ?_).trans ((fm4.keep b (by omega) (fun e => by have := hrv b e.symm; omega)).trans (fm.keep b hb ho)), fm.own⟩
  intro e
  have e3 : b = g := by simpa using e
  subst e3
  exact ho (fm.own b hb hg)
/-- The answer of a lambda. -/
theorem ToldG.lam {B G : Nat} {X : Nat → Prop} {pv av pv4 av4 : Value} {ps ps' : List PE} {w W : World} (hxl : ∀ b, X b → b < w.heap.size) (h : GS B X G pv4 av4 (ps ++ ps') W) (fm : Fm (OG G pv av) (OG G pv4 av4) B w W) (e : IE) (he : e.i.lib.size ≤ maxLen ∧ e.i.own.size ≤ maxLen ∧ e.i.quote = emD ∧ e.qa = none ∧ e.qc = 0) :
    ToldG B X G pv av ps ([e.i], ps'.map PE.pro) w (.returned (.slice (some ⟨W.heap.size, 0, none⟩) 1 1)) (W.alloc (.cells e.cells.toArray 46)) := by
  have ba : Below W.heap.size W (W.alloc (.cells e.cells.toArray 46)) := (Below.refl _ _).alloc (Nat.le_refl _) _
  refine ⟨pv4, av4, ps', .slice (some ⟨W.heap.size, 0, none⟩) 1 1, [e], rfl, ?_, ⟨⟨rfl, Or.inr ⟨W.heap.size, 1, e.cells.toArray, rfl, fm.low.size, World.alloc_heap_new W _, Nat.le_refl _, by unfold maxLen; decide, rfl, ?_⟩⟩, fun g hg e2 => ?_, fun f hf => ?_⟩, rfl, rfl, fm.trans (Fm.of_below ba h.ble)⟩
  · exact h.other (fun b hl _ => ba.block b hl) ba.size (fun b e => e.elim (fun e => Nat.lt_of_lt_of_le (h.xlt b e) ba.size) (fun e => by simp [Value.ownBlock] at e; rw [e]; simp)) (fun b hl hn e => e.elim (fun e => hn (Or.inr e)) (fun e => by simp [Value.ownBlock] at e; omega))
  · simp [flatI, IE.cells, ic]
  · have hg' : W.heap.size = g := by simpa [Value.ownBlock] using hg
    rcases e2 with e2 | e2
    · have := (h.oglt e2).2; omega
    · have := h.xlt g e2; omega
  · simp at hf
    subst hf
    obtain ⟨i, qa, qc⟩ := f
    obtain ⟨h1, h2, h3, h4, h5⟩ := he
    simp only at h1 h2 h3 h4 h5
    subst h4 h5
    exact ie_plain _ _ _ h1 h2 h3
end Go.Proofs.Ytbbmdhkbndgdkaa
