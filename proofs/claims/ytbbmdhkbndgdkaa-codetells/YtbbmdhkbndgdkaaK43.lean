/- The document's code: procedures so far, and the code of an expression. -/
import Derived.Test.YtbbmdhkbndgdkaaK31
import Derived.Test.YtbbmdhkbndgdkaaK32
import Derived.Test.YtbbmdhkbndgdkaaK41
import Derived.Test.YtbbmdhkbndgdkaaK42
namespace Go.Proofs.Ytbbmdhkbndgdkaa
set_option linter.unusedVariables false
set_option linter.unusedSimpArgs false
open Go.RowKit

theorem own_stay {w w' : World} {B size n : Nat} {e : TypeId} {v : Value} {xs : List Value} (h : w.ownsRow B e size v n xs) (hk : ∀ g, v.ownBlock = some g → w'.heap[g]? = w.heap[g]?) : w'.ownsRow B e size v n xs := by
  refine ⟨h.1, ?_⟩
  rcases h.2 with h | ⟨g, cap, cur, rfl, hb, hg, rest⟩
  · exact Or.inl h
  · exact Or.inr ⟨g, cap, cur, rfl, hb, (hk g rfl).trans hg, rest⟩
theorem own_base {w : World} {B B' size n : Nat} {e : TypeId} {v : Value} {xs : List Value} (h : w.ownsRow B e size v n xs) (hb : B' ≤ B) : w.ownsRow B' e size v n xs := by
  refine ⟨h.1, ?_⟩
  rcases h.2 with h | ⟨g, cap, cur, rfl, h1, hg, rest⟩
  · exact Or.inl h
  · exact Or.inr ⟨g, cap, cur, rfl, by omega, hg, rest⟩
def PE.sl (p : PE) : Value := .slice p.a p.es.length p.c
/-- The blocks that hold the procedures. -/
def OG (G : Nat) (pv av : Value) (b : Nat) : Prop := b = G ∨ some b = pv.ownBlock ∨ some b = av.ownBlock
/-- PROCEDURES SO FAR: their code in one row, how many arguments each has in another; nothing of them lies in X. -/
structure GS (B : Nat) (X : Nat → Prop) (G : Nat) (pv av : Value) (ps : List PE) (w : World) : Prop where
  box : w.heap[G]? = some (.cells #[pv, av] 60 (0, 0))
  bg : B ≤ G
  pr : w.ownsRow B 42 1 pv ps.length (ps.map PE.sl)
  ar : w.ownsRow B 3 1 av ps.length (ints (ps.map PE.args))
  s1 : pv.ownBlock ≠ some G
  s2 : av.ownBlock ≠ some G
  s3 : ∀ g, pv.ownBlock = some g → av.ownBlock ≠ some g
  xlt : ∀ b, X b → b < w.heap.size
  ok : ∀ p ∈ ps, p.Ok (fun b => b < w.heap.size ∧ ¬ (OG G pv av b ∨ X b)) w
theorem GS.lt {B G : Nat} {X : Nat → Prop} {pv av : Value} {ps : List PE} {w : World} (h : GS B X G pv av ps w) : G < w.heap.size := (Array.getElem?_eq_some_iff.1 h.box).1
theorem GS.ble {B G : Nat} {X : Nat → Prop} {pv av : Value} {ps : List PE} {w : World} (h : GS B X G pv av ps w) : B ≤ w.heap.size := Nat.le_of_lt (Nat.lt_of_le_of_lt h.bg h.lt)
theorem GS.oglt {B G : Nat} {X : Nat → Prop} {pv av : Value} {ps : List PE} {w : World} (h : GS B X G pv av ps w) {b : Nat} (hb : OG G pv av b) : B ≤ b ∧ b < w.heap.size := by
  rcases hb with e | e | e
  · rw [e]; exact ⟨h.bg, h.lt⟩
  · exact h.pr.lt b e.symm
  · exact h.ar.lt b e.symm
/-- Blocks that are none of theirs may change; what X is may change, too. -/
theorem GS.other {B G : Nat} {X X' : Nat → Prop} {pv av : Value} {ps : List PE} {w w' : World} (h : GS B X G pv av ps w) (hk : ∀ b, b < w.heap.size → OG G pv av b ∨ ¬ (OG G pv av b ∨ X b) → w'.heap[b]? = w.heap[b]?) (hs : w.heap.size ≤ w'.heap.size) (hx : ∀ b, X' b → b < w'.heap.size) (hX : ∀ b, b < w.heap.size → ¬ (OG G pv av b ∨ X b) → ¬ X' b) : GS B X' G pv av ps w' := by
  have ko : ∀ b, OG G pv av b → w'.heap[b]? = w.heap[b]? := fun b hb => hk b (h.oglt hb).2 (Or.inl hb)
  exact ⟨(ko G (Or.inl rfl)).trans h.box, h.bg, own_stay h.pr (fun g hg => ko g (Or.inr (Or.inl hg.symm))), own_stay h.ar (fun g hg => ko g (Or.inr (Or.inr hg.symm))), h.s1, h.s2, h.s3, hx,
    fun p hp => (h.ok p hp).stay (fun b hb => hk b hb.1 (Or.inr hb.2)) (fun b hb => ⟨Nat.lt_of_lt_of_le hb.1 hs, fun e => e.elim (fun e => hb.2 (Or.inl e)) (hX b hb.1 hb.2)⟩)⟩
theorem GS.below {B G : Nat} {X : Nat → Prop} {pv av : Value} {ps : List PE} {w w' : World} (h : GS B X G pv av ps w) (hb : Below w.heap.size w w') : GS B X G pv av ps w' :=
  h.other (fun b hl _ => hb.block b hl) hb.size (fun b hx => Nat.lt_of_lt_of_le (h.xlt b hx) hb.size) (fun b _ h e => h (Or.inr e))
/-- A row of instructions, somebody's own. -/
structure RowR (B0 : Nat) (O : Nat → Prop) (rv : Value) (es : List IE) (w : World) : Prop where
  own : w.ownsRow B0 46 11 rv es.length (flatI es)
  nb : ∀ g, rv.ownBlock = some g → ¬ O g
  ok : ∀ e ∈ es, e.Ok (fun b => b < w.heap.size ∧ ¬ (O b ∨ some b = rv.ownBlock)) w
theorem RowR.move {B0 B : Nat} {O O' : Nat → Prop} {rv : Value} {es : List IE} {w w' : World} (h : RowR B0 O rv es w) (hm : Fm O O' B w w') : RowR B0 O' rv es w' :=
  ⟨own_stay h.own (fun g hg => hm.keep g (h.own.lt g hg).2 (h.nb g hg)), fun g hg e => h.nb g hg (hm.own g (h.own.lt g hg).2 e),
    fun e he => (h.ok e he).stay (fun b hb => hm.keep b hb.1 (fun e => hb.2 (Or.inl e))) (fun b hb => ⟨Nat.lt_of_lt_of_le hb.1 hm.low.size, fun e => e.elim (fun e => hb.2 (Or.inl (hm.own b hb.1 e))) (fun e => hb.2 (Or.inr e))⟩)⟩
theorem RowR.slice {B0 : Nat} {O : Nat → Prop} {rv : Value} {es : List IE} {w : World} (h : RowR B0 O rv es w) : ∃ a c, rv = .slice a es.length c ∧ es.length ≤ c := own_slice h.own
/-- What is told of an expression's code. -/
def ToldG (B : Nat) (X : Nat → Prop) (G : Nat) (pv av : Value) (ps : List PE) (g : List In × List Pro) (w : World) (e : Ending) (w' : World) : Prop :=
  ∃ pv' av' ps' rv is, e = .returned rv ∧ GS B (fun b => X b ∨ some b = rv.ownBlock) G pv' av' (ps ++ ps') w' ∧ RowR w.heap.size (fun b => OG G pv' av' b ∨ X b) rv is w' ∧ is.map IE.i = g.1 ∧ ps'.map PE.pro = g.2 ∧ Fm (OG G pv av) (OG G pv' av') B w w'
theorem GS.less {B G : Nat} {X X' : Nat → Prop} {pv av : Value} {ps : List PE} {w : World} (h : GS B X G pv av ps w) (hx : ∀ b, X' b → X b) : GS B X' G pv av ps w :=
  h.other (fun _ _ _ => rfl) (Nat.le_refl _) (fun b e => h.xlt b (hx b e)) (fun b _ hn e => hn (Or.inr (hx b e)))
/-- Code being made. -/
structure CS (B : Nat) (X : Nat → Prop) (G : Nat) (pv av : Value) (ps0 : List PE) (w0 : World) (T : Nat) (tv pv' av' : Value) (os : List IE) (ps' : List PE) (w : World) : Prop where
  gs : GS B (fun b => X b ∨ OO T tv b) G pv' av' (ps0 ++ ps') w
  ot : OT w0.heap.size T tv os w
  tg : ∀ b, OO T tv b → ¬ OG G pv' av' b
  tx : ∀ b, OO T tv b → ¬ X b
  xl : ∀ b, X b → b < w0.heap.size
  bw : B ≤ w0.heap.size
  ok : ∀ e ∈ os, e.Ok (fun b => b < w.heap.size ∧ ¬ ((OG G pv' av' b ∨ X b) ∨ OO T tv b)) w
  fm : Fm (OG G pv av) (OG G pv' av') B w0 w
section
variable {B G T : Nat} {X : Nat → Prop} {pv av tv pv1 av1 : Value} {ps0 ps1 : List PE} {os : List IE} {w0 w w' : World}
theorem OT.oolt {B T : Nat} {tv : Value} {os : List IE} {w : World} (h : OT B T tv os w) {b : Nat} (hb : OO T tv b) : B ≤ b ∧ b < w.heap.size := by
  rcases hb with e | e
  · rw [e]; exact ⟨h.bt, h.lt⟩
  · exact h.own.lt b e.symm
theorem CS.start (h : GS B X G pv av ps0 w0) (hb : Below w0.heap.size w0 w) (hT : w0.heap.size ≤ T) (hbox : w.heap[T]? = some (.cells #[.slice none 0 0] 42 (0, 0))) : CS B X G pv av ps0 w0 T (.slice none 0 0) pv av [] [] w := by
  have hTl : T < w.heap.size := (Array.getElem?_eq_some_iff.1 hbox).1
  have oo : ∀ b, OO T (.slice none 0 0) b → b = T := by
    rintro b (e | e)
    · exact e
    · simp [Value.ownBlock] at e
  refine ⟨?_, ⟨hbox, hT, World.ownsRow_nil _ _ _ _, by simp [Value.ownBlock]⟩, ?_, ?_, h.xlt, h.ble, by simp, Fm.of_below hb h.ble⟩
  · rw [List.append_nil]
    exact h.other (fun b hl _ => hb.block b hl) hb.size (fun b e => e.elim (fun e => Nat.lt_of_lt_of_le (h.xlt b e) hb.size) (fun e => by rw [oo b e]; exact hTl)) (fun b hb2 hn e => e.elim (fun e => hn (Or.inr e)) (fun e => by have := oo b e; omega))
  · intro b hb2 hg
    have := (h.oglt hg).2
    rw [oo b hb2] at this
    omega
  · intro b hb2 hx
    have := h.xlt b hx
    rw [oo b hb2] at this
    omega
theorem CS.below (h : CS B X G pv av ps0 w0 T tv pv1 av1 os ps1 w) (hb : Below w.heap.size w w') : CS B X G pv av ps0 w0 T tv pv1 av1 os ps1 w' :=
  ⟨h.gs.below hb, h.ot.below hb, h.tg, h.tx, h.xl, h.bw, fun e he => (h.ok e he).stay (fun b hl => hb.block b hl.1) (fun b hl => ⟨Nat.lt_of_lt_of_le hl.1 hb.size, hl.2⟩), h.fm.trans (Fm.of_below hb h.gs.ble)⟩
/-- A kid's code was made. -/
theorem CS.call {g : List In × List Pro} {e : Ending} (h : CS B X G pv av ps0 w0 T tv pv1 av1 os ps1 w) (hc : ToldG B (fun b => X b ∨ OO T tv b) G pv1 av1 (ps0 ++ ps1) g w e w') :
    ∃ pv2 av2 ps2 rv is, e = .returned rv ∧ CS B X G pv av ps0 w0 T tv pv2 av2 os (ps1 ++ ps2) w' ∧ GS B (fun b => (X b ∨ OO T tv b) ∨ some b = rv.ownBlock) G pv2 av2 (ps0 ++ (ps1 ++ ps2)) w' ∧ RowR w.heap.size (fun b => OG G pv2 av2 b ∨ (X b ∨ OO T tv b)) rv is w' ∧ is.map IE.i = g.1 ∧ ps2.map PE.pro = g.2 ∧ Fm (fun b => OG G pv1 av1 b ∨ (X b ∨ OO T tv b)) (fun b => OG G pv2 av2 b ∨ (X b ∨ OO T tv b)) B w w' := by
  obtain ⟨pv2, av2, ps2, rv, is, rfl, gs2, row, h1, h2, fm2⟩ := hc
  have kt : ∀ b, OO T tv b → w'.heap[b]? = w.heap[b]? := fun b hb => fm2.keep b (h.ot.oolt hb).2 (h.tg b hb)
  refine ⟨pv2, av2, ps2, rv, is, rfl, ⟨by rw [← List.append_assoc]; exact gs2.less (fun b e => Or.inl e), ⟨(kt T (Or.inl rfl)).trans h.ot.box, h.ot.bt, own_stay h.ot.own (fun g hg => kt g (Or.inr hg.symm)), h.ot.sep⟩, fun b hb e => h.tg b hb (fm2.own b (h.ot.oolt hb).2 e), h.tx, h.xl, h.bw, fun e he => ?_, h.fm.trans fm2⟩, by rw [← List.append_assoc]; exact gs2, row, h1, h2, fm2.wide⟩
  exact (h.ok e he).stay (fun b hb => fm2.keep b hb.1 (fun e => hb.2 (Or.inl (Or.inl e)))) (fun b hb => ⟨Nat.lt_of_lt_of_le hb.1 fm2.low.size, fun e => hb.2 (e.elim (fun e => e.elim (fun e => Or.inl (Or.inl (fm2.own b hb.1 e))) (fun e => Or.inl (Or.inr e))) Or.inr)⟩)
/-- Code was put behind what there is. -/
theorem CS.grow {tv2 : Value} {fs : List IE} (h : CS B X G pv av ps0 w0 T tv pv1 av1 os ps1 w) (ot2 : OT w0.heap.size T tv2 (os ++ fs) w') (fm2 : Fm (OO T tv) (OO T tv2) w0.heap.size w w')
    (hfs : ∀ e ∈ fs, e.Ok (fun b => b < w.heap.size ∧ ¬ ((OG G pv1 av1 b ∨ X b) ∨ OO T tv b)) w) :
    CS B X G pv av ps0 w0 T tv2 pv1 av1 (os ++ fs) ps1 w' ∧ Fm (fun b => OG G pv1 av1 b ∨ (X b ∨ OO T tv b)) (fun b => OG G pv1 av1 b ∨ (X b ∨ OO T tv2 b)) B w w' := by
  have hs0 := h.fm.low.size
  have hs := fm2.low.size
  have oo2 : ∀ b, OO T tv2 b → w0.heap.size ≤ b ∧ b < w'.heap.size := fun b hb => ot2.oolt hb
  have kn : ∀ b, b < w.heap.size → ¬ OO T tv b → w'.heap[b]? = w.heap[b]? := fm2.keep
  refine ⟨⟨?_, ot2, ?_, ?_, h.xl, h.bw, ?_, ?_⟩, ?_⟩
  · refine h.gs.other (fun b hb hh => kn b hb ?_) hs ?_ ?_
    · rcases hh with e | e
      · exact fun o => h.tg b o e
      · exact fun o => e (Or.inr (Or.inr o))
    · rintro b (e | e)
      · have := h.xl b e; omega
      · exact (oo2 b e).2
    · rintro b hb hn (e | e)
      · exact hn (Or.inr (Or.inl e))
      · exact hn (Or.inr (Or.inr (fm2.own b hb e)))
  · intro b ho hg
    by_cases hl : b < w.heap.size
    · exact h.tg b (fm2.own b hl ho) hg
    · exact hl (h.gs.oglt hg).2
  · intro b ho hx
    by_cases hl : b < w.heap.size
    · exact h.tx b (fm2.own b hl ho) hx
    · have := h.xl b hx; omega
  · intro e he
    have h1 : e.Ok (fun b => b < w.heap.size ∧ ¬ ((OG G pv1 av1 b ∨ X b) ∨ OO T tv b)) w := by
      rcases List.mem_append.1 he with he | he
      · exact h.ok e he
      · exact hfs e he
    exact h1.stay (fun b hb => kn b hb.1 (fun o => hb.2 (Or.inr o))) (fun b hb => ⟨Nat.lt_of_lt_of_le hb.1 hs, fun e => hb.2 (e.elim Or.inl (fun o => Or.inr (fm2.own b hb.1 o)))⟩)
  · refine ⟨h.fm.low.trans (fm2.low.mono h.bw), fun b hb ho => (kn b (by omega) (fun o => by have := (h.ot.oolt o).1; omega)).trans (h.fm.keep b hb ho), h.fm.own⟩
  · refine ⟨fm2.low.mono h.bw, fun b hb ho => kn b hb (fun o => ho (Or.inr (Or.inr o))), fun b hb ho => ?_⟩
    rcases ho with e | e | e
    · exact Or.inl e
    · exact Or.inr (Or.inl e)
    · exact Or.inr (Or.inr (fm2.own b hb e))
/-- The end: what was made is the answer. -/
theorem CS.done (h : CS B X G pv av ps0 w0 T tv pv1 av1 os ps1 w) : ToldG B X G pv av ps0 (os.map IE.i, ps1.map PE.pro) w0 (.returned tv) w := by
  refine ⟨pv1, av1, ps1, tv, os, rfl, ?_, ⟨h.ot.own, fun g hg e => ?_, fun e he => ?_⟩, rfl, rfl, h.fm⟩
  · exact h.gs.less (fun b e => e.elim Or.inl (fun o => Or.inr (Or.inr o)))
  · rcases e with e | e
    · exact h.tg g (Or.inr hg.symm) e
    · exact h.tx g (Or.inr hg.symm) e
  · exact (h.ok e he).stay (fun _ _ => rfl) (fun b hb => ⟨hb.1, fun e => hb.2 (e.elim Or.inl (fun o => Or.inr (Or.inr o)))⟩)
end
/-- One instruction is appended to a row, and nothing else is done. -/
theorem RowR.push {B0 : Nat} {O : Nat → Prop} {rv rv' : Value} {es : List IE} {w w2 w4 : World} (h : RowR B0 O rv es w) (h2 : Below w.heap.size w w2) (hB : B0 ≤ w.heap.size) (hO : ∀ b, O b → b < w.heap.size) (e : IE) (he : e.Ok (fun b => b < w.heap.size ∧ ¬ (O b ∨ some b = rv.ownBlock)) w)
    (hown : w4.ownsRow B0 46 11 rv' (es.length + 1) (flatI es ++ e.cells)) (hg : w2.grownBy w4 rv.ownBlock) (hw : rv'.ownBlock = rv.ownBlock ∨ rv'.ownBlock = some w2.heap.size) :
    RowR B0 O rv' (es ++ [e]) w4 ∧ Fm (fun b => some b = rv.ownBlock) (fun b => some b = rv'.ownBlock) B0 w w4 := by
  have hs2 := h2.size
  have hs4 := hg.size
  have kn : ∀ b, b < w.heap.size → ¬ some b = rv.ownBlock → w4.heap[b]? = w.heap[b]? := fun b hb ho => (hg.block b (by omega) ho).trans (h2.block b hb)
  refine ⟨⟨?_, fun g hg2 e2 => ?_, fun f hf => ?_⟩, (h2.mono hB).trans ((Below.refl B0 w2).grown hg (by omega) (fun k hk => (h.own.lt k hk).1)), kn, fun b hb ho => ?_⟩
  · have e1 : flatI (es ++ [e]) = flatI es ++ e.cells := by simp [flatI]
    rw [e1, List.length_append]
    exact hown
  · rcases hw with e3 | e3
    · exact h.nb g (e3 ▸ hg2) e2
    · rw [e3] at hg2
      have := Option.some.inj hg2
      have := hO g e2
      omega
  · have h1 : f.Ok (fun b => b < w.heap.size ∧ ¬ (O b ∨ some b = rv.ownBlock)) w := by
      rcases List.mem_append.1 hf with hf | hf
      · exact h.ok f hf
      · simp at hf; subst hf; exact he
    refine h1.stay (fun b hb => kn b hb.1 (fun o => hb.2 (Or.inr o))) (fun b hb => ⟨by have := hb.1; omega, fun e4 => hb.2 (e4.elim Or.inl (fun o => ?_))⟩)
    rcases hw with e3 | e3
    · rw [e3] at o; exact Or.inr o
    · rw [e3] at o; have := Option.some.inj o; have := hb.1; omega
  · rcases hw with e3 | e3
    · rw [e3] at ho; exact ho
    · rw [e3] at ho; have := Option.some.inj ho; omega
/-- An answer that is one instruction alone. -/
theorem ToldG.one {B G : Nat} {X : Nat → Prop} {pv av : Value} {ps : List PE} {w W : World} (h : GS B X G pv av ps w) (hb : Below w.heap.size w W) (e : IE) (he : e.Ok (fun b => w.heap.size ≤ b ∧ b < W.heap.size) W) :
    ToldG B X G pv av ps ([e.i], []) w (.returned (.slice (some ⟨W.heap.size, 0, none⟩) 1 1)) (W.alloc (.cells e.cells.toArray 46)) := by
  have ba : Below W.heap.size W (W.alloc (.cells e.cells.toArray 46)) := (Below.refl _ _).alloc (Nat.le_refl _) _
  have hb2 := hb.trans (ba.mono hb.size)
  have hs := hb.size
  refine ⟨pv, av, [], .slice (some ⟨W.heap.size, 0, none⟩) 1 1, [e], rfl, ?_, ⟨⟨rfl, Or.inr ⟨W.heap.size, 1, e.cells.toArray, rfl, hs, World.alloc_heap_new W _, Nat.le_refl _, by unfold maxLen; decide, rfl, ?_⟩⟩, fun g hg e2 => ?_, fun f hf => ?_⟩, rfl, rfl, Fm.of_below hb2 h.ble⟩
  · rw [List.append_nil]
    exact h.other (fun b hl _ => hb2.block b hl) hb2.size (fun b e => e.elim (fun e => Nat.lt_of_lt_of_le (h.xlt b e) hb2.size) (fun e => by simp [Value.ownBlock] at e; rw [e]; simp)) (fun b hl hn e => e.elim (fun e => hn (Or.inr e)) (fun e => by simp [Value.ownBlock] at e; omega))
  · simp [flatI, IE.cells, ic]
  · have hg' : W.heap.size = g := by simpa [Value.ownBlock] using hg
    rcases e2 with e2 | e2
    · have := (h.oglt e2).2; omega
    · have := h.xlt g e2; omega
  · simp at hf
    subst hf
    refine he.stay (fun b hb => ba.block b hb.2) (fun b hb3 => ⟨by have := ba.size; omega, ?_⟩)
    rintro ((e2 | e2) | e2)
    · have := (h.oglt e2).2; omega
    · have := h.xlt b e2; omega
    · simp [Value.ownBlock] at e2; omega
mutual
/-- No quoted symbol has a stamp. -/
def stC : Cor → Prop
  | ⟨k, i, n, lb, ow, q, ks⟩ => (k = 3 → stQ q) ∧ stCL ks
def stCL : List Cor → Prop
  | [] => True
  | c :: r => stC c ∧ stCL r
end
theorem stCL_mem : ∀ (l : List Cor), stCL l → ∀ c ∈ l, stC c
  | [], _, c, hc => by cases hc
  | x :: r, h, c, hc => by
    rw [stCL] at h
    rcases List.mem_cons.1 hc with rfl | hc
    · exact h.1
    · exact stCL_mem r h.2 c hc
theorem ckL_st (g : Cor → Nat → Int × Nat) (hg : ∀ c n, (g c n).1 = 0 → stC c) : ∀ (l : List Cor) (n : Nat), (ckL g l n).1 = 0 → stCL l
  | [], n, _ => by rw [stCL]; trivial
  | d :: r, n, h => by
    unfold ckL at h
    by_cases e : (g d n).1 = 0
    · rw [if_pos e] at h
      rw [stCL]
      exact ⟨hg d n e, ckL_st g hg r _ h⟩
    · rw [if_neg e] at h
      exact absurd h e
theorem ckC_st : ∀ (f : Nat) (ar : Int) (c : Cor) (n : Nat), (ckC f ar c n).1 = 0 → stC c
  | 0, ar, c, n, h => by simp [ckC] at h
  | f + 1, ar, ⟨k, i, nn, lb, ow, q, ks⟩, n, h => by
    unfold ckC at h
    by_cases a : 3000 < n + 1
    · rw [if_pos a] at h; simp at h
    · rw [if_neg a] at h
      by_cases b : wkids k ks.length = 0
      · simp only at h
        rw [if_pos b] at h
        by_cases c : wfields ⟨k, i, nn, lb, ow, q, ks⟩ ar = 0
        · rw [if_pos c] at h
          rw [stC]
          refine ⟨fun h3 => ?_, ckL_st _ (ckC_st f _) _ _ h⟩
          subst h3
          have : (wrong [q]).1 = 0 := by simpa [wfields] using c
          exact wrong_st this
        · rw [if_neg c] at h
          exact absurd h c
      · simp only at h
        rw [if_neg b] at h
        exact absurd h b
theorem ckB_st : ∀ (l : List Cor), ckB l = 0 → stCL l
  | [], _ => by rw [stCL]; trivial
  | c :: r, h => by
    unfold ckB at h
    by_cases e : (ckC 300 0 c 0).1 = 0
    · rw [if_pos e] at h
      rw [stCL]
      exact ⟨ckC_st 300 0 c 0 e, ckB_st r h⟩
    · rw [if_neg e] at h
      exact absurd h e
theorem wrongB_st {l : List Cor} (h : wrongB l = 0) : stCL l := by
  unfold wrongB at h
  by_cases a : 200 < l.length
  · rw [if_pos a] at h; simp at h
  · rw [if_neg a] at h; exact ckB_st l h
/-- WHAT Code PROMISES, of expressions nested so deep. -/
def CodeW (B0 B f : Nat) : Prop := ∀ (X : Nat → Prop) (G : Nat) (pv av : Value) (ps : List PE) (c : Cor) (qa ka : Option Addr) (qc kc : Nat) (w : World), okC c → smC c → stC c → sizC c ≤ 10000000 → ps.length + lamC c ≤ 10000000 → lonC c ≤ 10000000 → CvOk B0 w f c qa qc ka kc → GS B X G pv av ps w →
  Calls Try.prog 20 #[.pointer (some ⟨G, 0, none⟩), .agg (cva c qa qc ka kc)] w (ToldG B X G pv av ps (genC c 0 ps.length) w)
end Go.Proofs.Ytbbmdhkbndgdkaa
