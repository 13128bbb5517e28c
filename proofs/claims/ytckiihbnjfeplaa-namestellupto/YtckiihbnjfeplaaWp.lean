/- Rows of pairs that a call makes by append. -/
import Derived.Test.YtckiihbnjfeplaaWc
import Derived.Test.YtckiihbnjfeplaaSb
import Derived.Laws.AppendOwn
namespace Go.Proofs.Ytckiihbnjfeplaa
set_option linter.unusedVariables false
set_option linter.unusedSimpArgs false
open Go.RowKit Go.Maps Go.WideMaps

def encP (p : Pr) : List Value := [.string p.1, .string p.2]
def flatP (ps : List Pr) : List Value := ps.flatMap encP

/-- v is a row of pairs of the call's own, in a block from B on. -/
def RowP (B : Nat) (v : Value) (ps : List Pr) (w : World) : Prop := w.ownsRow B 43 2 v ps.length (flatP ps)

theorem RowP.nil (B : Nat) (w : World) : RowP B (.slice none 0 0) [] w := World.ownsRow_nil _ _ _ _
theorem RowP.below {B : Nat} {v : Value} {ps : List Pr} {w w' : World} (h : RowP B v ps w) (hk : Below w.heap.size w w') : RowP B v ps w' :=
  h.kept (row := none) ⟨hk.os, hk.tape, hk.output, hk.size, fun k h1 _ => hk.block k h1⟩ (by cases hv : v.ownBlock <;> simp)
theorem RowP.alloc {B : Nat} {v : Value} {ps : List Pr} {w : World} (h : RowP B v ps w) (o : Obj) : RowP B v ps (w.alloc o) := h.below ((Below.refl _ _).alloc (Nat.le_refl _) _)

theorem addr_add (g j : Nat) : (⟨g, 0, none⟩ : Addr).add j = ⟨g, j, none⟩ := by unfold Addr.add; split <;> simp_all

theorem flatP_at : ∀ {ps : List Pr} {i : Nat} {p : Pr}, ps[i]? = some p → (flatP ps)[i * 2]? = some (.string p.1) ∧ (flatP ps)[i * 2 + 1]? = some (.string p.2)
  | [], i, p, h => by simp at h
  | x :: r, 0, p, h => by
    simp at h
    subst h
    simp [flatP, encP]
  | x :: r, i + 1, p, h => by
    have ih := flatP_at (ps := r) (i := i) (p := p) (by simpa using h)
    have e : flatP (x :: r) = [.string x.1, .string x.2] ++ flatP r := by simp [flatP, encP]
    rw [e]
    refine ⟨?_, ?_⟩
    · rw [List.getElem?_append_right (by simp; omega)]
      have : (i + 1) * 2 - [Value.string x.1, .string x.2].length = i * 2 := by simp; omega
      rw [this]
      exact ih.1
    · rw [List.getElem?_append_right (by simp; omega)]
      have : (i + 1) * 2 + 1 - [Value.string x.1, .string x.2].length = i * 2 + 1 := by simp; omega
      rw [this]
      exact ih.2

/-- What a row's value is, and how its pairs lie. -/
theorem RowP.lie {B : Nat} {v : Value} {ps : List Pr} {w : World} (h : RowP B v ps w) (hlen : ps.length ≤ 9223372036854775807) : ∃ a cap, v = .slice a ps.length cap ∧ Prs w.heap.size w a ps := by
  rcases h.2 with ⟨rfl, h0⟩ | ⟨g, cap, cur, rfl, hbg, hg, hnc, hcm, hcs, htake⟩
  · have : ps = [] := List.length_eq_zero_iff.1 h0
    subst this
    exact ⟨none, 0, rfl, by simp, Or.inl rfl⟩
  · refine ⟨some ⟨g, 0, none⟩, cap, rfl, hlen, Or.inr ⟨g, 0, rfl, (Array.getElem?_eq_some_iff.1 hg).1, ?_⟩⟩
    intro i p hp
    have hcell : ∀ j u, (flatP ps)[j]? = some u → w.cell? ⟨g, j, none⟩ = some u := by
      intro j u hu
      have := h.cells (g := g) rfl j u hu
      rwa [addr_add] at this
    rw [Nat.zero_add]
    exact ⟨hcell _ _ (flatP_at hp).1, hcell _ _ (flatP_at hp).2⟩
theorem RowP.form {B : Nat} {v : Value} {ps : List Pr} {w : World} (h : RowP B v ps w) : ∃ a cap, v = .slice a ps.length cap := by
  rcases h.2 with ⟨rfl, h0⟩ | ⟨g, cap, cur, rfl, _⟩
  · have : ps = [] := List.length_eq_zero_iff.1 h0
    subst this
    exact ⟨none, 0, rfl⟩
  · exact ⟨_, cap, rfl⟩

theorem infoPair : (Try.prog.info? 43).map (fun i => (i.zero, i.size, i.bytes)) = some (some (.agg #[.string ⟨#[]⟩, .string ⟨#[]⟩]), 2, 32) := by kernel_rfl

/-- One pair more. -/
theorem wpList_pushP {ops : Array Oper} {rest : List Oper} {o : Oper} {a : Act} {Q : Exit → Act → World → Prop} {w0 : World} (p1 p2 : ByteArray) (ab : Nat) (hgd : o.guard = none) (s x : Operand)
    (ho : o.op = .call { callee := .builtin .append, args := #[s, x], argTypes := #[27, 27] }) (B : Nat) (v : Value) (ps : List Pr) (hs : a.eval s = v) (hrow : RowP B v ps w0)
    (hx : a.eval x = .slice (some ⟨ab, 0, none⟩) 1 1) (hab : ab = w0.heap.size) (hB : B ≤ w0.heap.size) (hlen : ps.length ≤ 1000000)
    (h : ∀ at' cap' w', RowP B (.slice at' (ps.length + 1) cap') (ps ++ [(p1, p2)]) w' → Below B w0 w' → wpList Try.prog ops Q rest (a.put o.dst (.slice at' (ps.length + 1) cap')) w') :
    wpList Try.prog ops Q (o :: rest) a (w0.alloc (.cells #[.string p1, .string p2] 43)) := by
  subst hab
  obtain ⟨i0, hinf, hz0, hz1, hz2⟩ := info_parts infoPair
  refine wpList_append_own _ hgd s x 27 ho B 43 i0 _ 2 32 Try.underlying27 hinf hz0 hz1 hz2 rfl (by decide) v ps.length (flatP ps) hs (World.ownsRow.alloc hrow _) ⟨w0.heap.size, 0, none⟩ 1 1 [.string p1, .string p2] hx rfl ?_ ?_ ?_ ?_ ?_ ?_
  · intro q u hq
    have hcell := World.cell?_alloc_mark w0 #[.string p1, .string p2] 43 (0, 0) q
    rw [addr_add, hcell]
    simpa using hq
  · intro u hu
    simp at hu
    rcases hu with rfl | rfl <;> rfl
  · unfold maxLen; omega
  · omega
  · simp; omega
  · intro v' w' hown hg _
    have hrow' : RowP B v' (ps ++ [(p1, p2)]) w' := by
      unfold RowP
      rw [show flatP (ps ++ [(p1, p2)]) = flatP ps ++ [.string p1, .string p2] by simp [flatP, encP], List.length_append]
      exact hown
    obtain ⟨at', cap', hv⟩ := hrow'.form
    rw [List.length_append] at hv
    simp only [List.length_cons, List.length_nil, Nat.zero_add] at hv
    subst hv
    refine h at' cap' w' hrow' ?_
    refine Below.grown ((Below.refl _ _).alloc hB _) hg (by simp; omega) ?_
    intro k hk
    exact (World.ownsRow.lt hrow k hk).1

theorem Prs.at {B : Nat} {w : World} {a : Option Addr} {ps : List Pr} (h : Prs B w a ps) {j : Nat} (hj : j < ps.length) :
    ∃ b o p, a = some ⟨b, o, none⟩ ∧ b < B ∧ ps[j]? = some p ∧ w.cell? ⟨b, o + j * 2, none⟩ = some (.string p.1) ∧ w.cell? ⟨b, o + j * 2 + 1, none⟩ = some (.string p.2) := by
  obtain ⟨_, h⟩ := h
  rcases h with h | ⟨b, o, ha, hb, h⟩
  · subst h; simp at hj
  · obtain ⟨c0, c1⟩ := h j _ (List.getElem?_eq_getElem hj)
    exact ⟨b, o, ps[j], ha, hb, List.getElem?_eq_getElem hj, c0, c1⟩
theorem Prs.old {B B' : Nat} {w w' : World} {a : Option Addr} {ps : List Pr} (h : Prs B w a ps) (hw : Old B w w') (hB : B ≤ B') : Prs B' w' a ps := by
  obtain ⟨hl, h⟩ := h
  refine ⟨hl, ?_⟩
  rcases h with h | ⟨b, o, ha, hb, h⟩
  · exact Or.inl h
  · refine Or.inr ⟨b, o, ha, Nat.lt_of_lt_of_le hb hB, fun i p hp => ?_⟩
    obtain ⟨c0, c1⟩ := h i p hp
    exact ⟨(hw.cell hb _).trans c0, (hw.cell hb _).trans c1⟩

end Go.Proofs.Ytckiihbnjfeplaa
