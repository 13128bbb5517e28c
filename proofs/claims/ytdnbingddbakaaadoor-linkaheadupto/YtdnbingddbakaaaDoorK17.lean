/- Instructions: package code's named and last. What the maker has in memory. -/
import Derived.Laws.Rows
import Derived.Test.YtdnbingddbakaaaDoorK16
namespace Go.Proofs.YtdnbingddbakaaaDoor
section
set_option linter.unusedVariables false
set_option linter.unusedSimpArgs false
open Go.RowKit

/-- An instruction's cells, its value. -/
def ic (i : In) (q : Value) : Array Value := #[.int .i64 i.op, .int .i64 i.a, .int .i64 i.n, .string i.lib, .string i.own, .int .i64 i.quote.kind, .int .i64 i.quote.n, .string i.quote.name, .int .i64 i.quote.stamp, .int .i64 i.quote.lib, q]
def iv (i : In) (qa : Option Addr) (qc : Nat) : Value := .agg (ic i (.slice qa i.quote.kids.length qc))
def fill11 (W : World) (N : Nat) (x0 x1 x2 x3 x4 x5 x6 x7 x8 x9 x10 : Value) : World := (((((((((((W).setCell ⟨N, 0, none⟩ x0).setCell ⟨N, 1, none⟩ x1).setCell ⟨N, 2, none⟩ x2).setCell ⟨N, 3, none⟩ x3).setCell ⟨N, 4, none⟩ x4).setCell ⟨N, 5, none⟩ x5).setCell ⟨N, 6, none⟩ x6).setCell ⟨N, 7, none⟩ x7).setCell ⟨N, 8, none⟩ x8).setCell ⟨N, 9, none⟩ x9).setCell ⟨N, 10, none⟩ x10
theorem fill11_keep (W : World) (N : Nat) (x0 x1 x2 x3 x4 x5 x6 x7 x8 x9 x10 : Value) : Keep N W (fill11 W N x0 x1 x2 x3 x4 x5 x6 x7 x8 x9 x10) := by
  unfold fill11
  exact (((((((((((Keep.refl N W).setCell ⟨N, 0, none⟩ rfl x0).setCell ⟨N, 1, none⟩ rfl x1).setCell ⟨N, 2, none⟩ rfl x2).setCell ⟨N, 3, none⟩ rfl x3).setCell ⟨N, 4, none⟩ rfl x4).setCell ⟨N, 5, none⟩ rfl x5).setCell ⟨N, 6, none⟩ rfl x6).setCell ⟨N, 7, none⟩ rfl x7).setCell ⟨N, 8, none⟩ rfl x8).setCell ⟨N, 9, none⟩ rfl x9).setCell ⟨N, 10, none⟩ rfl x10
theorem fill11_heap {W : World} {N : Nat} {y0 y1 y2 y3 y4 y5 y6 y7 y8 y9 y10 : Value} (h : W.heap[N]? = some (.cells #[y0, y1, y2, y3, y4, y5, y6, y7, y8, y9, y10] 51 (0, 0))) (x0 x1 x2 x3 x4 x5 x6 x7 x8 x9 x10 : Value) :
    (fill11 W N x0 x1 x2 x3 x4 x5 x6 x7 x8 x9 x10).heap[N]? = some (.cells #[x0, x1, x2, x3, x4, x5, x6, x7, x8, x9, x10] 51 (0, 0)) := by
  have h0 := heap_setCell_same (W) N 0 #[y0, y1, y2, y3, y4, y5, y6, y7, y8, y9, y10] 51 x0 h
  rw [show (#[y0, y1, y2, y3, y4, y5, y6, y7, y8, y9, y10] : Array Value).setIfInBounds 0 x0 = #[x0, y1, y2, y3, y4, y5, y6, y7, y8, y9, y10] from rfl] at h0
  have h1 := heap_setCell_same ((W).setCell ⟨N, 0, none⟩ x0) N 1 #[x0, y1, y2, y3, y4, y5, y6, y7, y8, y9, y10] 51 x1 h0
  rw [show (#[x0, y1, y2, y3, y4, y5, y6, y7, y8, y9, y10] : Array Value).setIfInBounds 1 x1 = #[x0, x1, y2, y3, y4, y5, y6, y7, y8, y9, y10] from rfl] at h1
  have h2 := heap_setCell_same (((W).setCell ⟨N, 0, none⟩ x0).setCell ⟨N, 1, none⟩ x1) N 2 #[x0, x1, y2, y3, y4, y5, y6, y7, y8, y9, y10] 51 x2 h1
  rw [show (#[x0, x1, y2, y3, y4, y5, y6, y7, y8, y9, y10] : Array Value).setIfInBounds 2 x2 = #[x0, x1, x2, y3, y4, y5, y6, y7, y8, y9, y10] from rfl] at h2
  have h3 := heap_setCell_same ((((W).setCell ⟨N, 0, none⟩ x0).setCell ⟨N, 1, none⟩ x1).setCell ⟨N, 2, none⟩ x2) N 3 #[x0, x1, x2, y3, y4, y5, y6, y7, y8, y9, y10] 51 x3 h2
  rw [show (#[x0, x1, x2, y3, y4, y5, y6, y7, y8, y9, y10] : Array Value).setIfInBounds 3 x3 = #[x0, x1, x2, x3, y4, y5, y6, y7, y8, y9, y10] from rfl] at h3
  have h4 := heap_setCell_same (((((W).setCell ⟨N, 0, none⟩ x0).setCell ⟨N, 1, none⟩ x1).setCell ⟨N, 2, none⟩ x2).setCell ⟨N, 3, none⟩ x3) N 4 #[x0, x1, x2, x3, y4, y5, y6, y7, y8, y9, y10] 51 x4 h3
  rw [show (#[x0, x1, x2, x3, y4, y5, y6, y7, y8, y9, y10] : Array Value).setIfInBounds 4 x4 = #[x0, x1, x2, x3, x4, y5, y6, y7, y8, y9, y10] from rfl] at h4
  have h5 := heap_setCell_same ((((((W).setCell ⟨N, 0, none⟩ x0).setCell ⟨N, 1, none⟩ x1).setCell ⟨N, 2, none⟩ x2).setCell ⟨N, 3, none⟩ x3).setCell ⟨N, 4, none⟩ x4) N 5 #[x0, x1, x2, x3, x4, y5, y6, y7, y8, y9, y10] 51 x5 h4
  rw [show (#[x0, x1, x2, x3, x4, y5, y6, y7, y8, y9, y10] : Array Value).setIfInBounds 5 x5 = #[x0, x1, x2, x3, x4, x5, y6, y7, y8, y9, y10] from rfl] at h5
  have h6 := heap_setCell_same (((((((W).setCell ⟨N, 0, none⟩ x0).setCell ⟨N, 1, none⟩ x1).setCell ⟨N, 2, none⟩ x2).setCell ⟨N, 3, none⟩ x3).setCell ⟨N, 4, none⟩ x4).setCell ⟨N, 5, none⟩ x5) N 6 #[x0, x1, x2, x3, x4, x5, y6, y7, y8, y9, y10] 51 x6 h5
  rw [show (#[x0, x1, x2, x3, x4, x5, y6, y7, y8, y9, y10] : Array Value).setIfInBounds 6 x6 = #[x0, x1, x2, x3, x4, x5, x6, y7, y8, y9, y10] from rfl] at h6
  have h7 := heap_setCell_same ((((((((W).setCell ⟨N, 0, none⟩ x0).setCell ⟨N, 1, none⟩ x1).setCell ⟨N, 2, none⟩ x2).setCell ⟨N, 3, none⟩ x3).setCell ⟨N, 4, none⟩ x4).setCell ⟨N, 5, none⟩ x5).setCell ⟨N, 6, none⟩ x6) N 7 #[x0, x1, x2, x3, x4, x5, x6, y7, y8, y9, y10] 51 x7 h6
  rw [show (#[x0, x1, x2, x3, x4, x5, x6, y7, y8, y9, y10] : Array Value).setIfInBounds 7 x7 = #[x0, x1, x2, x3, x4, x5, x6, x7, y8, y9, y10] from rfl] at h7
  have h8 := heap_setCell_same (((((((((W).setCell ⟨N, 0, none⟩ x0).setCell ⟨N, 1, none⟩ x1).setCell ⟨N, 2, none⟩ x2).setCell ⟨N, 3, none⟩ x3).setCell ⟨N, 4, none⟩ x4).setCell ⟨N, 5, none⟩ x5).setCell ⟨N, 6, none⟩ x6).setCell ⟨N, 7, none⟩ x7) N 8 #[x0, x1, x2, x3, x4, x5, x6, x7, y8, y9, y10] 51 x8 h7
  rw [show (#[x0, x1, x2, x3, x4, x5, x6, x7, y8, y9, y10] : Array Value).setIfInBounds 8 x8 = #[x0, x1, x2, x3, x4, x5, x6, x7, x8, y9, y10] from rfl] at h8
  have h9 := heap_setCell_same ((((((((((W).setCell ⟨N, 0, none⟩ x0).setCell ⟨N, 1, none⟩ x1).setCell ⟨N, 2, none⟩ x2).setCell ⟨N, 3, none⟩ x3).setCell ⟨N, 4, none⟩ x4).setCell ⟨N, 5, none⟩ x5).setCell ⟨N, 6, none⟩ x6).setCell ⟨N, 7, none⟩ x7).setCell ⟨N, 8, none⟩ x8) N 9 #[x0, x1, x2, x3, x4, x5, x6, x7, x8, y9, y10] 51 x9 h8
  rw [show (#[x0, x1, x2, x3, x4, x5, x6, x7, x8, y9, y10] : Array Value).setIfInBounds 9 x9 = #[x0, x1, x2, x3, x4, x5, x6, x7, x8, x9, y10] from rfl] at h9
  have h10 := heap_setCell_same (((((((((((W).setCell ⟨N, 0, none⟩ x0).setCell ⟨N, 1, none⟩ x1).setCell ⟨N, 2, none⟩ x2).setCell ⟨N, 3, none⟩ x3).setCell ⟨N, 4, none⟩ x4).setCell ⟨N, 5, none⟩ x5).setCell ⟨N, 6, none⟩ x6).setCell ⟨N, 7, none⟩ x7).setCell ⟨N, 8, none⟩ x8).setCell ⟨N, 9, none⟩ x9) N 10 #[x0, x1, x2, x3, x4, x5, x6, x7, x8, x9, y10] 51 x10 h9
  rw [show (#[x0, x1, x2, x3, x4, x5, x6, x7, x8, x9, y10] : Array Value).setIfInBounds 10 x10 = #[x0, x1, x2, x3, x4, x5, x6, x7, x8, x9, x10] from rfl] at h10
  exact h10
end
section
set_option linter.unusedVariables false
set_option linter.unusedSimpArgs false
open Go.RowKit

/-- An instruction, and where what it quotes lies. -/
structure IE where
  i : In
  qa : Option Addr
  qc : Nat
def IE.cells (e : IE) : List Value := (ic e.i (.slice e.qa e.i.quote.kids.length e.qc)).toList
def flatI (es : List IE) : List Value := es.flatMap IE.cells
theorem IE.len (e : IE) : e.cells.length = 11 := rfl
theorem flatI_cons (e : IE) (r : List IE) : flatI (e :: r) = e.cells ++ flatI r := by simp [flatI]
theorem flatI_append (a b : List IE) : flatI (a ++ b) = flatI a ++ flatI b := by simp [flatI]
theorem flatI_len : ∀ (es : List IE), (flatI es).length = es.length * 11
  | [] => rfl
  | e :: r => by rw [flatI_cons, List.length_append, e.len, flatI_len r, List.length_cons]; omega
theorem IE.one (e : IE) : ∀ u ∈ e.cells, u.oneCell' = true := by
  intro u hu
  simp [IE.cells, ic] at hu
  rcases hu with rfl | rfl | rfl | rfl | rfl | rfl | rfl | rfl | rfl | rfl | rfl <;> rfl
/-- A procedure, and where its code lies. -/
structure PE where
  args : Int
  es : List IE
  a : Option Addr
  c : Nat
def PE.cells (p : PE) : List Value := [.int .i64 p.args, .slice p.a p.es.length p.c]
def flatP (ps : List PE) : List Value := ps.flatMap PE.cells
theorem flatP_cons (e : PE) (r : List PE) : flatP (e :: r) = e.cells ++ flatP r := by simp [flatP]
theorem flatP_append (a b : List PE) : flatP (a ++ b) = flatP a ++ flatP b := by simp [flatP]
theorem flatP_len : ∀ (es : List PE), (flatP es).length = es.length * 2
  | [] => rfl
  | e :: r => by rw [flatP_cons, List.length_append, flatP_len r, List.length_cons]; simp [PE.cells]; omega
def PE.pro (p : PE) : Pro := ⟨p.args, p.es.map IE.i⟩

def IE.Ok (ok : Nat → Prop) (w : World) (e : IE) : Prop :=
  e.i.lib.size ≤ maxLen ∧ e.i.own.size ≤ maxLen ∧ e.i.quote.name.size ≤ maxLen ∧ e.i.quote.kids.length ≤ e.qc ∧ ∃ f, Dc ok w f e.qa e.i.quote.kids
theorem IE.Ok.stay {ok ok' : Nat → Prop} {w w' : World} {e : IE} (h : e.Ok ok w) (hw : ∀ k, ok k → w'.heap[k]? = w.heap[k]?) (ho : ∀ k, ok k → ok' k) : e.Ok ok' w' := by
  obtain ⟨h1, h2, h3, h4, f, h5⟩ := h
  exact ⟨h1, h2, h3, h4, f, Dc.stay hw ho f _ _ h5⟩
def PE.Ok (ok : Nat → Prop) (w : World) (p : PE) : Prop :=
  p.es.length ≤ p.c ∧ (p.es = [] ∨ ∃ b, p.a = some ⟨b, 0, none⟩ ∧ ok b ∧ ∀ j u, (flatI p.es)[j]? = some u → w.cell? ⟨b, j, none⟩ = some u) ∧ ∀ e ∈ p.es, e.Ok ok w
theorem PE.Ok.stay {ok ok' : Nat → Prop} {w w' : World} {p : PE} (h : p.Ok ok w) (hw : ∀ k, ok k → w'.heap[k]? = w.heap[k]?) (ho : ∀ k, ok k → ok' k) : p.Ok ok' w' := by
  obtain ⟨h1, h2, h3⟩ := h
  refine ⟨h1, ?_, fun e he => (h3 e he).stay hw ho⟩
  rcases h2 with h2 | ⟨b, ha, hb, h2⟩
  · exact Or.inl h2
  · exact Or.inr ⟨b, ha, ho b hb, fun j u hu => (World.cell?_of_block (a := ⟨b, j, none⟩) (hw b hb)).trans (h2 j u hu)⟩
end
end Go.Proofs.YtdnbingddbakaaaDoor
