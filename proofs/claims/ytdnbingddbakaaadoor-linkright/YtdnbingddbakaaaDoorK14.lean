/- Instructions: package code's named and last. What the maker has in memory. Chapter 9: the document's own Kind, and Own of a global. -/
import Derived.Laws.Rows
import Derived.Test.YtdnbingddbakaaaDoorK12
import Derived.Test.YtdnbingddbakaaaDoorK13
namespace Go.Proofs.YtdnbingddbakaaaDoor
section
set_option linter.unusedVariables false
set_option linter.unusedSimpArgs false
open Go.RowKit

/-- An instruction's cells, its value. -/
def ic (i : In) (q : Value) : Array Value := #[.int .i64 i.op, .int .i64 i.a, .int .i64 i.n, .string i.lib, .string i.own, .int .i64 i.quote.kind, .int .i64 i.quote.n, .string i.quote.name, .int .i64 i.quote.stamp, .int .i64 i.quote.lib, q]
def iv (i : In) (qa : Option Addr) (qc : Nat) : Value := .agg (ic i (.slice qa i.quote.kids.length qc))
def fill11 (W : World) (N : Nat) (x0 x1 x2 x3 x4 x5 x6 x7 x8 x9 x10 : Value) : World := (((((((((((W).setCell ⟨N, 0, none⟩ x0).setCell ⟨N, 1, none⟩ x1).setCell ⟨N, 2, none⟩ x2).setCell ⟨N, 3, none⟩ x3).setCell ⟨N, 4, none⟩ x4).setCell ⟨N, 5, none⟩ x5).setCell ⟨N, 6, none⟩ x6).setCell ⟨N, 7, none⟩ x7).setCell ⟨N, 8, none⟩ x8).setCell ⟨N, 9, none⟩ x9).setCell ⟨N, 10, none⟩ x10
theorem fill11_keep (W : World) (N : Nat) (x0 x1 x2 x3 x4 x5 x6 x7 x8 x9 x10 : Value) : Keep N W (fill11 W N x0 x1 x2 x3 x4 x5 x6 x7 x8 x9 x10) := by
  unfold fill11
  exact (((((((((((Keep.refl N W).setCell ⟨N, 0, none⟩ rfl x0).setCell ⟨N, 1, none⟩ rfl x1).setCell ⟨N, 2, none⟩ rfl x2).setCell ⟨N, 3, none⟩ rfl x3).setCell ⟨N, 4, none⟩ rfl x4).setCell ⟨N, 5, none⟩ rfl x5).setCell ⟨N, 6, none⟩ rfl x6).setCell ⟨N, 7, none⟩ rfl x7).setCell ⟨N, 8, none⟩ rfl x8).setCell ⟨N, 9, none⟩ rfl x9).setCell ⟨N, 10, none⟩ rfl x10
theorem fill11_heap {W : World} {N : Nat} {y0 y1 y2 y3 y4 y5 y6 y7 y8 y9 y10 : Value} (h : W.heap[N]? = some (.cells #[y0, y1, y2, y3, y4, y5, y6, y7, y8, y9, y10] 51 (0, 0))) (x0 x1 x2 x3 x4 x5 x6 x7 x8 x9 x10 : Value) :
    (fill11 W N x0 x1 x2 x3 x4 x5 x6 x7 x8 x9 x10).heap[N]? = some (.cells #[x0, x1, x2, x3, x4, x5, x6, x7, x8, x9, x10] 51 (0, 0)) := by
  have h0 := heap_setCell_same (W) N 0 #[y0, y1, y2, y3, y4, y5, y6, y7, y8, y9, y10] 51 x0 h
  rw [show (#[y0, y1, y2, y3, y4, y5, y6, y7, y8, y9, y10] : Array Value).setIfInBounds 0 x0 = #[x0, y1, y2, y3, y4, y5, y6, y7, y8, y9, y10] from rfl] at h0
  have h1 := heap_setCell_same ((W).setCell ⟨N, 0, none⟩ x0) N 1 #[x0, y1, y2, y3, y4, y5, y6, y7, y8, y9, y10] 51 x1 h0
  rw [show (#[x0, y1, y2, y3, y4, y5, y6, y7, y8, y9, y10] : Array Value).setIfInBounds 1 x1 = #[x0, x1, y2, y3, y4, y5, y6, y7, y8, y9, y10] from rfl] at h1
  have h2 := heap_setCell_same (((W).setCell ⟨N, 0, none⟩ x0).setCell ⟨N, 1, none⟩ x1) N 2 #[x0, x1, y2, y3, y4, y5, y6, y7, y8, y9, y10] 51 x2 h1
  rw [show (#[x0, x1, y2, y3, y4, y5, y6, y7, y8, y9, y10] : Array Value).setIfInBounds 2 x2 = #[x0, x1, x2, y3, y4, y5, y6, y7, y8, y9, y10] from rfl] at h2
  have h3 := heap_setCell_same ((((W).setCell ⟨N, 0, none⟩ x0).setCell ⟨N, 1, none⟩ x1).setCell ⟨N, 2, none⟩ x2) N 3 #[x0, x1, x2, y3, y4, y5, y6, y7, y8, y9, y10] 51 x3 h2
  rw [show (#[x0, x1, x2, y3, y4, y5, y6, y7, y8, y9, y10] : Array Value).setIfInBounds 3 x3 = #[x0, x1, x2, x3, y4, y5, y6, y7, y8, y9, y10] from rfl] at h3
  have h4 := heap_setCell_same (((((W).setCell ⟨N, 0, none⟩ x0).setCell ⟨N, 1, none⟩ x1).setCell ⟨N, 2, none⟩ x2).setCell ⟨N, 3, none⟩ x3) N 4 #[x0, x1, x2, x3, y4, y5, y6, y7, y8, y9, y10] 51 x4 h3
  rw [show (#[x0, x1, x2, x3, y4, y5, y6, y7, y8, y9, y10] : Array Value).setIfInBounds 4 x4 = #[x0, x1, x2, x3, x4, y5, y6, y7, y8, y9, y10] from rfl] at h4
  have h5 := heap_setCell_same ((((((W).setCell ⟨N, 0, none⟩ x0).setCell ⟨N, 1, none⟩ x1).setCell ⟨N, 2, none⟩ x2).setCell ⟨N, 3, none⟩ x3).setCell ⟨N, 4, none⟩ x4) N 5 #[x0, x1, x2, x3, x4, y5, y6, y7, y8, y9, y10] 51 x5 h4
  rw [show (#[x0, x1, x2, x3, x4, y5, y6, y7, y8, y9, y10] : Array Value).setIfInBounds 5 x5 = #[x0, x1, x2, x3, x4, x5, y6, y7, y8, y9, y10] from rfl] at h5
  have h6 := heap_setCell_same (((((((W).setCell ⟨N, 0, none⟩ x0).setCell ⟨N, 1, none⟩ x1).setCell ⟨N, 2, none⟩ x2).setCell ⟨N, 3, none⟩ x3).setCell ⟨N, 4, none⟩ x4).setCell ⟨N, 5, none⟩ x5) N 6 #[x0, x1, x2, x3, x4, x5, y6, y7, y8, y9, y10] 51 x6 h5
  rw [show (#[x0, x1, x2, x3, x4, x5, y6, y7, y8, y9, y10] : Array Value).setIfInBounds 6 x6 = #[x0, x1, x2, x3, x4, x5, x6, y7, y8, y9, y10] from rfl] at h6
  have h7 := heap_setCell_same ((((((((W).setCell ⟨N, 0, none⟩ x0).setCell ⟨N, 1, none⟩ x1).setCell ⟨N, 2, none⟩ x2).setCell ⟨N, 3, none⟩ x3).setCell ⟨N, 4, none⟩ x4).setCell ⟨N, 5, none⟩ x5).setCell ⟨N, 6, none⟩ x6) N 7 #[x0, x1, x2, x3, x4, x5, x6, y7, y8, y9, y10] 51 x7 h6
  rw [show (#[x0, x1, x2, x3, x4, x5, x6, y7, y8, y9, y10] : Array Value).setIfInBounds 7 x7 = #[x0, x1, x2, x3, x4, x5, x6, x7, y8, y9, y10] from rfl] at h7
  have h8 := heap_setCell_same (((((((((W).setCell ⟨N, 0, none⟩ x0).setCell ⟨N, 1, none⟩ x1).setCell ⟨N, 2, none⟩ x2).setCell ⟨N, 3, none⟩ x3).setCell ⟨N, 4, none⟩ x4).setCell ⟨N, 5, none⟩ x5).setCell ⟨N, 6, none⟩ x6).setCell ⟨N, 7, none⟩ x7) N 8 #[x0, x1, x2, x3, x4, x5, x6, x7, y8, y9, y10] 51 x8 h7
  rw [show (#[x0, x1, x2, x3, x4, x5, x6, x7, y8, y9, y10] : Array Value).setIfInBounds 8 x8 = #[x0, x1, x2, x3, x4, x5, x6, x7, x8, y9, y10] from rfl] at h8
  have h9 := heap_setCell_same ((((((((((W).setCell ⟨N, 0, none⟩ x0).setCell ⟨N, 1, none⟩ x1).setCell ⟨N, 2, none⟩ x2).setCell ⟨N, 3, none⟩ x3).setCell ⟨N, 4, none⟩ x4).setCell ⟨N, 5, none⟩ x5).setCell ⟨N, 6, none⟩ x6).setCell ⟨N, 7, none⟩ x7).setCell ⟨N, 8, none⟩ x8) N 9 #[x0, x1, x2, x3, x4, x5, x6, x7, x8, y9, y10] 51 x9 h8
  rw [show (#[x0, x1, x2, x3, x4, x5, x6, x7, x8, y9, y10] : Array Value).setIfInBounds 9 x9 = #[x0, x1, x2, x3, x4, x5, x6, x7, x8, x9, y10] from rfl] at h9
  have h10 := heap_setCell_same (((((((((((W).setCell ⟨N, 0, none⟩ x0).setCell ⟨N, 1, none⟩ x1).setCell ⟨N, 2, none⟩ x2).setCell ⟨N, 3, none⟩ x3).setCell ⟨N, 4, none⟩ x4).setCell ⟨N, 5, none⟩ x5).setCell ⟨N, 6, none⟩ x6).setCell ⟨N, 7, none⟩ x7).setCell ⟨N, 8, none⟩ x8).setCell ⟨N, 9, none⟩ x9) N 10 #[x0, x1, x2, x3, x4, x5, x6, x7, x8, x9, y10] 51 x10 h9
  rw [show (#[x0, x1, x2, x3, x4, x5, x6, x7, x8, x9, y10] : Array Value).setIfInBounds 10 x10 = #[x0, x1, x2, x3, x4, x5, x6, x7, x8, x9, x10] from rfl] at h10
  exact h10
end
section
set_option linter.unusedVariables false
set_option linter.unusedSimpArgs false
open Go.RowKit

/-- An instruction, and where what it quotes lies. -/
structure IE where
  i : In
  qa : Option Addr
  qc : Nat
def IE.cells (e : IE) : List Value := (ic e.i (.slice e.qa e.i.quote.kids.length e.qc)).toList
def flatI (es : List IE) : List Value := es.flatMap IE.cells
theorem IE.len (e : IE) : e.cells.length = 11 := rfl
theorem flatI_cons (e : IE) (r : List IE) : flatI (e :: r) = e.cells ++ flatI r := by simp [flatI]
theorem flatI_append (a b : List IE) : flatI (a ++ b) = flatI a ++ flatI b := by simp [flatI]
theorem flatI_len : ∀ (es : List IE), (flatI es).length = es.length * 11
  | [] => rfl
  | e :: r => by rw [flatI_cons, List.length_append, e.len, flatI_len r, List.length_cons]; omega
theorem IE.one (e : IE) : ∀ u ∈ e.cells, u.oneCell' = true := by
  intro u hu
  simp [IE.cells, ic] at hu
  rcases hu with rfl | rfl | rfl | rfl | rfl | rfl | rfl | rfl | rfl | rfl | rfl <;> rfl
/-- A procedure, and where its code lies. -/
structure PE where
  args : Int
  es : List IE
  a : Option Addr
  c : Nat
def PE.cells (p : PE) : List Value := [.int .i64 p.args, .slice p.a p.es.length p.c]
def flatP (ps : List PE) : List Value := ps.flatMap PE.cells
theorem flatP_cons (e : PE) (r : List PE) : flatP (e :: r) = e.cells ++ flatP r := by simp [flatP]
theorem flatP_append (a b : List PE) : flatP (a ++ b) = flatP a ++ flatP b := by simp [flatP]
theorem flatP_len : ∀ (es : List PE), (flatP es).length = es.length * 2
  | [] => rfl
  | e :: r => by rw [flatP_cons, List.length_append, flatP_len r, List.length_cons]; simp [PE.cells]; omega
def PE.pro (p : PE) : Pro := ⟨p.args, p.es.map IE.i⟩

def IE.Ok (ok : Nat → Prop) (w : World) (e : IE) : Prop :=
  e.i.lib.size ≤ maxLen ∧ e.i.own.size ≤ maxLen ∧ e.i.quote.name.size ≤ maxLen ∧ e.i.quote.kids.length ≤ e.qc ∧ ∃ f, Dc ok w f e.qa e.i.quote.kids
theorem IE.Ok.stay {ok ok' : Nat → Prop} {w w' : World} {e : IE} (h : e.Ok ok w) (hw : ∀ k, ok k → w'.heap[k]? = w.heap[k]?) (ho : ∀ k, ok k → ok' k) : e.Ok ok' w' := by
  obtain ⟨h1, h2, h3, h4, f, h5⟩ := h
  exact ⟨h1, h2, h3, h4, f, Dc.stay hw ho f _ _ h5⟩
def PE.Ok (ok : Nat → Prop) (w : World) (p : PE) : Prop :=
  p.es.length ≤ p.c ∧ (p.es = [] ∨ ∃ b, p.a = some ⟨b, 0, none⟩ ∧ ok b ∧ ∀ j u, (flatI p.es)[j]? = some u → w.cell? ⟨b, j, none⟩ = some u) ∧ ∀ e ∈ p.es, e.Ok ok w
theorem PE.Ok.stay {ok ok' : Nat → Prop} {w w' : World} {p : PE} (h : p.Ok ok w) (hw : ∀ k, ok k → w'.heap[k]? = w.heap[k]?) (ho : ∀ k, ok k → ok' k) : p.Ok ok' w' := by
  obtain ⟨h1, h2, h3⟩ := h
  refine ⟨h1, ?_, fun e he => (h3 e he).stay hw ho⟩
  rcases h2 with h2 | ⟨b, ha, hb, h2⟩
  · exact Or.inl h2
  · exact Or.inr ⟨b, ha, ho b hb, fun j u hu => (World.cell?_of_block (a := ⟨b, j, none⟩) (hw b hb)).trans (h2 j u hu)⟩
end
section
set_option linter.unusedVariables false
set_option linter.unusedSimpArgs false
open Go.RowKit

def kindTab : List Int := [110, 110, 113, 108, 103, 112, 99, 97, 106, 106, 108, 103, 103, 45, 45]
/-- What an instruction has, by a letter. -/
def kindB (op : Int) : Int := if op < 1 ∨ 15 < op then 0 else kindTab.getD (op - 1).toNat 0
set_option maxHeartbeats 800000 in
theorem Kind_any (op : Int) (w : World) : Calls Tryd.prog 18 #[.int .i64 op] w fun r w' => r = .returned (.int .u8 (kindB op)) ∧ w' = w := by
  by_cases c1 : op < 1
  · rw [show kindB op = 0 by unfold kindB; rw [if_pos (Or.inl c1)]]
    go_enter Tryd.func18, Tryd.ntmps18
    go_wp2_with fail
    go_ret
    exact ⟨rfl, rfl⟩
  by_cases c2 : 15 < op
  · rw [show kindB op = 0 by unfold kindB; rw [if_pos (Or.inr c2)]]
    go_enter Tryd.func18, Tryd.ntmps18
    go_wp2_with fail
    go_ret
    exact ⟨rfl, rfl⟩
  have kk : op = 1 ∨ op = 2 ∨ op = 3 ∨ op = 4 ∨ op = 5 ∨ op = 6 ∨ op = 7 ∨ op = 8 ∨ op = 9 ∨ op = 10 ∨ op = 11 ∨ op = 12 ∨ op = 13 ∨ op = 14 ∨ op = 15 := by omega
  clear c1 c2
  rcases kk with rfl | rfl | rfl | rfl | rfl | rfl | rfl | rfl | rfl | rfl | rfl | rfl | rfl | rfl | rfl <;>
  · go_enter Tryd.func18, Tryd.ntmps18
    go_wp2_with fail
    go_ret
    exact ⟨rfl, rfl⟩
theorem ownIn_any (b : Bool) (e : Int) (w : World) : Calls Tryd.prog 46 #[.bool b, .int .i64 e] w fun r w' => r = .returned (.int .i64 (if b then 0 else e)) ∧ w' = w := by
  cases b <;>
  · go_enter Tryd.func46, Tryd.ntmps46
    go_wp2_with fail
    go_ret
    exact ⟨rfl, rfl⟩
set_option maxRecDepth 100000 in
set_option maxHeartbeats 1600000 in
theorem Own_global (x : In) (qa : Option Addr) (qc : Nat) (w : World) (hop : x.op = 5 ∨ x.op = 12 ∨ x.op = 13) (hl : x.lib.size ≤ maxLen) (ho : x.own.size ≤ maxLen) :
    Calls Tryd.prog 37 #[iv x qa qc, .int .i64 0, .int .i64 0, .int .i64 (-1)] w fun r w' => r = .returned (.int .i64 (nameW x)) ∧ Below w.heap.size w w' := by
  unfold iv ic
  have hk : kindB x.op = 103 := by rcases hop with e | e | e <;> rw [e] <;> rfl
  have K := hidd (fun w => Kind_any x.op w)
  rw [hk] at K
  have P := hidd (fun w => Plain_any x.lib hl w)
  have N := hidd (fun w => refNamed_any x.own ho w)
  have O := hidd (fun b w => ownIn_any b 7 w)
  unfold nameW
  generalize plainB x.lib = p at P ⊢
  generalize namedB x.own = q at N ⊢
  clear hl ho hop hk
  obtain ⟨op, a, n, lb, ow, qq⟩ := x
  simp only at K P N ⊢
  cases p
  · go_enter Tryd.func37, Tryd.ntmps37
    go_wp2_with fail
    refine (K.out _).mono ?_
    rintro e w1 ⟨rfl, rfl⟩
    go_wp2_with fail
    refine (P.out _).mono ?_
    rintro e w2 ⟨rfl, hb2⟩
    have HB := hidd (((Below.refl w.heap.size w).alloc (Nat.le_refl _) _).trans (hb2.mono (by simp)))
    clear hb2
    go_wp2_with fail
    refine (O.out _ _).mono ?_
    rintro e w3 ⟨rfl, rfl⟩
    go_wp2_with fail
    go_ret
    exact ⟨rfl, HB.out⟩
  · go_enter Tryd.func37, Tryd.ntmps37
    go_wp2_with fail
    refine (K.out _).mono ?_
    rintro e w1 ⟨rfl, rfl⟩
    go_wp2_with fail
    refine (P.out _).mono ?_
    rintro e w2 ⟨rfl, hb2⟩
    have HB := hidd (((Below.refl w.heap.size w).alloc (Nat.le_refl _) _).trans (hb2.mono (by simp)))
    have z4 := hb2.cell (p := ⟨w.heap.size, 4, none⟩) (by simp)
    have hsz := hb2.size
    clear hb2
    rw [World.cell?_alloc_mark w _ 51 _ 4] at z4
    simp at z4
    go_wp2_with fail
    refine (N.out _).mono ?_
    rintro e w3 ⟨rfl, hb3⟩
    have HB3 := hidd (HB.out.trans (hb3.mono (by simp at hsz; omega)))
    clear hb3 HB
    cases q <;>
    · go_wp2_with fail
      refine (O.out _ _).mono ?_
      rintro e w4 ⟨rfl, rfl⟩
      go_wp2_with fail
      go_ret
      exact ⟨rfl, HB3.out⟩
end
end Go.Proofs.YtdnbingddbakaaaDoor
