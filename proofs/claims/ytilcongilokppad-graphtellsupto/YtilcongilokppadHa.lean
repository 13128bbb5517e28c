/- Rows of numbers in memory; sort.IntSlice's methods. -/
import Derived.Test.YtilcongilokppadProg
import Derived.Test.YtilcongilokppadFr
import Derived.Test.YtilcongilokppadGa
import Derived.WalkKit
import Derived.WalkSmall
import Derived.Laws.EntriesVeiled
import Derived.BigQuiet
namespace Go.Proofs.Ytilcongilokppad
set_option linter.unusedVariables false
set_option linter.unusedSimpArgs false
open Go.RowKit

def encI (x : Nat) : Value := .int .i64 (x : Int)

/-- v is a row of numbers of one's own, in a block from B on. -/
def RowI (B : Nat) (v : Value) (xs : List Nat) (w : World) : Prop := w.ownsRow B 3 1 v xs.length (xs.map encI)

theorem RowI.nil (B : Nat) (w : World) : RowI B (.slice none 0 0) [] w := World.ownsRow_nil _ _ _ _
theorem RowI.form {B : Nat} {v : Value} {xs : List Nat} {w : World} (h : RowI B v xs w) : ∃ a cap, v = .slice a xs.length cap ∧ (xs.length ≤ cap) ∧ (a = none ∨ ∃ g, a = some ⟨g, 0, none⟩) := by
  rcases h.2 with ⟨rfl, h0⟩ | ⟨g, cap, cur, rfl, _, _, hnc, _⟩
  · have : xs = [] := List.length_eq_zero_iff.1 h0
    subst this
    exact ⟨none, 0, rfl, Nat.le_refl _, Or.inl rfl⟩
  · exact ⟨_, cap, rfl, hnc, Or.inr ⟨g, rfl⟩⟩
theorem RowI.cell {B g n c : Nat} {xs : List Nat} {w : World} (h : RowI B (.slice (some ⟨g, 0, none⟩) n c) xs w) {i : Nat} (hi : i < xs.length) : w.cell? ⟨g, i, none⟩ = some (.int .i64 (xs.getD i 0 : Nat)) := by
  have := h.cells (g := g) rfl i (encI (xs.getD i 0)) (by simp [List.getElem?_map, hi, List.getD])
  rw [add_at] at this
  exact this
theorem RowI.is {B : Nat} {v : Value} {xs : List Nat} {w : World} (h : RowI B v xs w) (h0 : 0 < xs.length) : ∃ g cap, v = .slice (some ⟨g, 0, none⟩) xs.length cap ∧ B ≤ g ∧ g < w.heap.size ∧ xs.length ≤ cap := by
  rcases h.2 with ⟨rfl, h1⟩ | ⟨g, cap, cur, rfl, hb, hg, hnc, _⟩
  · omega
  · exact ⟨g, cap, rfl, hb, (Array.getElem?_eq_some_iff.1 hg).1, hnc⟩
theorem RowI.kept {B : Nat} {v : Value} {xs : List Nat} {w w' : World} (h : RowI B v xs w) (hk : ∀ k, v.ownBlock = some k → w'.heap[k]? = w.heap[k]?) : RowI B v xs w' := by
  obtain ⟨h1, h⟩ := h
  refine ⟨h1, ?_⟩
  rcases h with h | ⟨g, cap, cur, rfl, hb, hg, rest⟩
  · exact Or.inl h
  · exact Or.inr ⟨g, cap, cur, rfl, hb, (hk g rfl).trans hg, rest⟩
theorem RowI.lt {B : Nat} {v : Value} {xs : List Nat} {w : World} (h : RowI B v xs w) {k : Nat} (hk : v.ownBlock = some k) : B ≤ k ∧ k < w.heap.size := World.ownsRow.lt h k hk
theorem RowI.below {B : Nat} {v : Value} {xs : List Nat} {w w' : World} (h : RowI B v xs w) (hb : Below w.heap.size w w') : RowI B v xs w' := h.kept fun k hk => hb.block k (h.lt hk).2
theorem RowI.mono {B B' : Nat} {v : Value} {xs : List Nat} {w : World} (h : RowI B v xs w) (hB : B' ≤ B) : RowI B' v xs w := by
  obtain ⟨h1, h⟩ := h
  refine ⟨h1, ?_⟩
  rcases h with h | ⟨g, cap, cur, rfl, hb, rest⟩
  · exact Or.inl h
  · exact Or.inr ⟨g, cap, cur, rfl, Nat.le_trans hB hb, rest⟩

theorem heap_setCell {w : World} {g i : Nat} {cur : Array Value} {e : TypeId} (hg : w.heap[g]? = some (.cells cur e (0, 0))) (hi : i < cur.size) (u : Value) : (w.setCell ⟨g, i, none⟩ u).heap[g]? = some (.cells (cur.set! i u) e (0, 0)) := by
  have hlt := (Array.getElem?_eq_some_iff.1 hg).1
  have hg' : w.heap[g] = .cells cur e (0, 0) := by rw [Array.getElem?_eq_getElem hlt] at hg; simpa using hg
  simp [World.setCell, hlt, Array.getElem_modify, hg']

theorem RowI.set {B g n c : Nat} {xs : List Nat} {w : World} (h : RowI B (.slice (some ⟨g, 0, none⟩) n c) xs w) {i : Nat} (hi : i < xs.length) (y : Nat) : RowI B (.slice (some ⟨g, 0, none⟩) n c) (xs.set i y) (w.setCell ⟨g, i, none⟩ (encI y)) := by
  obtain ⟨h1, h⟩ := h
  refine ⟨by simp, ?_⟩
  rcases h with ⟨h, _⟩ | ⟨g', cap, cur, e, hb, hg, hnc, hcm, hcs, ht⟩
  · cases h
  · simp only [Value.slice.injEq, Option.some.injEq, Addr.mk.injEq] at e
    obtain ⟨⟨rfl, _, _⟩, rfl, rfl⟩ := e
    refine Or.inr ⟨g, c, cur.set! i (encI y), by simp, hb, heap_setCell hg (by omega) _, by simpa using hnc, hcm, by simpa using hcs, ?_⟩
    rw [Array.set!_eq_setIfInBounds, Array.toList_setIfInBounds, List.take_set, List.length_set, ht, List.map_set]
theorem RowI.frozen {B g n c : Nat} {xs : List Nat} {w : World} (h : RowI B (.slice (some ⟨g, 0, none⟩) n c) xs w) (i : Nat) : w.frozen? ⟨g, i, none⟩ = false := by
  obtain ⟨h1, h⟩ := h
  rcases h with ⟨h, _⟩ | ⟨g', cap, cur, e, hb, hg, hnc, hcm, hcs, ht⟩
  · cases h
  · simp only [Value.slice.injEq, Option.some.injEq, Addr.mk.injEq] at e
    obtain ⟨⟨rfl, _, _⟩, rfl, rfl⟩ := e
    simp [World.frozen?, hg]
/-- The last one taken away. -/
theorem RowI.cut {B g n c : Nat} {xs : List Nat} {y : Nat} {w : World} (h : RowI B (.slice (some ⟨g, 0, none⟩) n c) (xs ++ [y]) w) : RowI B (.slice (some ⟨g, 0, none⟩) xs.length c) xs w := by
  obtain ⟨h1, h⟩ := h
  refine ⟨by simp, ?_⟩
  rcases h with ⟨h, _⟩ | ⟨g', cap, cur, e, hb, hg, hnc, hcm, hcs, ht⟩
  · cases h
  · simp only [Value.slice.injEq, Option.some.injEq, Addr.mk.injEq] at e
    obtain ⟨⟨rfl, _, _⟩, rfl, rfl⟩ := e
    refine Or.inr ⟨g, c, cur, rfl, hb, hg, by simp at hnc; omega, hcm, hcs, ?_⟩
    have := congrArg (List.take xs.length) ht
    rw [List.take_take] at this
    simp at this
    simpa using this

/-! ### sort.IntSlice -/
theorem Len_any (a : Option Addr) (n c : Nat) (w : World) : Calls Try.prog 25 #[.slice a n c] w fun e w' => e = .returned (.int .i64 n) ∧ w' = w := by
  go_enter Try.func25, Try.ntmps25
  go_wp2_with fail
  go_ret
  exact ⟨rfl, rfl⟩

set_option maxRecDepth 100000 in
set_option maxHeartbeats 1600000 in
theorem Less_any (g n c i j x y : Nat) (w : World) (hi : i < n) (hj : j < n) (hn : n ≤ 1048576) (hx : w.cell? ⟨g, i, none⟩ = some (.int .i64 x)) (hy : w.cell? ⟨g, j, none⟩ = some (.int .i64 y)) :
    Calls Try.prog 75 #[.slice (some ⟨g, 0, none⟩) n c, .int .i64 i, .int .i64 j] w fun e w' => e = .returned (.bool (decide (x < y))) ∧ Below w.heap.size w w' := by
  go_enter Try.func75, Try.ntmps75
  go_wp2_with fail
  go_quiet (fail)
  go_wp2_with fail
  go_ret
  exact ⟨rfl, rfl, rfl, rfl, Nat.le_refl _, fun _ _ => rfl⟩

set_option maxRecDepth 100000 in
set_option maxHeartbeats 1600000 in
theorem Swap_any (g n c i j x y : Nat) (w : World) (hi : i < n) (hj : j < n) (hn : n ≤ 1048576) (hx : w.cell? ⟨g, i, none⟩ = some (.int .i64 x)) (hy : w.cell? ⟨g, j, none⟩ = some (.int .i64 y)) (fi : w.frozen? ⟨g, i, none⟩ = false) (fj : w.frozen? ⟨g, j, none⟩ = false) :
    Calls Try.prog 79 #[.slice (some ⟨g, 0, none⟩) n c, .int .i64 i, .int .i64 j] w fun e w' => e = .returned (.tuple #[]) ∧ ∃ w1, Below w.heap.size w w1 ∧ w1.heap = w.heap ∧ w' = (w1.setCell ⟨g, i, none⟩ (encI y)).setCell ⟨g, j, none⟩ (encI x) := by
  have h2 : (w.setCell ⟨g, i, none⟩ (.int .i64 y)).cell? ⟨g, j, none⟩ = some (.int .i64 y) := by
    by_cases e : i = j
    · subst e
      exact World.cell?_setCell_same w _ _ hx
    · rw [World.cell?_setCell_other w]
      · exact hy
      · simp [e]
  go_enter Try.func79, Try.ntmps79
  go_wp2_with fail
  go_region
  all_goals go_wp2_with fail
  all_goals trace_state
  all_goals go_end0
  all_goals exact ⟨rfl, _, Below.drew (Below.refl _ _), rfl, rfl⟩
end Go.Proofs.Ytilcongilokppad
