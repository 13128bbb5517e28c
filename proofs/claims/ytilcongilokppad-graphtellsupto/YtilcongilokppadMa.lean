/- Two rows of rows of one's own. -/
import Derived.Test.YtilcongilokppadLc
import Derived.Test.YtilcongilokppadJa
namespace Go.Proofs.Ytilcongilokppad
set_option linter.unusedVariables false
set_option linter.unusedSimpArgs false
open Go.RowKit

/-- Who needs whom (true), who is needed by whom (false): rows of one's own, each in a block of its own. -/
structure WS (B : Nat) (bb : Bool → Nat) (n : Nat) (vs : Bool → List Value) (R : Bool → List (List Nat)) (w : World) : Prop where
  blk : ∀ s, w.heap[bb s]? = some (.cells (vs s).toArray 43 (0, 0))
  len : ∀ s, (vs s).length = n
  rl : ∀ s, (R s).length = n
  rows : ∀ s (i : Nat) v, (vs s)[i]? = some v → RowI B v (row (R s) i) w
  apart : ∀ s (i : Nat) s' (i' : Nat) v v', (vs s)[i]? = some v → (vs s')[i']? = some v' → (s, i) ≠ (s', i') → ∀ g, v.ownBlock = some g → v'.ownBlock ≠ some g
  lt : ∀ s, bb s < B
  ne : bb true ≠ bb false

theorem ne_of {bb : Bool → Nat} (h : bb true ≠ bb false) : ∀ s t, t ≠ s → bb t ≠ bb s := by
  intro s t
  cases s <;> cases t <;> simp
  · exact h
  · exact fun e => h e.symm

def updV (vs : Bool → List Value) (s : Bool) (i : Nat) (v : Value) : Bool → List Value := fun t => if t = s then (vs s).set i v else vs t
def updR (R : Bool → List (List Nat)) (s : Bool) (i y : Nat) : Bool → List (List Nat) := fun t => if t = s then add (R s) i y else R t

section
variable {B n : Nat} {bb : Bool → Nat} {vs : Bool → List Value} {R : Bool → List (List Nat)} {w w' : World}

theorem WS.small (H : WS B bb n vs R w) (s : Bool) : bb s < w.heap.size := (Array.getElem?_eq_some_iff.1 (H.blk s)).1
theorem WS.kept (H : WS B bb n vs R w) (h : ∀ k, k < w.heap.size → (∃ s, k = bb s) ∨ B ≤ k → w'.heap[k]? = w.heap[k]?) : WS B bb n vs R w' :=
  ⟨fun s => (h _ (H.small s) (Or.inl ⟨s, rfl⟩)).trans (H.blk s), H.len, H.rl, fun s i v hv => (H.rows s i v hv).kept fun k hk => h k ((H.rows s i v hv).lt hk).2 (Or.inr ((H.rows s i v hv).lt hk).1), H.apart, H.lt, H.ne⟩
theorem WS.below (H : WS B bb n vs R w) (hb : Below w.heap.size w w') : WS B bb n vs R w' := H.kept fun k hk _ => hb.block k hk
theorem WS.at (H : WS B bb n vs R w) (s : Bool) {i : Nat} (hi : i < n) : ∃ v, (vs s)[i]? = some v ∧ w.cell? ⟨bb s, i, none⟩ = some v ∧ RowI B v (row (R s) i) w := by
  have hl := H.len s
  have hv : (vs s)[i]? = some ((vs s)[i]'(by omega)) := List.getElem?_eq_getElem _
  refine ⟨_, hv, ?_, H.rows s i _ hv⟩
  simp [World.cell?, H.blk s, show i < (vs s).length by omega]
theorem WS.frozen (H : WS B bb n vs R w) (s : Bool) (i : Nat) : w.frozen? ⟨bb s, i, none⟩ = false := by simp [World.frozen?, H.blk s]

theorem WS.push (H : WS B bb n vs R w) {s : Bool} {i y : Nat} {v v' : Value} (hi : (vs s)[i]? = some v) (hr : RowI B v' (row (R s) i ++ [y]) w') (hg : w.grownBy w' v.ownBlock) (hl : ∀ g, v'.ownBlock = some g → v.ownBlock = some g ∨ w.heap.size ≤ g) :
    WS B bb n (updV vs s i v') (updR R s i y) (w'.setCell ⟨bb s, i, none⟩ v') := by
  have hlt := H.lt
  have hvB : ∀ k, v.ownBlock = some k → B ≤ k := fun k hk => ((H.rows s i v hi).lt hk).1
  have hil : i < (vs s).length := (List.getElem?_eq_some_iff.1 hi).1
  have hls := H.len s
  have hrl := H.rl s
  have g1 : ∀ k, k < w.heap.size → v.ownBlock ≠ some k → w'.heap[k]? = w.heap[k]? := fun k hk hne => hg.block k hk fun e => hne e.symm
  have gb : ∀ t, w'.heap[bb t]? = w.heap[bb t]? := fun t => g1 _ (H.small t) fun e => by have := hvB _ e; have := hlt t; omega
  have o1 : ∀ k, k ≠ bb s → (w'.setCell ⟨bb s, i, none⟩ v').heap[k]? = w'.heap[k]? := fun k hk => Below.heap_setCell _ _ _ _ hk
  have hne := ne_of H.ne
  refine ⟨fun t => ?_, fun t => ?_, fun t => ?_, fun t j u hu => ?_, fun t j t' j' u u' hu hu' hd g hug => ?_, hlt, H.ne⟩
  · by_cases e : t = s
    · subst e
      rw [heap_setCell ((gb t).trans (H.blk t)) (by simpa using hil)]
      simp [updV]
    · rw [o1 _ (hne s t e), gb t, H.blk t]
      simp [updV, e]
  · by_cases e : t = s
    · subst e
      simp [updV, hls]
    · simp [updV, e, H.len t]
  · by_cases e : t = s
    · subst e
      simp [updR, add_length, hrl]
    · simp [updR, e, H.rl t]
  · by_cases e : t = s
    · subst e
      simp only [updV, if_true] at hu
      simp only [updR, if_true]
      rw [row_add (by omega)]
      by_cases e2 : j = i
      · subst e2
        rw [List.getElem?_set_self hil] at hu
        cases hu
        rw [if_pos rfl]
        exact hr.kept fun k hk => o1 k (by have := (hr.lt hk).1; have := hlt t; omega)
      · rw [List.getElem?_set_ne (fun q => e2 q.symm)] at hu
        rw [if_neg e2]
        have h1 := H.rows t j u hu
        exact h1.kept fun k hk => (o1 k (by have := (h1.lt hk).1; have := hlt t; omega)).trans (g1 k (h1.lt hk).2 (H.apart t j t i u v hu hi (by simp [e2]) k hk))
    · simp only [updV, e, if_false] at hu
      simp only [updR, e, if_false]
      have h1 := H.rows t j u hu
      exact h1.kept fun k hk => (o1 k (by have := (h1.lt hk).1; have := hlt s; omega)).trans (g1 k (h1.lt hk).2 (H.apart t j s i u v hu hi (by simp [e]) k hk))
  · -- which of both is the new one
    have key : ∀ t j u, (updV vs s i v' t)[j]? = some u → (t = s ∧ j = i ∧ u = v') ∨ ((t, j) ≠ (s, i) ∧ (vs t)[j]? = some u) := by
      intro t j u hu
      by_cases e : t = s
      · subst e
        simp only [updV, if_true] at hu
        by_cases e2 : j = i
        · subst e2
          rw [List.getElem?_set_self hil] at hu
          cases hu
          exact Or.inl ⟨rfl, rfl, rfl⟩
        · rw [List.getElem?_set_ne (fun q => e2 q.symm)] at hu
          exact Or.inr ⟨by simp [e2], hu⟩
      · simp only [updV, e, if_false] at hu
        exact Or.inr ⟨by simp [e], hu⟩
    rcases key t j u hu with ⟨rfl, rfl, rfl⟩ | ⟨d1, h1⟩
    · rcases key t' j' u' hu' with ⟨rfl, rfl, rfl⟩ | ⟨d2, h2⟩
      · exact absurd rfl hd
      · intro e
        rcases hl g hug with q | q
        · exact H.apart t j t' j' v u' hi h2 hd g q e
        · have := ((H.rows t' j' u' h2).lt e).2
          omega
    · rcases key t' j' u' hu' with ⟨rfl, rfl, rfl⟩ | ⟨d2, h2⟩
      · intro e
        rcases hl g e with q | q
        · exact H.apart t j t' j' u v h1 hi hd g hug q
        · have := ((H.rows t j u h1).lt hug).2
          omega
      · exact H.apart t j t' j' u u' h1 h2 hd g hug
/-- Behind, both lie to be read. -/
theorem WS.mat (H : WS B bb n vs R w) (s : Bool) (hn : n ≤ 1048576) (hm : ∀ i, (row (R s) i).length ≤ 1048576) : Mat w.heap.size w (some ⟨bb s, 0, none⟩) (R s) := by
  refine ⟨by rw [H.rl s]; exact hn, Or.inr ⟨bb s, 0, rfl, H.small s, fun i hi => ?_⟩⟩
  rw [H.rl s] at hi
  obtain ⟨v, hv, hc, hr⟩ := H.at s hi
  obtain ⟨a, cap, rfl, _, ha⟩ := hr.form
  refine ⟨a, cap, by rw [Nat.zero_add]; exact hc, hm i, ?_⟩
  rcases ha with rfl | ⟨g, rfl⟩
  · left
    rcases hr.2 with ⟨e, h0⟩ | ⟨g, cap', cur, e, _⟩
    · exact List.length_eq_zero_iff.1 h0
    · simp at e
  · right
    refine ⟨g, 0, rfl, (hr.lt rfl).2, fun j x hj => ?_⟩
    have := hr.cell (List.getElem?_eq_some_iff.1 hj).1
    rw [List.getD_eq_getElem?_getD, hj] at this
    rw [Nat.zero_add]
    exact this
end
end Go.Proofs.Ytilcongilokppad
