/- Plain mathematics: a heap of numbers. -/
import Derived.WalkSmall
namespace Go.Proofs.Ytilcongilokppad
set_option linter.unusedVariables false
set_option linter.unusedSimpArgs false

/-- Two places swapped. -/
def sw (l : List Nat) (i j : Nat) : List Nat := (l.set i (l.getD j 0)).set j (l.getD i 0)

theorem sw_length (l : List Nat) (i j : Nat) : (sw l i j).length = l.length := by simp [sw]
theorem getD_lt {l : List Nat} {i : Nat} (h : i < l.length) : l.getD i 0 = l[i] := by simp [List.getD, h]
theorem sw_perm {l : List Nat} {i j : Nat} (hi : i < l.length) (hj : j < l.length) : (sw l i j).Perm l := by
  unfold sw
  rw [getD_lt hi, getD_lt hj]
  exact List.set_set_perm hi hj
theorem sw_at {l : List Nat} {i j : Nat} (hi : i < l.length) (hj : j < l.length) (k : Nat) : (sw l i j).getD k 0 = if k = j then l.getD i 0 else if k = i then l.getD j 0 else l.getD k 0 := by
  unfold sw
  by_cases h1 : k = j
  · subst h1
    simp [List.getD, hj]
  · by_cases h2 : k = i
    · subst h2
      simp only [h1, if_false, if_true]
      rw [List.getD_eq_getElem?_getD, List.getElem?_set_ne (fun e => h1 e.symm), List.getElem?_set_self hi]
      simp
    · simp only [h1, h2, if_false]
      rw [List.getD_eq_getElem?_getD, List.getElem?_set_ne (fun e => h1 e.symm), List.getElem?_set_ne (fun e => h2 e.symm), ← List.getD_eq_getElem?_getD]

/-- The first n are a heap. -/
def Heap (l : List Nat) (n : Nat) : Prop := ∀ k, 0 < k → k < n → l.getD ((k - 1) / 2) 0 ≤ l.getD k 0
/-- .. but for the one at j, which may be too small. -/
structure Up (l : List Nat) (j : Nat) : Prop where
  lt : j < l.length
  up : ∀ k, 0 < k → k < l.length → k ≠ j → l.getD ((k - 1) / 2) 0 ≤ l.getD k 0
  on : ∀ k, 0 < k → k < l.length → (k - 1) / 2 = j → 0 < j → l.getD ((j - 1) / 2) 0 ≤ l.getD k 0
/-- .. but for the one at i, which may be too great. -/
structure Down (l : List Nat) (i n : Nat) : Prop where
  le : n ≤ l.length
  up : ∀ k, 0 < k → k < n → (k - 1) / 2 ≠ i → l.getD ((k - 1) / 2) 0 ≤ l.getD k 0
  on : ∀ k, 0 < k → k < n → (k - 1) / 2 = i → 0 < i → l.getD ((i - 1) / 2) 0 ≤ l.getD k 0

theorem Heap.push {l : List Nat} (h : Heap l l.length) (x : Nat) : Up (l ++ [x]) l.length := by
  have e : ∀ k, k < l.length → (l ++ [x]).getD k 0 = l.getD k 0 := fun k hk => by simp [List.getD, List.getElem?_append_left hk]
  refine ⟨by simp, fun k h0 hk hne => ?_, fun k h0 hk he => ?_⟩
  · simp at hk
    rw [e k (by omega), e _ (by omega)]
    exact h k h0 (by omega)
  · simp at hk
    omega
theorem Up.done {l : List Nat} {j : Nat} (h : Up l j) (hj : j = 0 ∨ l.getD ((j - 1) / 2) 0 ≤ l.getD j 0) : Heap l l.length := by
  intro k h0 hk
  by_cases e : k = j
  · subst e
    rcases hj with hj | hj
    · omega
    · exact hj
  · exact h.up k h0 hk e
theorem Up.step {l : List Nat} {j : Nat} (h : Up l j) (h0 : 0 < j) (hlt : l.getD j 0 < l.getD ((j - 1) / 2) 0) : Up (sw l ((j - 1) / 2) j) ((j - 1) / 2) := by
  have hj := h.lt
  have hp : (j - 1) / 2 < l.length := by omega
  refine ⟨by rw [sw_length]; exact hp, fun k hk0 hk hne => ?_, fun k hk0 hk he hp0 => ?_⟩
  · rw [sw_length] at hk
    rw [sw_at hp hj, sw_at hp hj]
    by_cases e1 : k = j
    · subst e1
      rw [if_neg (by omega), if_pos rfl, if_pos rfl]
      omega
    · rw [if_neg e1, if_neg hne]
      by_cases e2 : (k - 1) / 2 = j
      · rw [if_pos e2]
        exact h.on k hk0 hk e2 h0
      · rw [if_neg e2]
        have := h.up k hk0 hk e1
        by_cases e3 : (k - 1) / 2 = (j - 1) / 2
        · rw [if_pos e3]
          rw [e3] at this
          omega
        · rw [if_neg e3]
          exact this
  · rw [sw_length] at hk
    rw [sw_at hp hj, sw_at hp hj, if_neg (by omega), if_neg (by omega)]
    have hup := h.up ((j - 1) / 2) hp0 hp (by omega)
    by_cases e1 : k = j
    · subst e1
      rw [if_pos rfl]
      exact hup
    · rw [if_neg e1, if_neg (by omega)]
      have := h.up k hk0 hk e1
      rw [he] at this
      omega

theorem Heap.root {l : List Nat} {n : Nat} (h : Heap l n) : ∀ k, k < n → l.getD 0 0 ≤ l.getD k 0 := by
  intro k
  induction k using Nat.strongRecOn with
  | _ k ih =>
    intro hk
    by_cases h0 : k = 0
    · subst h0
      exact Nat.le_refl _
    · exact Nat.le_trans (ih ((k - 1) / 2) (by omega) (by omega)) (h k (by omega) hk)

theorem Heap.pop {l : List Nat} {n : Nat} (h : Heap l (n + 1)) (hl : l.length = n + 1) : Down (sw l 0 n) 0 n := by
  refine ⟨by rw [sw_length]; omega, fun k h0 hk hne => ?_, fun k h0 hk he h00 => by omega⟩
  rw [sw_at (by omega) (by omega), sw_at (by omega) (by omega), if_neg (by omega), if_neg (by omega), if_neg (by omega), if_neg (by omega)]
  exact h k h0 (by omega)
/-- The lesser of both below i. -/
def kid (l : List Nat) (i n : Nat) : Nat := if 2 * i + 2 < n ∧ l.getD (2 * i + 2) 0 < l.getD (2 * i + 1) 0 then 2 * i + 2 else 2 * i + 1
theorem Down.none {l : List Nat} {i n : Nat} (h : Down l i n) (hn : n ≤ 2 * i + 1) : Heap l n := by
  intro k h0 hk
  exact h.up k h0 hk (by omega)
theorem Down.done {l : List Nat} {i n : Nat} (h : Down l i n) (hk : l.getD i 0 ≤ l.getD (kid l i n) 0) : Heap l n := by
  intro k h0 hkn
  by_cases e : (k - 1) / 2 = i
  · rw [e]
    unfold kid at hk
    have : k = 2 * i + 1 ∨ k = 2 * i + 2 := by omega
    rcases this with rfl | rfl
    · by_cases c : 2 * i + 2 < n ∧ l.getD (2 * i + 2) 0 < l.getD (2 * i + 1) 0
      · rw [if_pos c] at hk
        omega
      · rw [if_neg c] at hk
        exact hk
    · by_cases c : 2 * i + 2 < n ∧ l.getD (2 * i + 2) 0 < l.getD (2 * i + 1) 0
      · rw [if_pos c] at hk
        exact hk
      · rw [if_neg c] at hk
        have : ¬ l.getD (2 * i + 2) 0 < l.getD (2 * i + 1) 0 := fun x => c ⟨hkn, x⟩
        omega
  · exact h.up k h0 hkn e
theorem kid_or (l : List Nat) (i n : Nat) : kid l i n = 2 * i + 1 ∨ kid l i n = 2 * i + 2 := by
  unfold kid
  split <;> simp
theorem kid_lt {l : List Nat} {i n : Nat} (hn : 2 * i + 1 < n) : kid l i n < n := by
  unfold kid
  split
  · omega
  · exact hn
theorem kid_least {l : List Nat} {i n k : Nat} (hk : k < n) (h0 : 0 < k) (e : (k - 1) / 2 = i) : l.getD (kid l i n) 0 ≤ l.getD k 0 := by
  unfold kid
  have : k = 2 * i + 1 ∨ k = 2 * i + 2 := by omega
  split
  · rename_i c
    rcases this with rfl | rfl <;> omega
  · rename_i c
    rcases this with rfl | rfl
    · exact Nat.le_refl _
    · have : ¬ l.getD (2 * i + 2) 0 < l.getD (2 * i + 1) 0 := fun x => c ⟨hk, x⟩
      omega
theorem Down.step {l : List Nat} {i n : Nat} (h : Down l i n) (hn : 2 * i + 1 < n) (hlt : l.getD (kid l i n) 0 < l.getD i 0) : Down (sw l i (kid l i n)) (kid l i n) n := by
  have hl := h.le
  have hk := kid_lt (l := l) hn
  have hor := kid_or l i n
  have hle : ∀ k, k < n → 0 < k → (k - 1) / 2 = i → l.getD (kid l i n) 0 ≤ l.getD k 0 := fun k a b c => kid_least a b c
  generalize kid l i n = j at *
  have hi : i < l.length := by omega
  have hj : j < l.length := by omega
  refine ⟨by rw [sw_length]; exact hl, fun k h0 hkn hne => ?_, fun k h0 hkn he hj0 => ?_⟩
  · rw [sw_at hi hj, sw_at hi hj, if_neg hne]
    by_cases e1 : (k - 1) / 2 = i
    · rw [if_pos e1]
      by_cases e2 : k = j
      · subst e2
        rw [if_pos rfl]
        omega
      · rw [if_neg e2, if_neg (by omega)]
        exact hle k hkn h0 e1
    · rw [if_neg e1, if_neg (by omega)]
      by_cases e2 : k = i
      · subst e2
        rw [if_pos rfl]
        exact h.on j (by omega) hk (by omega) h0
      · rw [if_neg e2]
        exact h.up k h0 hkn e1
  · have e0 : (j - 1) / 2 = i := by omega
    rw [e0, sw_at hi hj, sw_at hi hj, if_neg (by omega), if_pos rfl, if_neg (by omega), if_neg (by omega)]
    have := h.up k h0 hkn (by omega)
    rw [he] at this
    exact this
end Go.Proofs.Ytilcongilokppad
