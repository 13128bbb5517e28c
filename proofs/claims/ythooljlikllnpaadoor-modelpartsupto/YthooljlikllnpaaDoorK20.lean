/- A region that draws its order, walked by what is known of each of its operations. -/
import Derived.Test.YthooljlikllnpaaDoorK19
import Derived.Orders
namespace Go.Proofs.YthooljlikllnpaaDoor
set_option linter.unusedVariables false
set_option linter.unusedSimpArgs false
open Go.RowKit

theorem wpOp_mono' {P : Program} {ops : Array Oper} {Q : Exit → Act → World → Prop} {i : Nat} {K K' : Act → World → Prop} {a : Act} {w : World} (h : ∀ a w, K a w → K' a w) (hh : wpOp P ops Q i K a w) : wpOp P ops Q i K' a w := by
  unfold wpOp at *
  cases ho : ops[i]? with
  | none => rw [ho] at hh; exact h _ _ hh
  | some o =>
    rw [ho] at hh
    simp only at hh ⊢
    split
    · rename_i hw
      rw [if_pos hw] at hh
      exact hh.imp (fun x => Oper.wp_mono h x) id
    · rename_i hw
      rw [if_neg hw] at hh
      exact h _ _ hh
theorem ready_un {md : Region.Mode} {ops : Array Oper} {l : Array Bool} {i : Nat} (h : i ∈ Region.ready md ops l) : i < ops.size ∧ l.getD i true = false := by
  unfold Region.ready at h
  rw [List.mem_filter] at h
  obtain ⟨h1, h2⟩ := h
  simp only [Bool.and_eq_true, Bool.not_eq_true'] at h2
  exact ⟨List.mem_range.1 h1, h2.1⟩
theorem ready_dep {md : Region.Mode} {ops : Array Oper} {l : Array Bool} {i : Nat} (h : i ∈ Region.ready md ops l) (o : Oper) (ho : ops[i]? = some o) (j : Nat) (hj : (o.after.any fun e => Region.binds md e && e.on == j) = true) : l.getD j false = true := by
  unfold Region.ready at h
  rw [List.mem_filter] at h
  obtain ⟨h1, h2⟩ := h
  simp only [Bool.and_eq_true, Bool.not_eq_true', ho, Option.map_some, Option.getD_some] at h2
  rw [Array.any_eq_true] at hj
  obtain ⟨k, hk, he⟩ := hj
  have := Array.all_eq_true.1 h2.2 k hk
  simp only [Bool.and_eq_true, beq_iff_eq] at he
  rw [he.1, he.2] at this
  simpa using this
/-- How many are left. -/
def left (l : Array Bool) : Nat := (l.toList.filter (fun b => !b)).length
theorem left_set {l : Array Bool} {i : Nat} (h : l.getD i true = false) : left l = left (l.setIfInBounds i true) + 1 := by
  have hi : i < l.size := by
    by_cases hl : i < l.size
    · exact hl
    · simp [Array.getD, hl] at h
  have hv : l[i] = false := by simpa [Array.getD, hi] using h
  have e : ∀ (L : List Bool) (i : Nat) (hi : i < L.length), L[i] = false → (L.filter (fun b => !b)).length = ((L.set i true).filter (fun b => !b)).length + 1 := by
    intro L
    induction L with
    | nil => intro i hi; simp at hi
    | cons b r ih =>
      intro i hi hv
      match i with
      | 0 =>
        simp at hv
        subst hv
        simp
      | i + 1 =>
        simp at hi hv
        have := ih i hi hv
        cases b <;> simp [this]
  have := e l.toList i (by simpa using hi) (by simpa using hv)
  unfold left
  rw [this, Array.toList_setIfInBounds]
theorem left_zero {md : Region.Mode} {ops : Array Oper} {l : Array Bool} (h : left l = 0) : Region.ready md ops l = [] := by
  cases hr : Region.ready md ops l with
  | nil => rfl
  | cons i r =>
    have := (ready_un (md := md) (ops := ops) (l := l) (i := i) (by rw [hr]; simp)).2
    rw [left_set this] at h
    omega
theorem wpAny_inv {P : Program} {md : Region.Mode} {ops : Array Oper} {Q : Exit → Act → World → Prop} (I : Array Bool → Act → World → Prop)
    (hs : ∀ l a w i, I l a w → i ∈ Region.ready md ops l → wpOp P ops Q i (I (l.setIfInBounds i true)) a w)
    (he : ∀ l a w, I l a w → Region.ready md ops l = [] → Q .normal a w) : ∀ (fuel : Nat) (l : Array Bool) (a : Act) (w : World), left l ≤ fuel → I l a w → wpAny P md ops Q fuel l a w
  | 0, l, a, w, hl, h => ⟨left_zero (by omega), he l a w h (left_zero (by omega))⟩
  | fuel + 1, l, a, w, hl, h => by
    refine ⟨he l a w h, fun i hi => ?_⟩
    refine wpOp_mono' (fun a' w' h' => ?_) (hs l a w i h hi)
    exact wpAny_inv I hs he fuel _ a' w' (by have := left_set (ready_un hi).2; omega) h'
theorem wpOp_of {P : Program} {ops : Array Oper} {Q : Exit → Act → World → Prop} {i : Nat} {K : Act → World → Prop} {a : Act} {w : World} (o : Oper) (hi : ops[i]? = some o) (hg : o.guard = none) (h : o.wp P a w K Q) : wpOp P ops Q i K a w := by
  unfold wpOp
  rw [hi]
  have hw : Region.wanted o (yielded ops a.tmps) = true := by simp [Region.wanted, hg]
  simp only
  rw [if_pos hw]
  exact Or.inl h
end Go.Proofs.YthooljlikllnpaaDoor
