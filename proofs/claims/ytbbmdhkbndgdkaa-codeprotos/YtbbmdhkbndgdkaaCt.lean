/- How long the code is, and how many procedures there are. -/
import Derived.Test.YtbbmdhkbndgdkaaCh
namespace Go.Proofs.Ytbbmdhkbndgdkaa
set_option linter.unusedVariables false
set_option linter.unusedSimpArgs false

theorem wk8 {n : Nat} (h : wkids 8 n = 0) : n = 1 := by
  unfold wkids at h
  simp at h
  exact h
theorem wk7 {n : Nat} (h : wkids 7 n = 0) : n = 3 := by
  unfold wkids at h
  simp at h
  exact h
theorem genC_else {k : Int} (i n : Int) (lb ow : ByteArray) (q : Dat) (ks : List Cor) (at0 pr : Nat) (h8 : ¬ k = 8) (h7 : ¬ k = 7) (h12 : ¬ k = 12) :
    genC ⟨k, i, n, lb, ow, q, ks⟩ at0 pr = ((genL ks at0 pr).1 ++ [lastI ⟨k, i, n, lb, ow, q, ks⟩], (genL ks at0 pr).2) := by
  rw [genC.eq_def]
  simp only [if_neg h8, if_neg h7, if_neg h12]
def Len (c : Cor) : Prop := ∀ at0 pr, (genC c at0 pr).1.length = sizC c ∧ (genC c at0 pr).2.length = lamC c
theorem genL_len : ∀ (l : List Cor), (∀ c ∈ l, Len c) → ∀ at0 pr, (genL l at0 pr).1.length = sizL l ∧ (genL l at0 pr).2.length = lamL l
  | [], _, at0, pr => by rw [genL, sizL, lamL]; exact ⟨rfl, rfl⟩
  | c :: r, h, at0, pr => by
    have h1 := h c (by simp) at0 pr
    have h2 := genL_len r (fun c hc => h c (List.mem_cons_of_mem _ hc)) (at0 + (genC c at0 pr).1.length) (pr + (genC c at0 pr).2.length)
    rw [genL, sizL, lamL]
    simp only [List.length_append]
    omega
theorem genS_len : ∀ (l : List Cor), (∀ c ∈ l, Len c) → ∀ at0 pr, (genS l false at0 pr).1.length = sizL l + l.length ∧ (genS l false at0 pr).2.length = lamL l
  | [], _, at0, pr => by rw [genS, sizL, lamL]; exact ⟨rfl, rfl⟩
  | c :: r, h, at0, pr => by
    have h1 := h c (by simp) (at0 + 1) pr
    have h2 := genS_len r (fun c hc => h c (List.mem_cons_of_mem _ hc)) (at0 + 1 + (genC c (at0 + 1) pr).1.length) (pr + (genC c (at0 + 1) pr).2.length)
    rw [genS, sizL, lamL]
    simp only [List.length_append, Bool.false_eq_true, if_false, List.length_cons, List.length_nil, Nat.zero_add]
    omega
theorem genS_len1 (c : Cor) (r : List Cor) (h : ∀ x ∈ c :: r, Len x) (at0 pr : Nat) : (genS (c :: r) true at0 pr).1.length = sizL (c :: r) + (c :: r).length - 1 ∧ (genS (c :: r) true at0 pr).2.length = lamL (c :: r) := by
  have h1 := h c (by simp) at0 pr
  have h2 := genS_len r (fun c hc => h c (List.mem_cons_of_mem _ hc)) (at0 + (genC c at0 pr).1.length) (pr + (genC c at0 pr).2.length)
  rw [genS, sizL, lamL]
  simp only [List.length_append, if_true, List.length_cons, List.length_nil, Nat.add_zero, List.nil_append]
  omega
mutual
theorem genC_len : ∀ (c : Cor), okC c → Len c
  | ⟨k, i, n, lb, ow, q, ks⟩, h => by
    rw [okC] at h
    have E := each_len ks h.2
    have hw := h.1
    intro at0 pr
    by_cases h8 : k = 8
    · subst h8
      have := wk8 hw
      match ks, this, E with
      | [b], _, E =>
        have h1 := E b (by simp) 0 (pr + 1)
        rw [genC, sizC, lamC]
        simp [lamL]
        omega
    · by_cases h7 : k = 7
      · subst h7
        have := wk7 hw
        match ks, this, E with
        | [x, y, z], _, E =>
          have h1 := E x (by simp) at0 pr
          have h2 := E y (by simp) (at0 + (genC x at0 pr).1.length + 1) (pr + (genC x at0 pr).2.length)
          have h3 := E z (by simp) (at0 + (genC x at0 pr).1.length + 1 + (genC y (at0 + (genC x at0 pr).1.length + 1) (pr + (genC x at0 pr).2.length)).1.length + 1) (pr + (genC x at0 pr).2.length + (genC y (at0 + (genC x at0 pr).1.length + 1) (pr + (genC x at0 pr).2.length)).2.length)
          rw [genC, sizC, lamC]
          simp [lamL, sizL]
          omega
      · by_cases h12 : k = 12
        · subst h12
          have := wk12 hw
          match ks, this, E with
          | c :: r, _, E =>
            have h1 := genS_len1 c r E at0 pr
            rw [genC, sizC, lamC]
            simp only [Int.reduceEq, if_false, if_true, Nat.zero_add]
            exact h1
        · have h1 := genL_len ks E at0 pr
          rw [genC_else i n lb ow q ks at0 pr h8 h7 h12, sizC, lamC, if_neg h8, if_neg h7, if_neg h12, if_neg h8]
          simp only [List.length_append, List.length_singleton]
          omega
theorem each_len : ∀ (l : List Cor), okL l → ∀ c ∈ l, Len c
  | [], _, c, hc => by cases hc
  | x :: r, h, c, hc => by
    rw [okL] at h
    rcases List.mem_cons.1 hc with e | hc
    · rw [e]; exact genC_len x h.1
    · exact each_len r h.2 c hc
end
end Go.Proofs.Ytbbmdhkbndgdkaa
