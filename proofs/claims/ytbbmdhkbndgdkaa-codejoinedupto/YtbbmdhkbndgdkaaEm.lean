/- Chapter 8's laws: code further on; bodies one behind the other. -/
import Derived.Test.YtbbmdhkbndgdkaaEi
namespace Go.Proofs.Ytbbmdhkbndgdkaa
set_option linter.unusedVariables false
set_option linter.unusedSimpArgs false

/-- An instruction so much on: its jump, its procedure. -/
def onI (n k : Nat) (x : In) : In := { x with a := if x.op = 9 ∨ x.op = 10 then x.a + n else if x.op = 7 then x.a + k else x.a }
def onP (k : Nat) (p : Pro) : Pro := ⟨p.args, p.code.map (onI 0 k)⟩
theorem onI_O (n k : Nat) (op : Int) : onI n k (insO op) = if op = 9 ∨ op = 10 then insA op n else if op = 7 then insA op k else insO op := by
  unfold onI insO insA
  simp only
  split
  · simp
  · split
    · simp
    · rfl
theorem lastI_on (n k : Nat) (c : Cor) : onI n k (lastI c) = lastI c := by
  unfold lastI
  repeat' split
  all_goals simp [onI, insN, insA, insO, insG]
def On (c : Cor) : Prop := ∀ n k at0 pr, genC c (at0 + n) (pr + k) = ((genC c at0 pr).1.map (onI n k), (genC c at0 pr).2.map (onP k))
theorem genL_on : ∀ (l : List Cor), (∀ c ∈ l, On c) → ∀ n k at0 pr, genL l (at0 + n) (pr + k) = ((genL l at0 pr).1.map (onI n k), (genL l at0 pr).2.map (onP k))
  | [], _, n, k, at0, pr => by simp [genL]
  | c :: r, h, n, k, at0, pr => by
    have h1 := h c (by simp) n k at0 pr
    have h2 := genL_on r (fun c hc => h c (List.mem_cons_of_mem _ hc)) n k (at0 + (genC c at0 pr).1.length) (pr + (genC c at0 pr).2.length)
    rw [genL, genL]
    simp only [h1, List.length_map, List.map_append]
    rw [show at0 + n + (genC c at0 pr).1.length = at0 + (genC c at0 pr).1.length + n by omega, show pr + k + (genC c at0 pr).2.length = pr + (genC c at0 pr).2.length + k by omega, h2]
theorem genS_on : ∀ (l : List Cor) (b : Bool), (∀ c ∈ l, On c) → ∀ n k at0 pr, genS l b (at0 + n) (pr + k) = ((genS l b at0 pr).1.map (onI n k), (genS l b at0 pr).2.map (onP k))
  | [], b, _, n, k, at0, pr => by simp [genS]
  | c :: r, b, h, n, k, at0, pr => by
    obtain ⟨p, hp⟩ : ∃ p : List In, p = if b = true then [] else [insO 14] := ⟨_, rfl⟩
    have hpm : p.map (onI n k) = p := by
      rw [hp]
      split
      · rfl
      · simp [onI, insO]
    have h1 := h c (by simp) n k (at0 + p.length) pr
    have h2 := genS_on r false (fun c hc => h c (List.mem_cons_of_mem _ hc)) n k (at0 + p.length + (genC c (at0 + p.length) pr).1.length) (pr + (genC c (at0 + p.length) pr).2.length)
    rw [genS, genS]
    simp only [← hp]
    rw [show at0 + n + p.length = at0 + p.length + n by omega]
    simp only [h1, List.length_map, List.map_append, hpm]
    rw [show at0 + p.length + n + (genC c (at0 + p.length) pr).1.length = at0 + p.length + (genC c (at0 + p.length) pr).1.length + n by omega, show pr + k + (genC c (at0 + p.length) pr).2.length = pr + (genC c (at0 + p.length) pr).2.length + k by omega, h2]
theorem genB_on : ∀ (l : List Cor), (∀ c ∈ l, On c) → ∀ n k at0 pr, genB l (at0 + n) (pr + k) = ((genB l at0 pr).1.map (onI n k), (genB l at0 pr).2.map (onP k))
  | [], _, n, k, at0, pr => by simp [genB]
  | c :: r, h, n, k, at0, pr => by
    have h1 := h c (by simp) n k at0 pr
    have h2 := genB_on r (fun c hc => h c (List.mem_cons_of_mem _ hc)) n k (at0 + (genC c at0 pr).1.length + 1) (pr + (genC c at0 pr).2.length)
    have h3 : onI n k (insO 14) = insO 14 := by simp [onI, insO]
    rw [genB, genB]
    simp only [h1, List.length_map, List.map_append, List.map_cons, h3]
    rw [show at0 + n + (genC c at0 pr).1.length + 1 = at0 + (genC c at0 pr).1.length + 1 + n by omega, show pr + k + (genC c at0 pr).2.length = pr + (genC c at0 pr).2.length + k by omega, h2]
theorem genC_12 (i n : Int) (lb ow : ByteArray) (q : Dat) (ks : List Cor) (at0 pr : Nat) : genC ⟨12, i, n, lb, ow, q, ks⟩ at0 pr = genS ks true at0 pr := by
  rw [genC.eq_def]
  simp only [Int.reduceEq, if_false, if_true]
theorem genC_7else (i n : Int) (lb ow : ByteArray) (q : Dat) (ks : List Cor) (at0 pr : Nat) (h : ks.length ≠ 3) : genC ⟨7, i, n, lb, ow, q, ks⟩ at0 pr = ([], []) := by
  rw [genC.eq_def]
  simp only [Int.reduceEq, if_false, if_true]
  split
  · simp at h
  · rfl
mutual
theorem genC_on : ∀ (c : Cor), On c
  | ⟨k, i, n, lb, ow, q, ks⟩ => by
    have E := each_on ks
    intro m z at0 pr
    by_cases h8 : k = 8
    · subst h8
      match ks, E with
      | [], _ => rw [genC.eq_def, genC.eq_def]; simp
      | b :: r, E =>
        have h1 := E b (by simp) 0 z 0 (pr + 1)
        simp only [Nat.add_zero] at h1
        rw [genC, genC]
        simp only [if_true]
        rw [show pr + z + 1 = pr + 1 + z by omega, h1]
        simp [onI, onP, insA, insO]
    · by_cases h7 : k = 7
      · subst h7
        by_cases h3 : ks.length = 3
        · match ks, h3, E with
          | [x, y, w], _, E =>
            have hx := E x (by simp) m z at0 pr
            have hy := E y (by simp) m z (at0 + (genC x at0 pr).1.length + 1) (pr + (genC x at0 pr).2.length)
            rw [genC, genC]
            simp only [Int.reduceEq, if_false, if_true]
            generalize genC x at0 pr = cx at hx hy ⊢
            simp only [hx, List.length_map]
            rw [show at0 + m + cx.1.length + 1 = at0 + cx.1.length + 1 + m by omega, show pr + z + cx.2.length = pr + cx.2.length + z by omega]
            have hw := E w (by simp) m z (at0 + cx.1.length + 1 + (genC y (at0 + cx.1.length + 1) (pr + cx.2.length)).1.length + 1) (pr + cx.2.length + (genC y (at0 + cx.1.length + 1) (pr + cx.2.length)).2.length)
            generalize genC y (at0 + cx.1.length + 1) (pr + cx.2.length) = cy at hy hw ⊢
            simp only [hy, List.length_map]
            rw [show at0 + cx.1.length + 1 + m + cy.1.length + 1 = at0 + cx.1.length + 1 + cy.1.length + 1 + m by omega, show pr + cx.2.length + z + cy.2.length = pr + cx.2.length + cy.2.length + z by omega]
            generalize genC w (at0 + cx.1.length + 1 + cy.1.length + 1) (pr + cx.2.length + cy.2.length) = cw at hw ⊢
            simp only [hw, List.length_map]
            have e1 : onI m z (insA 10 ((at0 + cx.1.length + 1 + cy.1.length + 1 : Nat) : Int)) = insA 10 ((at0 + cx.1.length + 1 + cy.1.length + 1 + m : Nat) : Int) := by simp [onI, insA]
            have e2 : onI m z (insA 9 ((at0 + cx.1.length + 1 + cy.1.length + 1 + cw.1.length : Nat) : Int)) = insA 9 ((at0 + cx.1.length + 1 + cy.1.length + 1 + m + cw.1.length : Nat) : Int) := by simp [onI, insA]; omega
            simp only [List.map_append, List.map_cons, e1, e2, List.append_assoc]
        · rw [genC_7else i n lb ow q ks _ _ h3, genC_7else i n lb ow q ks _ _ h3]; rfl
      · by_cases h12 : k = 12
        · subst h12
          rw [genC_12, genC_12]
          exact genS_on ks true E m z at0 pr
        · rw [genC_else i n lb ow q ks _ _ h8 h7 h12, genC_else i n lb ow q ks _ _ h8 h7 h12, genL_on ks E m z at0 pr]
          simp [lastI_on]
theorem each_on : ∀ (l : List Cor), ∀ c ∈ l, On c
  | [], c, hc => by cases hc
  | x :: r, c, hc => by
    rcases List.mem_cons.1 hc with e | hc
    · rw [e]; exact genC_on x
    · exact each_on r c hc
end
theorem genB_append : ∀ (a b : List Cor) (at0 pr : Nat), genB (a ++ b) at0 pr = ((genB a at0 pr).1 ++ (genB b (at0 + (genB a at0 pr).1.length) (pr + (genB a at0 pr).2.length)).1, (genB a at0 pr).2 ++ (genB b (at0 + (genB a at0 pr).1.length) (pr + (genB a at0 pr).2.length)).2)
  | [], b, at0, pr => by simp [genB]
  | c :: r, b, at0, pr => by
    have h := genB_append r b (at0 + (genC c at0 pr).1.length + 1) (pr + (genC c at0 pr).2.length)
    rw [List.cons_append, genB, genB]
    simp only [h, List.length_append, List.length_cons, List.append_assoc, List.cons_append]
    generalize genC c at0 pr = x
    generalize genB r (at0 + x.1.length + 1) (pr + x.2.length) = y
    rw [show at0 + (x.1.length + (y.1.length + 1)) = at0 + x.1.length + 1 + y.1.length by omega, show pr + (x.2.length + y.2.length) = pr + x.2.length + y.2.length by omega]
/-- ONE BEHIND THE OTHER. -/
theorem protos_joined (a b : List Cor) : protosOf (a ++ b) = ⟨0, (genB a 0 1).1 ++ ((genB b 0 1).1 ++ [insO 15]).map (onI (genB a 0 1).1.length (genB a 0 1).2.length)⟩ :: ((genB a 0 1).2 ++ (genB b 0 1).2.map (onP (genB a 0 1).2.length)) := by
  have h := genB_on b (each_on b) (genB a 0 1).1.length (genB a 0 1).2.length 0 1
  have h3 : ∀ n k, onI n k (insO 15) = insO 15 := by intro n k; simp [onI, insO]
  unfold protosOf
  rw [genB_append a b 0 1, h]
  simp [h3]
end Go.Proofs.Ytbbmdhkbndgdkaa
