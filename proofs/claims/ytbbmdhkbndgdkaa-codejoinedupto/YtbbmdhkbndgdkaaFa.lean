/- Chapter 8's laws: where jumps go; two parts compiled as one. -/
import Derived.Test.YtbbmdhkbndgdkaaEm
namespace Go.Proofs.Ytbbmdhkbndgdkaa
set_option linter.unusedVariables false
set_option linter.unusedSimpArgs false

/-- Jumps go no further than J, procedures are numbered no higher than C. -/
def JB (J C : Nat) (i : In) : Prop := ((i.op = 9 ∨ i.op = 10) → 0 ≤ i.a ∧ i.a ≤ J) ∧ (i.op = 7 → 0 ≤ i.a ∧ i.a ≤ C)
theorem JB.mono {J C J' C' : Nat} {i : In} (h : JB J C i) (hj : J ≤ J') (hc : C ≤ C') : JB J' C' i :=
  ⟨fun e => ⟨(h.1 e).1, by have := (h.1 e).2; omega⟩, fun e => ⟨(h.2 e).1, by have := (h.2 e).2; omega⟩⟩
theorem JB.plain {J C : Nat} {op : Int} (h9 : op ≠ 9) (h10 : op ≠ 10) (h7 : op ≠ 7) (a n : Int) (lb ow : ByteArray) (q : Dat) : JB J C ⟨op, a, n, lb, ow, q⟩ :=
  ⟨fun e => by rcases e with e | e <;> simp only at e <;> contradiction, fun e => by simp only at e; contradiction⟩
theorem lastI_jb (J C : Nat) (c : Cor) : JB J C (lastI c) := by
  unfold lastI
  repeat' split
  all_goals exact JB.plain (by decide) (by decide) (by decide) _ _ _ _ _
def JG (at0 pr : Nat) (g : List In × List Pro) : Prop := (∀ i ∈ g.1, JB (at0 + g.1.length) (pr + g.2.length) i) ∧ ∀ p ∈ g.2, ∀ i ∈ p.code, JB p.code.length (pr + g.2.length) i
theorem JG.nil (at0 pr : Nat) : JG at0 pr ([], []) := ⟨by simp, by simp⟩
theorem JG.join {at0 pr : Nat} {x y : List In × List Pro} {m : List In} (hx : JG at0 pr x) (hm : ∀ i ∈ m, JB (at0 + (x.1.length + m.length + y.1.length)) (pr + (x.2.length + y.2.length)) i) (hy : JG (at0 + x.1.length + m.length) (pr + x.2.length) y) : JG at0 pr (x.1 ++ m ++ y.1, x.2 ++ y.2) := by
  refine ⟨fun i hi => ?_, fun p hp i hi => ?_⟩
  · simp only [List.length_append]
    rcases List.mem_append.1 hi with hi | hi
    · rcases List.mem_append.1 hi with hi | hi
      · exact (hx.1 i hi).mono (by omega) (by omega)
      · exact hm i hi
    · exact (hy.1 i hi).mono (by omega) (by omega)
  · simp only [List.length_append]
    rcases List.mem_append.1 hp with hp | hp
    · exact (hx.2 p hp i hi).mono (by omega) (by omega)
    · exact (hy.2 p hp i hi).mono (by omega) (by omega)
theorem JG.pre {at0 pr : Nat} {x : List In × List Pro} {m : List In} (hm : ∀ i ∈ m, JB (at0 + (m.length + x.1.length)) (pr + x.2.length) i) (hx : JG (at0 + m.length) pr x) : JG at0 pr (m ++ x.1, x.2) := by
  refine ⟨fun i hi => ?_, fun p hp i hi => hx.2 p hp i hi⟩
  simp only [List.length_append]
  rcases List.mem_append.1 hi with hi | hi
  · exact hm i hi
  · exact (hx.1 i hi).mono (by omega) (by omega)
theorem JG.post {at0 pr : Nat} {x : List In × List Pro} {m : List In} (hx : JG at0 pr x) (hm : ∀ i ∈ m, JB (at0 + (x.1.length + m.length)) (pr + x.2.length) i) : JG at0 pr (x.1 ++ m, x.2) := by
  have := hx.join (m := m) (y := ([], [])) (by simpa using hm) (JG.nil _ _)
  simpa using this
theorem insO_jb (J C : Nat) {op : Int} (h9 : op ≠ 9) (h10 : op ≠ 10) (h7 : op ≠ 7) : JB J C (insO op) := JB.plain h9 h10 h7 _ _ _ _ _
theorem genL_jg : ∀ (l : List Cor), (∀ c ∈ l, ∀ at0 pr, JG at0 pr (genC c at0 pr)) → ∀ at0 pr, JG at0 pr (genL l at0 pr)
  | [], _, at0, pr => by rw [genL]; exact JG.nil _ _
  | c :: r, h, at0, pr => by
    rw [genL]
    have := (h c (by simp) at0 pr).join (m := []) (y := genL r (at0 + (genC c at0 pr).1.length) (pr + (genC c at0 pr).2.length)) (by simp) (genL_jg r (fun c hc => h c (List.mem_cons_of_mem _ hc)) _ _)
    simpa using this
theorem genS_jg : ∀ (l : List Cor) (b : Bool), (∀ c ∈ l, ∀ at0 pr, JG at0 pr (genC c at0 pr)) → ∀ at0 pr, JG at0 pr (genS l b at0 pr)
  | [], b, _, at0, pr => by rw [genS]; exact JG.nil _ _
  | c :: r, b, h, at0, pr => by
    rw [genS]
    obtain ⟨p, hp⟩ : ∃ p : List In, p = if b = true then [] else [insO 14] := ⟨_, rfl⟩
    have hpj : ∀ J C, ∀ i ∈ p, JB J C i := by
      intro J C i hi
      rw [hp] at hi
      split at hi
      · simp at hi
      · simp at hi; rw [hi]; exact insO_jb _ _ (by decide) (by decide) (by decide)
    simp only [← hp]
    have h2 := (h c (by simp) (at0 + p.length) pr).join (m := []) (y := genS r false (at0 + p.length + (genC c (at0 + p.length) pr).1.length) (pr + (genC c (at0 + p.length) pr).2.length)) (by simp) (genS_jg r false (fun c hc => h c (List.mem_cons_of_mem _ hc)) _ _)
    have h3 := JG.pre (m := p) (fun i hi => hpj _ _ i hi) h2
    simpa using h3
theorem genB_jg : ∀ (l : List Cor), (∀ c ∈ l, ∀ at0 pr, JG at0 pr (genC c at0 pr)) → ∀ at0 pr, JG at0 pr (genB l at0 pr)
  | [], _, at0, pr => by rw [genB]; exact JG.nil _ _
  | c :: r, h, at0, pr => by
    rw [genB]
    have := (h c (by simp) at0 pr).join (m := [insO 14]) (y := genB r (at0 + (genC c at0 pr).1.length + 1) (pr + (genC c at0 pr).2.length)) (fun i hi => by simp at hi; rw [hi]; exact insO_jb _ _ (by decide) (by decide) (by decide)) (genB_jg r (fun c hc => h c (List.mem_cons_of_mem _ hc)) _ _)
    simpa using this
theorem insA_jb {op : Int} (J C : Nat) (a : Nat) (h : op ≠ 7) (ha : a ≤ J) : JB J C (insA op (a : Nat)) :=
  ⟨fun _ => ⟨by simp [insA], by simp [insA]; omega⟩, fun e => by simp [insA] at e; contradiction⟩
mutual
theorem genC_jg : ∀ (c : Cor), ∀ at0 pr, JG at0 pr (genC c at0 pr)
  | ⟨k, i, n, lb, ow, q, ks⟩, at0, pr => by
    have E := each_jg ks
    by_cases h8 : k = 8
    · subst h8
      match ks, E with
      | [], _ => rw [genC.eq_def]; simp only [if_true]; exact JG.nil _ _
      | b :: r, E =>
        have h1 := E b (by simp) 0 (pr + 1)
        rw [genC]
        simp only [if_true]
        refine ⟨fun i hi => ?_, fun p hp i hi => ?_⟩
        · simp at hi
          rw [hi]
          exact ⟨fun e => by simp [insA] at e, fun _ => ⟨by simp [insA], by simp [insA]; omega⟩⟩
        · rcases List.mem_cons.1 hp with rfl | hp
          · simp only at hi ⊢
            rcases List.mem_append.1 hi with hi | hi
            · exact (h1.1 i hi).mono (by simp) (by simp; omega)
            · simp at hi; rw [hi]; exact insO_jb _ _ (by decide) (by decide) (by decide)
          · exact (h1.2 p hp i hi).mono (by omega) (by simp; omega)
    · by_cases h7 : k = 7
      · subst h7
        by_cases h3 : ks.length = 3
        · match ks, h3, E with
          | [x, y, w], _, E =>
            have hx := E x (by simp) at0 pr
            have hy := E y (by simp) (at0 + (genC x at0 pr).1.length + 1) (pr + (genC x at0 pr).2.length)
            have hw := E w (by simp) (at0 + (genC x at0 pr).1.length + 1 + (genC y (at0 + (genC x at0 pr).1.length + 1) (pr + (genC x at0 pr).2.length)).1.length + 1) (pr + (genC x at0 pr).2.length + (genC y (at0 + (genC x at0 pr).1.length + 1) (pr + (genC x at0 pr).2.length)).2.length)
            rw [genC]
            simp only [Int.reduceEq, if_false, if_true]
            generalize genC x at0 pr = cx at hx hy hw ⊢
            generalize genC y (at0 + cx.1.length + 1) (pr + cx.2.length) = cy at hy hw ⊢
            generalize genC w (at0 + cx.1.length + 1 + cy.1.length + 1) (pr + cx.2.length + cy.2.length) = cw at hw ⊢
            have h1 : JG at0 pr ((cx.1 ++ [insA 10 (at0 + cx.1.length + 1 + cy.1.length + 1 : Nat)] ++ cy.1) ++ [insA 9 (at0 + cx.1.length + 1 + cy.1.length + 1 + cw.1.length : Nat)] ++ cw.1, (cx.2 ++ cy.2) ++ cw.2) := by
              obtain ⟨z, hz⟩ : ∃ z, z = [insA 10 (at0 + cx.1.length + 1 + cy.1.length + 1 : Nat)] ++ cy.1 := ⟨_, rfl⟩
              have hyz : JG (at0 + cx.1.length) (pr + cx.2.length) (z, cy.2) ∨ True := Or.inr trivial
              refine ⟨fun i hi => ?_, fun p hp i hi => ?_⟩
              · simp only [List.length_append, List.length_singleton]
                rcases List.mem_append.1 hi with hi | hi
                · rcases List.mem_append.1 hi with hi | hi
                  · rcases List.mem_append.1 hi with hi | hi
                    · rcases List.mem_append.1 hi with hi | hi
                      · exact (hx.1 i hi).mono (by omega) (by omega)
                      · simp only [List.mem_singleton] at hi; rw [hi]; exact insA_jb _ _ _ (by decide) (by omega)
                    · exact (hy.1 i hi).mono (by omega) (by omega)
                  · simp only [List.mem_singleton] at hi; rw [hi]; exact insA_jb _ _ _ (by decide) (by omega)
                · exact (hw.1 i hi).mono (by omega) (by omega)
              · simp only [List.length_append]
                rcases List.mem_append.1 hp with hp | hp
                · rcases List.mem_append.1 hp with hp | hp
                  · exact (hx.2 p hp i hi).mono (by omega) (by omega)
                  · exact (hy.2 p hp i hi).mono (by omega) (by omega)
                · exact (hw.2 p hp i hi).mono (by omega) (by omega)
            simpa using h1
        · rw [genC_7else i n lb ow q ks _ _ h3]; exact JG.nil _ _
      · by_cases h12 : k = 12
        · subst h12
          rw [genC_12]
          exact genS_jg ks true E at0 pr
        · rw [genC_else i n lb ow q ks _ _ h8 h7 h12]
          exact (genL_jg ks E at0 pr).post (fun i hi => by simp at hi; rw [hi]; exact lastI_jb _ _ _)
theorem each_jg : ∀ (l : List Cor), ∀ c ∈ l, ∀ at0 pr, JG at0 pr (genC c at0 pr)
  | [], c, hc => by cases hc
  | x :: r, c, hc => by
    rcases List.mem_cons.1 hc with e | hc
    · rw [e]; exact genC_jg x
    · exact each_jg r c hc
end
theorem compile_ok {l : List Cor} (h : (compile l).1 = 0) : (compile l).2 = protosOf l ∧ muchP (protosOf l) = false := by
  unfold compile at h ⊢
  by_cases a : wrongB l = 0
  · rw [if_neg (by simpa using a)] at h ⊢
    by_cases b : muchP (protosOf l) = true
    · rw [if_pos b] at h; simp at h
    · rw [if_neg b]; exact ⟨rfl, by simpa using b⟩
  · rw [if_pos (by simpa using a)] at h
    exact absurd h a
theorem muchP_no {l : List Pro} (h : muchP l = false) : l.length ≤ 500 ∧ ∀ p ∈ l, p.code.length ≤ 6000 := by
  unfold muchP at h
  simp only [Bool.or_eq_false_iff, decide_eq_false_iff_not, Nat.not_lt, List.any_eq_false, decide_eq_true_eq] at h
  exact ⟨h.1, fun p hp => by have := h.2 p hp; omega⟩
theorem protos_jb {l : List Cor} (h : muchP (protosOf l) = false) : ∀ p ∈ protosOf l, ∀ i ∈ p.code, JB 6000 500 i := by
  obtain ⟨h1, h2⟩ := muchP_no h
  have hg := genB_jg l (each_jg l) 0 1
  intro p hp i hi
  have hl := h2 p hp
  unfold protosOf at hp h1
  simp at h1
  rcases List.mem_cons.1 hp with rfl | hp
  · simp only at hi hl
    rcases List.mem_append.1 hi with hi | hi
    · simp at hl
      exact (hg.1 i hi).mono (by omega) (by omega)
    · simp at hi; rw [hi]; exact insO_jb _ _ (by decide) (by decide) (by decide)
  · exact (hg.2 p hp i hi).mono hl (by omega)
/-- TWO PARTS COMPILED AS ONE. -/
theorem compile_joined {a b : List Cor} (ha : (compile a).1 = 0) (hb : (compile b).1 = 0) (hab : (compile (a ++ b)).1 = 0) :
    ∃ ca ta cb tb, (compile a).2 = ⟨0, ca ++ [insO 15]⟩ :: ta ∧ (compile b).2 = ⟨0, cb⟩ :: tb ∧ (compile (a ++ b)).2 = ⟨0, ca ++ cb.map (onI ca.length ta.length)⟩ :: (ta ++ tb.map (onP ta.length)) ∧
      ca.length ≤ 6000 ∧ ta.length ≤ 500 ∧ cb.length ≤ 6000 ∧ tb.length ≤ 500 ∧ (∀ i ∈ cb, JB 6000 500 i) ∧ (∀ p ∈ ta, p.code.length ≤ 6000) ∧ ∀ p ∈ tb, p.code.length ≤ 6000 ∧ ∀ i ∈ p.code, JB 6000 500 i := by
  obtain ⟨a1, a2⟩ := compile_ok ha
  obtain ⟨b1, b2⟩ := compile_ok hb
  obtain ⟨x1, x2⟩ := compile_ok hab
  have a3 := muchP_no a2
  have b3 := muchP_no b2
  have b4 := protos_jb b2
  rw [a1, b1, x1]
  rw [protos_joined]
  unfold protosOf at a3 b3 b4 ⊢
  refine ⟨_, _, _, _, rfl, rfl, rfl, ?_, ?_, ?_, ?_, ?_, ?_, ?_⟩
  · have := a3.2 _ (List.mem_cons_self ..); simp at this; omega
  · have := a3.1; simp at this; omega
  · have := b3.2 _ (List.mem_cons_self ..); simp at this ⊢; omega
  · have := b3.1; simp at this; omega
  · exact fun i hi => b4 _ (List.mem_cons_self ..) i hi
  · exact fun p hp => a3.2 p (List.mem_cons_of_mem _ hp)
  · exact fun p hp => ⟨b3.2 p (List.mem_cons_of_mem _ hp), fun i hi => b4 p (List.mem_cons_of_mem _ hp) i hi⟩
end Go.Proofs.Ytbbmdhkbndgdkaa
