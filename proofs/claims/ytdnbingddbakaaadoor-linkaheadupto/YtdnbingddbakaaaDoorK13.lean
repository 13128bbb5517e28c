/- Chapter 9, plainly: each procedure that is compiled is made once; what is wrong with procedures; with a unit. -/
import Derived.Test.YtdnbingddbakaaaDoorK12
namespace Go.Proofs.YtdnbingddbakaaaDoor
set_option linter.unusedVariables false
set_option linter.unusedSimpArgs false

/-- The procedures that code makes. -/
def tg (code : List In) : List Nat := code.filterMap fun x => if x.op = 7 then some x.a.toNat else none
theorem tg_app (a b : List In) : tg (a ++ b) = tg a ++ tg b := by simp [tg]
def TgP (pr : Nat) (seg : List In) (ps : List Pro) : Prop := (tg seg ++ ps.flatMap fun P => tg P.code).Perm (List.range' pr ps.length)
theorem TgP.nil (pr : Nat) : TgP pr [] [] := List.Perm.refl _
theorem TgP.app {pr : Nat} {s1 s2 : List In} {p1 p2 : List Pro} (h1 : TgP pr s1 p1) (h2 : TgP (pr + p1.length) s2 p2) : TgP pr (s1 ++ s2) (p1 ++ p2) := by
  unfold TgP at *
  rw [tg_app, List.flatMap_append, List.length_append, ← List.range'_append_1]
  refine List.Perm.trans ?_ (List.Perm.append h1 h2)
  simp only [List.append_assoc]
  exact List.Perm.append_left _ (List.perm_append_comm_assoc _ _ _)
theorem TgP.one {pr : Nat} {x : In} (h : x.op ≠ 7) : TgP pr [x] [] := by
  unfold TgP
  simp [tg, h]
def Tg (c : Cor) : Prop := ∀ at0 pr, TgP pr (genC c at0 pr).1 (genC c at0 pr).2
theorem genL_Tg : ∀ (l : List Cor), (∀ c, c ∈ l → Tg c) → ∀ at0 pr, TgP pr (genL l at0 pr).1 (genL l at0 pr).2
  | [], _, at0, pr => by rw [genL]; exact TgP.nil _
  | c :: r, hl, at0, pr => by
    rw [genL]
    exact TgP.app (hl c List.mem_cons_self at0 pr) (genL_Tg r (fun c m => hl c (List.mem_cons_of_mem _ m)) _ _)
theorem genS_Tg : ∀ (l : List Cor), (∀ c, c ∈ l → Tg c) → ∀ fst at0 pr, TgP pr (genS l fst at0 pr).1 (genS l fst at0 pr).2
  | [], _, fst, at0, pr => by rw [genS]; exact TgP.nil _
  | c :: r, hl, fst, at0, pr => by
    rw [genS]
    simp only
    generalize hp : (if fst = true then ([] : List In) else [insO 14]) = p
    have hpp : TgP pr p [] := by
      rw [← hp]
      split
      · exact TgP.nil _
      · exact TgP.one (by simp [insO])
    have h1 := TgP.app hpp (hl c List.mem_cons_self (at0 + p.length) (pr + 0))
    rw [List.nil_append] at h1
    exact TgP.app h1 (genS_Tg r (fun c m => hl c (List.mem_cons_of_mem _ m)) _ _ _)
theorem tg_of : ∀ (f : Nat) (ar : Int) (c : Cor) (n : Nat), (ckC f ar c n).1 = 0 → Tg c
  | 0, ar, c, n, h => by simp [ckC] at h
  | f + 1, ar, c, n, h => by
    obtain ⟨h1, h2, h3⟩ := ckC_parts h
    have hk : ∀ k, k ∈ c.kids → Tg k := fun k m => by obtain ⟨n', e⟩ := h3 k m; exact tg_of f _ k n' e
    clear h h3 h2
    obtain ⟨k, i, nn, lb, ow, q, ks⟩ := c
    simp only at h1 hk
    intro at0 pr
    rw [genC.eq_def]
    simp only
    by_cases k8 : k = 8
    · subst k8
      simp only [if_true]
      rcases ks with _ | ⟨b, r⟩
      · exact TgP.nil _
      · have hb := hk b (by simp) 0 (pr + 1)
        unfold TgP at hb ⊢
        simp only [List.flatMap_cons, tg_app, List.length_cons, List.range'_succ]
        have e1 : tg [insA 7 pr] = [pr] := by simp [tg, insA]
        have e2 : tg [insO 15] = [] := by simp [tg, insO]
        rw [e1, e2, List.append_nil]
        exact List.Perm.cons _ hb
    · rw [if_neg k8]
      by_cases k7 : k = 7
      · subst k7
        simp only [if_true]
        have hl : ks.length = 3 := by
          simp [wkids] at h1
          exact h1
        match ks, hl, hk with
        | [x, y, z], _, hk =>
          simp only
          have hx := hk x (by simp) at0 pr
          generalize genC x at0 pr = cx at hx ⊢
          have hy := hk y (by simp) (at0 + cx.1.length + 1) (pr + cx.2.length)
          generalize genC y (at0 + cx.1.length + 1) (pr + cx.2.length) = cy at hy ⊢
          have hz := hk z (by simp) (at0 + cx.1.length + 1 + cy.1.length + 1) (pr + cx.2.length + cy.2.length)
          generalize genC z (at0 + cx.1.length + 1 + cy.1.length + 1) (pr + cx.2.length + cy.2.length) = cz at hz ⊢
          have j1 : TgP (pr + cx.2.length) [insA 10 (at0 + cx.1.length + 1 + cy.1.length + 1 : Nat)] [] := TgP.one (by simp [insA])
          have j2 : TgP (pr + (cx.2 ++ ([] ++ cy.2)).length) [insA 9 (at0 + cx.1.length + 1 + cy.1.length + 1 + cz.1.length : Nat)] [] := TgP.one (by simp [insA])
          have g2 := TgP.app (TgP.app hx (TgP.app j1 hy)) (TgP.app j2 (s2 := cz.1) (p2 := cz.2) (by simpa [Nat.add_assoc] using hz))
          simpa [List.append_assoc] using g2
      · rw [if_neg k7]
        by_cases k12 : k = 12
        · subst k12
          simp only [if_true]
          exact genS_Tg ks hk true at0 pr
        · rw [if_neg k12]
          have kk : k = 1 ∨ k = 2 ∨ k = 3 ∨ k = 4 ∨ k = 5 ∨ k = 6 ∨ k = 9 ∨ k = 10 ∨ k = 11 ∨ k = 13 := by
            unfold wkids at h1
            (repeat' split at h1) <;> omega
          have := TgP.app (genL_Tg ks hk at0 pr) (TgP.one (x := lastI ⟨k, i, nn, lb, ow, q, ks⟩) (by
            rcases kk with rfl | rfl | rfl | rfl | rfl | rfl | rfl | rfl | rfl | rfl <;> simp [lastI, insN, insO, insA, insG]))
          simpa using this

/-- What is known of procedures: whether it is a body; how many parameters are around. -/
abbrev Kn := List (Option (Bool × Int))
def aro (K : Kn) (q : Nat) : Int := match K.getD q none with | some x => x.2 | none => 0
def closeW (PP : List Pro) (q : Nat) (a : Int) (K : Kn) : Int × Kn :=
  if a ≤ q ∨ (PP.length : Int) ≤ a then (3, K)
  else if (K.getD a.toNat none).isSome then (8, K)
  else (0, K.set a.toNat (some (false, aro K q + (PP.getD a.toNat ⟨0, []⟩).args)))
/-- What is wrong with an instruction. -/
def insW (PP : List Pro) (gl : In → Int) (q len : Nat) (x : In) (K : Kn) : Int × Kn :=
  if x.op = 1 then (if -1000000000000000 ≤ x.n ∧ x.n ≤ 1000000000000000 then 0 else 3, K)
  else if x.op = 2 then (if x.n = 0 ∨ x.n = 1 then 0 else 3, K)
  else if x.op = 3 then ((wrong [x.quote]).1, K)
  else if x.op = 4 ∨ x.op = 11 then (if 0 ≤ x.a ∧ x.a < aro K q then 0 else 3, K)
  else if x.op = 5 ∨ x.op = 12 ∨ x.op = 13 then (gl x, K)
  else if x.op = 6 then (if argsB x.own = 0 then 7 else 0, K)
  else if x.op = 7 then closeW PP q x.a K
  else if x.op = 8 then (if 0 ≤ x.a ∧ x.a ≤ 2000 then 0 else 3, K)
  else if x.op = 9 ∨ x.op = 10 then (if 0 ≤ x.a ∧ x.a < len then 0 else 3, K)
  else if x.op = 14 ∨ x.op = 15 then (0, K) else (1, K)
def codeW (PP : List Pro) (gl : In → Int) (q len : Nat) : List In → Kn → Int × Kn
  | [], K => (0, K)
  | x :: r, K => if (insW PP gl q len x K).1 = 0 then codeW PP gl q len r (insW PP gl q len x K).2 else insW PP gl q len x K
def protoW (PP : List Pro) (gl : In → Int) (q : Nat) (K : Kn) : Int × Kn :=
  match K.getD q none with
  | none => (8, K)
  | some s => if (codeW PP gl q (PP.getD q ⟨0, []⟩).code.length (PP.getD q ⟨0, []⟩).code K).1 = 0
    then (if stackOk (PP.getD q ⟨0, []⟩).code s.1 then 0 else 8, (codeW PP gl q (PP.getD q ⟨0, []⟩).code.length (PP.getD q ⟨0, []⟩).code K).2)
    else codeW PP gl q (PP.getD q ⟨0, []⟩).code.length (PP.getD q ⟨0, []⟩).code K
def protosW (PP : List Pro) (gl : In → Int) : Nat → Nat → Kn → Int
  | 0, _, _ => 0
  | n + 1, q, K => if (protoW PP gl q K).1 = 0 then protosW PP gl n (q + 1) (protoW PP gl q K).2 else (protoW PP gl q K).1
def sizesW : List Pro → Int
  | [] => 0
  | P :: r => if P.code.length < 1 ∨ 6000 < P.code.length then 5 else if P.args < 0 ∨ 2000 < P.args then 3 else sizesW r
def bodiesW (PP : List Pro) : List Int → Kn → Int × Kn
  | [], K => (0, K)
  | b :: r, K => if b < 0 ∨ (PP.length : Int) ≤ b then (3, K) else if (PP.getD b.toNat ⟨0, []⟩).args ≠ 0 then (3, K) else bodiesW PP r (K.set b.toNat (some (true, 0)))
/-- WHAT IS WRONG WITH PROCEDURES, some of which are bodies. -/
def wrongPs (PP : List Pro) (bodies : List Int) (gl : In → Int) : Int :=
  if sizesW PP ≠ 0 then sizesW PP
  else if (bodiesW PP bodies (List.replicate PP.length none)).1 ≠ 0 then (bodiesW PP bodies (List.replicate PP.length none)).1
  else protosW PP gl PP.length 0 (bodiesW PP bodies (List.replicate PP.length none)).2
def plainB (s : ByteArray) : Bool := decide (s.size ≤ 60) && s.data.toList.all fun c => decide (32 ≤ c.toNat) && decide (c.toNat ≤ 126)
def nameW (x : In) : Int := if plainB x.lib && namedB x.own then 0 else 7
/-- WHAT IS WRONG WITH A UNIT. -/
def wrongU (nm : ByteArray) (PP : List Pro) : Int :=
  if plainB nm = false then 7 else if PP.length < 1 ∨ 500 < PP.length then 5 else wrongPs PP [0] nameW
end Go.Proofs.YtdnbingddbakaaaDoor
