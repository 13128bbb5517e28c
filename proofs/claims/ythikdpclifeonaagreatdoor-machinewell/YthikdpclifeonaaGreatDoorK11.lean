/- Chapter 9, plainly: each instruction of what is compiled is right where it stands. Chapter 9, plainly: each procedure that is compiled is made once; what is wrong with procedures; with a unit. -/
import Derived.Test.YthikdpclifeonaaGreatDoorK01
import Derived.Test.YthikdpclifeonaaGreatDoorK10
namespace Go.Proofs.YthikdpclifeonaaGreatDoor
section
set_option linter.unusedVariables false
set_option linter.unusedSimpArgs false

theorem stack_of {code : List In} {m : Int} {body : Bool} (h : SW code 0 0 m) (hz : code = [] → m = 0) (hm : m = if body then 0 else 1) : stackOk (code ++ [insO 15]) body = true := by
  unfold stackOk
  have hlen : (code ++ [insO 15]).length = code.length + 1 := by simp
  rw [hlen]
  have e0 : ((List.replicate (code.length + 1) (-1 : Int)).set 0 0)[0]? = some 0 := by simp
  have en : ∀ q, 0 < q → q < code.length + 1 → ((List.replicate (code.length + 1) (-1 : Int)).set 0 0)[q]? = some (-1) := fun q a b => by
    rw [List.getElem?_set_ne (by omega), List.getElem?_replicate, if_pos b]
  obtain ⟨H', l', e', u', w'⟩ := h [insO 15] _ (if body then 0 else 1) (by simp) e0 (fun q a b => en q a (by omega)) (by
    by_cases hc : code = []
    · right; rw [hz hc, hc]; simp
    · have := List.length_pos_iff.2 hc
      left; exact en _ (by omega) (by omega))
  rw [w', walkS, getD_of e']
  have hge : ¬ (0 + m = -1) := by rw [hm]; split <;> omega
  rw [if_neg hge]
  have : leaveH (if body then 0 else 1) H' (0 + code.length) (insO 15) = some H' := by
    unfold leaveH
    rw [getD_of e']
    have mv : movesI (insO 15) = (0, 0) := by simp [movesI, insO]
    rw [mv, if_neg (by show ¬ (0 + m < 0); rw [hm]; split <;> omega), if_pos (show (insO 15).op = 15 from rfl)]
    rw [if_pos (by show 0 + m - 0 + 0 = _; omega)]
  rw [this]
  rfl

/-- How many parameters are around each procedure of an expression's. -/
def aroundsOf : Nat → Cor → Int → List Int
  | 0, _, _ => []
  | f + 1, c, ar => if c.kind = 8 then (match c.kids with | b :: _ => (ar + c.index) :: aroundsOf f b (ar + c.index) | [] => []) else c.kids.flatMap fun k => aroundsOf f k ar

/-- An instruction that is right in procedure q, ar parameters around, jumps up to lim. -/
structure OkI (PP : List Pro) (AA : List Int) (q : Nat) (ar : Int) (lim : Nat) (x : In) : Prop where
  kind : 1 ≤ x.op ∧ x.op ≤ 15
  num : x.op = 1 → -1000000000000000 ≤ x.n ∧ x.n ≤ 1000000000000000
  boo : x.op = 2 → x.n = 0 ∨ x.n = 1
  quo : x.op = 3 → (wrong [x.quote]).1 = 0
  loc : x.op = 4 ∨ x.op = 11 → 0 ≤ x.a ∧ x.a < ar
  pri : x.op = 6 → argsB x.own ≠ 0
  clo : x.op = 7 → ∃ t : Nat, x.a = t ∧ q < t ∧ ∃ P, PP[t]? = some P ∧ AA[t]? = some (ar + P.args)
  cal : x.op = 8 → 0 ≤ x.a
  jum : x.op = 9 ∨ x.op = 10 → 0 ≤ x.a ∧ x.a ≤ lim
structure OkP (PP : List Pro) (AA : List Int) (q : Nat) (P : Pro) (a : Int) : Prop where
  args : 0 ≤ P.args ∧ P.args ≤ 2000
  ne : P.code ≠ []
  st : stackOk P.code false = true
  ins : ∀ x, x ∈ P.code → OkI PP AA q a (P.code.length - 1) x
def Emb (PP : List Pro) (AA : List Int) (pr : Nat) (ps : List Pro) (az : List Int) : Prop := ∀ j, j < ps.length → PP[pr + j]? = ps[j]? ∧ AA[pr + j]? = az[j]?
def GdP (PP : List Pro) (AA : List Int) (e pr : Nat) (seg : List In) (ps : List Pro) (ar : Int) (az : List Int) : Prop :=
  az.length = ps.length ∧ (Emb PP AA pr ps az → ∀ q lim, q < pr → e ≤ lim → (∀ x, x ∈ seg → OkI PP AA q ar lim x) ∧ ∀ j P a, ps[j]? = some P → az[j]? = some a → OkP PP AA (pr + j) P a)

theorem GdP.mono {PP AA e e' pr seg ps ar az} (h : GdP PP AA e pr seg ps ar az) (he : e ≤ e') : GdP PP AA e' pr seg ps ar az := ⟨h.1, fun m q lim a b => h.2 m q lim a (by omega)⟩
theorem GdP.nil (PP AA e pr ar) : GdP PP AA e pr [] [] ar [] := ⟨rfl, fun _ q lim _ _ => ⟨fun x hx => by simp at hx, fun j P a h => by simp at h⟩⟩
theorem GdP.app {PP AA e pr s1 s2 p1 p2 ar a1 a2} (h1 : GdP PP AA e pr s1 p1 ar a1) (h2 : GdP PP AA e (pr + p1.length) s2 p2 ar a2) : GdP PP AA e pr (s1 ++ s2) (p1 ++ p2) ar (a1 ++ a2) := by
  obtain ⟨l1, g1⟩ := h1
  obtain ⟨l2, g2⟩ := h2
  refine ⟨by simp [l1, l2], fun m q lim hq hl => ?_⟩
  have m1 : Emb PP AA pr p1 a1 := fun j hj => by
    have := m j (by rw [List.length_append]; omega)
    rw [List.getElem?_append_left hj, List.getElem?_append_left (by omega)] at this
    exact this
  have m2 : Emb PP AA (pr + p1.length) p2 a2 := fun j hj => by
    have := m (p1.length + j) (by rw [List.length_append]; omega)
    rw [List.getElem?_append_right (by omega), List.getElem?_append_right (by omega)] at this
    rw [l1, Nat.add_sub_cancel_left, ← Nat.add_assoc] at this
    exact this
  obtain ⟨x1, y1⟩ := g1 m1 q lim hq hl
  obtain ⟨x2, y2⟩ := g2 m2 q lim (by omega) hl
  refine ⟨fun x hx => (List.mem_append.1 hx).elim (x1 x) (x2 x), fun j P a hP ha => ?_⟩
  by_cases hj : j < p1.length
  · rw [List.getElem?_append_left hj] at hP
    rw [List.getElem?_append_left (by omega)] at ha
    exact y1 j P a hP ha
  · rw [List.getElem?_append_right (by omega)] at hP
    rw [List.getElem?_append_right (by omega), l1] at ha
    have := y2 (j - p1.length) P a hP ha
    rw [show pr + p1.length + (j - p1.length) = pr + j by omega] at this
    exact this
theorem GdP.one {PP AA e pr ar x} (h : ∀ q lim, q < pr → e ≤ lim → OkI PP AA q ar lim x) : GdP PP AA e pr [x] [] ar [] := ⟨rfl, fun _ q lim a b => ⟨fun y hy => by rw [List.mem_singleton.1 hy]; exact h q lim a b, fun j P a h => by simp at h⟩⟩

/-- Bare data are right, if what they come of is. -/
theorem chk_bare : ∀ (f : Nat) (d : Dat) (n : Nat), (chk f d n).1 = 0 → chk f (bareQ d) n = chk f d n
  | 0, d, n, h => rfl
  | f + 1, ⟨k, nn, nm, st, lb, ks⟩, n, h => by
    have hk : ∀ (l : List Dat) (n : Nat), (chkL (chk f) l n).1 = 0 → chkL (chk f) (bareQL l) n = chkL (chk f) l n := by
      intro l
      induction l with
      | nil => intro n _; rfl
      | cons d r ih =>
        intro n h
        unfold chkL at h
        by_cases e : (chk f d n).1 = 0
        · rw [if_pos e] at h
          rw [bareQL, chkL, chk_bare f d n e, if_pos e, ih _ h, chkL, if_pos e]
        · rw [if_neg e] at h; exact absurd h e
    unfold chk at h ⊢
    rw [bareQ]
    by_cases a : 2000 < n + 1
    · rw [if_pos a] at h; simp at h
    rw [if_neg a] at h
    rw [if_neg a, if_neg a]
    by_cases b : alone ⟨k, nn, nm, st, lb, ks⟩ = 0
    · rw [if_pos b] at h
      have hb : alone ⟨k, if k = 1 ∨ k = 2 then nn else 0, if k = 3 then nm else ⟨#[]⟩, 0, 0, if k = 4 then bareQL ks else []⟩ = 0 := by
        unfold alone at b ⊢
        simp only at b ⊢
        by_cases k1 : k = 1
        · simp [k1] at b ⊢; exact b
        by_cases k2 : k = 2
        · simp [k2] at b ⊢; exact b
        by_cases k3 : k = 3
        · simp [k3] at b ⊢
          cases hn : namedB nm with
          | true => rfl
          | false => simp [hn] at b
        by_cases k4 : k = 4
        · simp [k4]
        simp [k1, k2, k3, k4] at b
      rw [if_pos hb, if_pos b]
      by_cases k4 : k = 4
      · simp only [k4, if_true] at h ⊢
        exact hk ks _ h
      · simp [k4]
    · rw [if_neg b] at h; exact absurd h b
theorem wrong_bare {d : Dat} (h : (wrong [d]).1 = 0) : (wrong [bareQ d]).1 = 0 := by
  unfold wrong wrongFrom at h ⊢
  by_cases e : (chk 40 d 0).1 = 0
  · rw [chk_bare 40 d 0 e, if_pos e]; rfl
  · rw [if_neg e] at h; exact absurd h e

def Gd (PP : List Pro) (AA : List Int) (c : Cor) (ar : Int) (az : List Int) : Prop := ∀ at0 pr, GdP PP AA (at0 + (genC c at0 pr).1.length) pr (genC c at0 pr).1 (genC c at0 pr).2 ar az
theorem genL_Gd {PP AA ar} (ga : Cor → List Int) : ∀ (l : List Cor), (∀ c, c ∈ l → Gd PP AA c ar (ga c)) → ∀ at0 pr, GdP PP AA (at0 + (genL l at0 pr).1.length) pr (genL l at0 pr).1 (genL l at0 pr).2 ar (l.flatMap ga)
  | [], _, at0, pr => by rw [genL]; exact GdP.nil _ _ _ _ _
  | c :: r, hl, at0, pr => by
    rw [genL, List.flatMap_cons]
    have hc := hl c List.mem_cons_self at0 pr
    have hr := genL_Gd ga r (fun c m => hl c (List.mem_cons_of_mem _ m)) (at0 + (genC c at0 pr).1.length) (pr + (genC c at0 pr).2.length)
    exact GdP.app (hc.mono (by simp only [List.length_append]; omega)) (hr.mono (by simp only [List.length_append]; omega))
theorem pop_ok (PP AA q ar lim) : OkI PP AA q ar lim (insO 14) := by constructor <;> simp [insO]
theorem ret_ok (PP AA q ar lim) : OkI PP AA q ar lim (insO 15) := by constructor <;> simp [insO]
theorem genS_Gd {PP AA ar} (ga : Cor → List Int) : ∀ (l : List Cor), (∀ c, c ∈ l → Gd PP AA c ar (ga c)) → ∀ fst at0 pr, GdP PP AA (at0 + (genS l fst at0 pr).1.length) pr (genS l fst at0 pr).1 (genS l fst at0 pr).2 ar (l.flatMap ga)
  | [], _, fst, at0, pr => by rw [genS]; exact GdP.nil _ _ _ _ _
  | c :: r, hl, fst, at0, pr => by
    rw [genS, List.flatMap_cons]
    simp only
    generalize hp : (if fst = true then ([] : List In) else [insO 14]) = p
    have hc := hl c List.mem_cons_self (at0 + p.length) pr
    have hr := genS_Gd ga r (fun c m => hl c (List.mem_cons_of_mem _ m)) false (at0 + p.length + (genC c (at0 + p.length) pr).1.length) (pr + (genC c (at0 + p.length) pr).2.length)
    have hpp : ∀ e, GdP PP AA e pr p [] ar [] := fun e => by
      rw [← hp]
      split
      · exact GdP.nil _ _ _ _ _
      · exact GdP.one (fun q lim _ _ => pop_ok _ _ _ _ _)
    have h1 := GdP.app (hpp (at0 + (p ++ (genC c (at0 + p.length) pr).1 ++ (genS r false (at0 + p.length + (genC c (at0 + p.length) pr).1.length) (pr + (genC c (at0 + p.length) pr).2.length)).1).length)) (hc.mono (by simp; omega))
    rw [List.nil_append, List.nil_append] at h1
    exact GdP.app h1 (hr.mono (by simp; omega))

theorem gd_of (PP AA) : ∀ (f : Nat) (ar : Int) (c : Cor) (n : Nat), (ckC f ar c n).1 = 0 → Gd PP AA c ar (aroundsOf f c ar)
  | 0, ar, c, n, h => by simp [ckC] at h
  | f + 1, ar, c, n, h => by
    have hup := up_of _ _ _ _ h
    obtain ⟨h1, h2, h3⟩ := ckC_parts h
    have hk : ∀ k, k ∈ c.kids → Gd PP AA k (if c.kind = 8 then ar + c.index else ar) (aroundsOf f k (if c.kind = 8 then ar + c.index else ar)) ∧ Up k := fun k m => by obtain ⟨n', e⟩ := h3 k m; exact ⟨gd_of PP AA f _ k n' e, up_of _ _ _ _ e⟩
    clear h h3
    obtain ⟨k, i, nn, lb, ow, q, ks⟩ := c
    simp only at h1 h2 hk
    intro at0 pr
    rw [aroundsOf]
    rw [genC.eq_def]
    simp only
    by_cases k8 : k = 8
    · subst k8
      simp only [if_true] at hk ⊢
      have hl : ks.length = 1 := by
        simp [wkids] at h1
        exact h1
      have hi : 0 ≤ i ∧ i ≤ 2000 := by
        simp [wfields] at h2
        exact h2
      match ks, hl, hk with
      | [b], _, hk =>
        obtain ⟨hb, ub⟩ := hk b (by simp)
        have hb' := hb 0 (pr + 1)
        have hu := ub 0 (pr + 1) 0 (by omega)
        refine ⟨by simp [hb'.1], fun m q lim hq hl => ?_⟩
        have m0 := m 0 (by simp)
        simp only [Nat.add_zero, List.getElem?_cons_zero] at m0
        have m1 : Emb PP AA (pr + 1) (genC b 0 (pr + 1)).2 (aroundsOf f b (ar + i)) := fun j hj => by
          have := m (j + 1) (by simp; omega)
          simp only [List.getElem?_cons_succ] at this
          rw [show pr + 1 + j = pr + (j + 1) by omega]
          exact this
        obtain ⟨x1, y1⟩ := hb'.2 m1 pr _ (by omega) (Nat.le_refl _)
        refine ⟨fun x hx => ?_, fun j P a hP ha => ?_⟩
        · rw [List.mem_singleton.1 hx]
          refine ⟨?_, ?_, ?_, ?_, ?_, ?_, fun _ => ⟨pr, rfl, hq, _, m0.1, m0.2⟩, ?_, ?_⟩ <;> simp [insA]
        · cases j with
          | zero =>
            simp only [List.getElem?_cons_zero, Option.some.injEq] at hP ha
            subst hP ha
            refine ⟨hi, by simp, stack_of hu.1 (fun e => absurd e hu.2) (by simp), fun x hx => ?_⟩
            rcases List.mem_append.1 hx with hx | hx
            · have := x1 x hx
              simpa using this
            · rw [List.mem_singleton.1 hx]; exact ret_ok _ _ _ _ _
          | succ j =>
            simp only [List.getElem?_cons_succ] at hP ha
            have := y1 j P a hP ha
            rw [show pr + (j + 1) = pr + 1 + j by omega]
            exact this
    · rw [if_neg k8]
      simp only [if_neg k8] at hk ⊢
      by_cases k7 : k = 7
      · subst k7
        simp only [if_true]
        have hl : ks.length = 3 := by
          simp [wkids] at h1
          exact h1
        match ks, hl, hk with
        | [x, y, z], _, hk =>
          simp only
          have hx := (hk x (by simp)).1 at0 pr
          generalize genC x at0 pr = cx at hx ⊢
          have hy := (hk y (by simp)).1 (at0 + cx.1.length + 1) (pr + cx.2.length)
          generalize genC y (at0 + cx.1.length + 1) (pr + cx.2.length) = cy at hy ⊢
          have hz := (hk z (by simp)).1 (at0 + cx.1.length + 1 + cy.1.length + 1) (pr + cx.2.length + cy.2.length)
          generalize genC z (at0 + cx.1.length + 1 + cy.1.length + 1) (pr + cx.2.length + cy.2.length) = cz at hz ⊢
          have e : at0 + (cx.1 ++ insA 10 (at0 + cx.1.length + 1 + cy.1.length + 1 : Nat) :: cy.1 ++ insA 9 (at0 + cx.1.length + 1 + cy.1.length + 1 + cz.1.length : Nat) :: cz.1).length = at0 + cx.1.length + 1 + cy.1.length + 1 + cz.1.length := by simp; omega
          have j1 : GdP PP AA (at0 + cx.1.length + 1 + cy.1.length + 1 + cz.1.length) (pr + cx.2.length) [insA 10 (at0 + cx.1.length + 1 + cy.1.length + 1 : Nat)] [] ar [] := GdP.one (fun q lim a b => by constructor <;> simp [insA] <;> omega)
          have j2 : GdP PP AA (at0 + cx.1.length + 1 + cy.1.length + 1 + cz.1.length) (pr + cx.2.length + cy.2.length) [insA 9 (at0 + cx.1.length + 1 + cy.1.length + 1 + cz.1.length : Nat)] [] ar [] := GdP.one (fun q lim a b => by constructor <;> simp [insA] <;> omega)
          have g1 := GdP.app (hx.mono (e' := at0 + cx.1.length + 1 + cy.1.length + 1 + cz.1.length) (by omega)) (GdP.app j1 (hy.mono (by omega)))
          have g2 := GdP.app g1 (GdP.app (by simpa [Nat.add_assoc] using j2) (hz.mono (e' := at0 + cx.1.length + 1 + cy.1.length + 1 + cz.1.length) (by omega) |> fun h => by simpa [Nat.add_assoc] using h))
          rw [e]
          simpa [List.append_assoc, Nat.add_assoc] using g2
      · rw [if_neg k7]
        by_cases k12 : k = 12
        · subst k12
          simp only [if_true]
          exact genS_Gd (fun c => aroundsOf f c ar) ks (fun c m => (hk c m).1) true at0 pr
        · rw [if_neg k12]
          have hl := genL_Gd (fun c => aroundsOf f c ar) ks (fun c m => (hk c m).1) at0 pr
          have kk : k = 1 ∨ k = 2 ∨ k = 3 ∨ k = 4 ∨ k = 5 ∨ k = 6 ∨ k = 9 ∨ k = 10 ∨ k = 11 ∨ k = 13 := by
            unfold wkids at h1
            (repeat' split at h1) <;> omega
          have ho : ∀ e pr, GdP PP AA e pr [lastI ⟨k, i, nn, lb, ow, q, ks⟩] [] ar [] := fun e pr => GdP.one (fun qq lim _ _ => by
            rcases kk with rfl | rfl | rfl | rfl | rfl | rfl | rfl | rfl | rfl | rfl <;> simp [wfields] at h2 <;> simp [wkids] at h1 <;> constructor <;> simp [lastI, insN, insO, insA, insG] <;> first | exact h2 | exact wrong_bare h2 | (have := List.length_pos_iff.2 h1; omega) | omega)
          have := GdP.app (hl.mono (e' := at0 + ((genL ks at0 pr).1 ++ [lastI ⟨k, i, nn, lb, ow, q, ks⟩]).length) (by simp)) (ho _ _)
          simpa using this
end
section
set_option linter.unusedVariables false
set_option linter.unusedSimpArgs false

/-- The procedures that code makes. -/
def tg (code : List In) : List Nat := code.filterMap fun x => if x.op = 7 then some x.a.toNat else none
theorem tg_app (a b : List In) : tg (a ++ b) = tg a ++ tg b := by simp [tg]
def TgP (pr : Nat) (seg : List In) (ps : List Pro) : Prop := (tg seg ++ ps.flatMap fun P => tg P.code).Perm (List.range' pr ps.length)
theorem TgP.nil (pr : Nat) : TgP pr [] [] := List.Perm.refl _
theorem TgP.app {pr : Nat} {s1 s2 : List In} {p1 p2 : List Pro} (h1 : TgP pr s1 p1) (h2 : TgP (pr + p1.length) s2 p2) : TgP pr (s1 ++ s2) (p1 ++ p2) := by
  unfold TgP at *
  rw [tg_app, List.flatMap_append, List.length_append, ← List.range'_append_1]
  refine List.Perm.trans ?_ (List.Perm.append h1 h2)
  simp only [List.append_assoc]
  exact List.Perm.append_left _ (List.perm_append_comm_assoc _ _ _)
theorem TgP.one {pr : Nat} {x : In} (h : x.op ≠ 7) : TgP pr [x] [] := by
  unfold TgP
  simp [tg, h]
def Tg (c : Cor) : Prop := ∀ at0 pr, TgP pr (genC c at0 pr).1 (genC c at0 pr).2
theorem genL_Tg : ∀ (l : List Cor), (∀ c, c ∈ l → Tg c) → ∀ at0 pr, TgP pr (genL l at0 pr).1 (genL l at0 pr).2
  | [], _, at0, pr => by rw [genL]; exact TgP.nil _
  | c :: r, hl, at0, pr => by
    rw [genL]
    exact TgP.app (hl c List.mem_cons_self at0 pr) (genL_Tg r (fun c m => hl c (List.mem_cons_of_mem _ m)) _ _)
theorem genS_Tg : ∀ (l : List Cor), (∀ c, c ∈ l → Tg c) → ∀ fst at0 pr, TgP pr (genS l fst at0 pr).1 (genS l fst at0 pr).2
  | [], _, fst, at0, pr => by rw [genS]; exact TgP.nil _
  | c :: r, hl, fst, at0, pr => by
    rw [genS]
    simp only
    generalize hp : (if fst = true then ([] : List In) else [insO 14]) = p
    have hpp : TgP pr p [] := by
      rw [← hp]
      split
      · exact TgP.nil _
      · exact TgP.one (by simp [insO])
    have h1 := TgP.app hpp (hl c List.mem_cons_self (at0 + p.length) (pr + 0))
    rw [List.nil_append] at h1
    exact TgP.app h1 (genS_Tg r (fun c m => hl c (List.mem_cons_of_mem _ m)) _ _ _)
theorem tg_of : ∀ (f : Nat) (ar : Int) (c : Cor) (n : Nat), (ckC f ar c n).1 = 0 → Tg c
  | 0, ar, c, n, h => by simp [ckC] at h
  | f + 1, ar, c, n, h => by
    obtain ⟨h1, h2, h3⟩ := ckC_parts h
    have hk : ∀ k, k ∈ c.kids → Tg k := fun k m => by obtain ⟨n', e⟩ := h3 k m; exact tg_of f _ k n' e
    clear h h3 h2
    obtain ⟨k, i, nn, lb, ow, q, ks⟩ := c
    simp only at h1 hk
    intro at0 pr
    rw [genC.eq_def]
    simp only
    by_cases k8 : k = 8
    · subst k8
      simp only [if_true]
      rcases ks with _ | ⟨b, r⟩
      · exact TgP.nil _
      · have hb := hk b (by simp) 0 (pr + 1)
        unfold TgP at hb ⊢
        simp only [List.flatMap_cons, tg_app, List.length_cons, List.range'_succ]
        have e1 : tg [insA 7 pr] = [pr] := by simp [tg, insA]
        have e2 : tg [insO 15] = [] := by simp [tg, insO]
        rw [e1, e2, List.append_nil]
        exact List.Perm.cons _ hb
    · rw [if_neg k8]
      by_cases k7 : k = 7
      · subst k7
        simp only [if_true]
        have hl : ks.length = 3 := by
          simp [wkids] at h1
          exact h1
        match ks, hl, hk with
        | [x, y, z], _, hk =>
          simp only
          have hx := hk x (by simp) at0 pr
          generalize genC x at0 pr = cx at hx ⊢
          have hy := hk y (by simp) (at0 + cx.1.length + 1) (pr + cx.2.length)
          generalize genC y (at0 + cx.1.length + 1) (pr + cx.2.length) = cy at hy ⊢
          have hz := hk z (by simp) (at0 + cx.1.length + 1 + cy.1.length + 1) (pr + cx.2.length + cy.2.length)
          generalize genC z (at0 + cx.1.length + 1 + cy.1.length + 1) (pr + cx.2.length + cy.2.length) = cz at hz ⊢
          have j1 : TgP (pr + cx.2.length) [insA 10 (at0 + cx.1.length + 1 + cy.1.length + 1 : Nat)] [] := TgP.one (by simp [insA])
          have j2 : TgP (pr + (cx.2 ++ ([] ++ cy.2)).length) [insA 9 (at0 + cx.1.length + 1 + cy.1.length + 1 + cz.1.length : Nat)] [] := TgP.one (by simp [insA])
          have g2 := TgP.app (TgP.app hx (TgP.app j1 hy)) (TgP.app j2 (s2 := cz.1) (p2 := cz.2) (by simpa [Nat.add_assoc] using hz))
          simpa [List.append_assoc] using g2
      · rw [if_neg k7]
        by_cases k12 : k = 12
        · subst k12
          simp only [if_true]
          exact genS_Tg ks hk true at0 pr
        · rw [if_neg k12]
          have kk : k = 1 ∨ k = 2 ∨ k = 3 ∨ k = 4 ∨ k = 5 ∨ k = 6 ∨ k = 9 ∨ k = 10 ∨ k = 11 ∨ k = 13 := by
            unfold wkids at h1
            (repeat' split at h1) <;> omega
          have := TgP.app (genL_Tg ks hk at0 pr) (TgP.one (x := lastI ⟨k, i, nn, lb, ow, q, ks⟩) (by
            rcases kk with rfl | rfl | rfl | rfl | rfl | rfl | rfl | rfl | rfl | rfl <;> simp [lastI, insN, insO, insA, insG]))
          simpa using this

/-- What is known of procedures: whether it is a body; how many parameters are around. -/
abbrev Kn := List (Option (Bool × Int))
def aro (K : Kn) (q : Nat) : Int := match K.getD q none with | some x => x.2 | none => 0
def closeW (PP : List Pro) (q : Nat) (a : Int) (K : Kn) : Int × Kn :=
  if a ≤ q ∨ (PP.length : Int) ≤ a then (3, K)
  else if (K.getD a.toNat none).isSome then (8, K)
  else (0, K.set a.toNat (some (false, aro K q + (PP.getD a.toNat ⟨0, []⟩).args)))
/-- What is wrong with an instruction. -/
def insW (PP : List Pro) (gl : In → Int) (q len : Nat) (x : In) (K : Kn) : Int × Kn :=
  if x.op = 1 then (if -1000000000000000 ≤ x.n ∧ x.n ≤ 1000000000000000 then 0 else 3, K)
  else if x.op = 2 then (if x.n = 0 ∨ x.n = 1 then 0 else 3, K)
  else if x.op = 3 then ((wrong [x.quote]).1, K)
  else if x.op = 4 ∨ x.op = 11 then (if 0 ≤ x.a ∧ x.a < aro K q then 0 else 3, K)
  else if x.op = 5 ∨ x.op = 12 ∨ x.op = 13 then (gl x, K)
  else if x.op = 6 then (if argsB x.own = 0 then 7 else 0, K)
  else if x.op = 7 then closeW PP q x.a K
  else if x.op = 8 then (if 0 ≤ x.a ∧ x.a ≤ 2000 then 0 else 3, K)
  else if x.op = 9 ∨ x.op = 10 then (if 0 ≤ x.a ∧ x.a < len then 0 else 3, K)
  else if x.op = 14 ∨ x.op = 15 then (0, K) else (1, K)
def codeW (PP : List Pro) (gl : In → Int) (q len : Nat) : List In → Kn → Int × Kn
  | [], K => (0, K)
  | x :: r, K => if (insW PP gl q len x K).1 = 0 then codeW PP gl q len r (insW PP gl q len x K).2 else insW PP gl q len x K
def protoW (PP : List Pro) (gl : In → Int) (q : Nat) (K : Kn) : Int × Kn :=
  match K.getD q none with
  | none => (8, K)
  | some s => if (codeW PP gl q (PP.getD q ⟨0, []⟩).code.length (PP.getD q ⟨0, []⟩).code K).1 = 0
    then (if stackOk (PP.getD q ⟨0, []⟩).code s.1 then 0 else 8, (codeW PP gl q (PP.getD q ⟨0, []⟩).code.length (PP.getD q ⟨0, []⟩).code K).2)
    else codeW PP gl q (PP.getD q ⟨0, []⟩).code.length (PP.getD q ⟨0, []⟩).code K
def protosW (PP : List Pro) (gl : In → Int) : Nat → Nat → Kn → Int
  | 0, _, _ => 0
  | n + 1, q, K => if (protoW PP gl q K).1 = 0 then protosW PP gl n (q + 1) (protoW PP gl q K).2 else (protoW PP gl q K).1
def sizesW : List Pro → Int
  | [] => 0
  | P :: r => if P.code.length < 1 ∨ 6000 < P.code.length then 5 else if P.args < 0 ∨ 2000 < P.args then 3 else sizesW r
def bodiesW (PP : List Pro) : List Int → Kn → Int × Kn
  | [], K => (0, K)
  | b :: r, K => if b < 0 ∨ (PP.length : Int) ≤ b then (3, K) else if (PP.getD b.toNat ⟨0, []⟩).args ≠ 0 then (3, K) else bodiesW PP r (K.set b.toNat (some (true, 0)))
/-- WHAT IS WRONG WITH PROCEDURES, some of which are bodies. -/
def wrongPs (PP : List Pro) (bodies : List Int) (gl : In → Int) : Int :=
  if sizesW PP ≠ 0 then sizesW PP
  else if (bodiesW PP bodies (List.replicate PP.length none)).1 ≠ 0 then (bodiesW PP bodies (List.replicate PP.length none)).1
  else protosW PP gl PP.length 0 (bodiesW PP bodies (List.replicate PP.length none)).2
def plainB (s : ByteArray) : Bool := decide (s.size ≤ 60) && s.data.toList.all fun c => decide (32 ≤ c.toNat) && decide (c.toNat ≤ 126)
def nameW (x : In) : Int := if plainB x.lib && namedB x.own then 0 else 7
/-- WHAT IS WRONG WITH A UNIT. -/
def wrongU (nm : ByteArray) (PP : List Pro) : Int :=
  if plainB nm = false then 7 else if PP.length < 1 ∨ 500 < PP.length then 5 else wrongPs PP [0] nameW
end
end Go.Proofs.YthikdpclifeonaaGreatDoor
