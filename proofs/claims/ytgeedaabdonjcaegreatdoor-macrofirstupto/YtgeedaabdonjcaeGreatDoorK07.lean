/- What is bare; rule set of one rule: MacroSelf, MacroMany, MacroFirst. MacroStamps, plainly. -/
import Derived.Test.YtgeedaabdonjcaeGreatDoorK01
namespace Go.Proofs.YtgeedaabdonjcaeGreatDoor
section
set_option linter.unusedVariables false
set_option linter.unusedSimpArgs false
open Go.RowKit

def symD (s : ByteArray) : Dat := ⟨3, 0, s, 0, 0, []⟩
def listD (l : List Dat) : Dat := ⟨4, 0, emS, 0, 0, l⟩
def numD (n : Int) : Dat := ⟨1, n, emS, 0, 0, []⟩

theorem bareL_map : ∀ (l : List Dat), bareL l = l.map bareD
  | [] => by unfold bareL; rfl
  | d :: r => by unfold bareL; rw [bareL_map r]; rfl
theorem sizeL_map : ∀ (l : List Dat), sizeL l = (l.map sizeD).sum
  | [] => by unfold sizeL; rfl
  | d :: r => by unfold sizeL; rw [sizeL_map r]; rfl
theorem sizeL_append (l r : List Dat) : sizeL (l ++ r) = sizeL l + sizeL r := by
  rw [sizeL_map, sizeL_map, sizeL_map]
  simp
theorem sizeD_pos : ∀ (d : Dat), 0 < sizeD d
  | ⟨k, n, nm, st, lb, ks⟩ => by
    unfold sizeD
    split <;> omega
theorem deepD_pos : ∀ (d : Dat), 0 < deepD d
  | ⟨k, n, nm, st, lb, ks⟩ => by
    unfold deepD
    split <;> omega
theorem sizeL_mem : ∀ (l : List Dat) (d : Dat), d ∈ l → sizeD d ≤ sizeL l
  | x :: r, d, h => by
    unfold sizeL
    rcases List.mem_cons.1 h with rfl | h
    · omega
    · have := sizeL_mem r d h
      omega
theorem deepL_mem : ∀ (l : List Dat) (d : Dat), d ∈ l → deepD d ≤ deepL l
  | x :: r, d, h => by
    unfold deepL
    rcases List.mem_cons.1 h with rfl | h
    · omega
    · have := deepL_mem r d h
      omega
theorem deepL_le : ∀ (l : List Dat) (n : Nat), (∀ d ∈ l, deepD d ≤ n) → deepL l ≤ n
  | [], n, _ => by unfold deepL; omega
  | x :: r, n, h => by
    unfold deepL
    have h1 := h x (by simp)
    have h2 := deepL_le r n fun d hd => h d (List.mem_cons_of_mem _ hd)
    omega
theorem deepL_append (l r : List Dat) : deepL (l ++ r) = max (deepL l) (deepL r) := by
  induction l with
  | nil => simp [deepL]
  | cons d l ih =>
    have e : ∀ (x : Dat) (y : List Dat), deepL (x :: y) = max (deepD x) (deepL y) := fun x y => by rw [deepL]
    rw [List.cons_append, e, e, ih]
    omega
theorem sizeD_list (l : List Dat) : sizeD (listD l) = 1 + sizeL l := by unfold sizeD listD; rfl
theorem deepD_list (l : List Dat) : deepD (listD l) = 1 + deepL l := by unfold deepD listD; rfl
theorem bareD_list (l : List Dat) : bareD (listD l) = listD (bareL l) := by unfold bareD listD; rfl

mutual
theorem bareD_twice : ∀ (d : Dat), bareD (bareD d) = bareD d
  | ⟨k, n, nm, st, lb, ks⟩ => by
    by_cases h4 : k = 4
    · have e : bareD ⟨k, n, nm, st, lb, ks⟩ = ⟨4, 0, emS, 0, 0, bareL ks⟩ := by unfold bareD; rw [if_pos h4]
      rw [e]
      unfold bareD
      rw [if_pos rfl, bareL_twice ks]
    · by_cases h3 : k = 3
      · have e : bareD ⟨k, n, nm, st, lb, ks⟩ = ⟨3, 0, nm, st, lb, []⟩ := by unfold bareD; rw [if_neg h4, if_pos h3]
        rw [e]
        unfold bareD
        simp
      · by_cases h1 : k = 1 ∨ k = 2
        · have e : bareD ⟨k, n, nm, st, lb, ks⟩ = ⟨k, n, emS, 0, 0, []⟩ := by unfold bareD; rw [if_neg h4, if_neg h3, if_pos h1]
          rw [e]
          unfold bareD
          rw [if_neg h4, if_neg h3, if_pos h1]
        · have e : bareD ⟨k, n, nm, st, lb, ks⟩ = ⟨k, 0, emS, 0, 0, []⟩ := by unfold bareD; rw [if_neg h4, if_neg h3, if_neg h1]
          rw [e]
          unfold bareD
          rw [if_neg h4, if_neg h3, if_neg h1]
theorem bareL_twice : ∀ (l : List Dat), bareL (bareL l) = bareL l
  | [] => by unfold bareL; unfold bareL; rfl
  | d :: r => by
    have e : bareL (d :: r) = bareD d :: bareL r := by rw [bareL]
    rw [e]
    rw [bareL, bareD_twice d, bareL_twice r]
end

def xS : ByteArray := ⟨#[120]⟩
def mS : ByteArray := ⟨#[109]⟩
def gS : ByteArray := ⟨#[103]⟩
def lS : ByteArray := ⟨#[108, 105, 115, 116]⟩
def selfR : List (Dat × Dat) := [(listD [symD mS, symD xS], symD xS)]
def eachR : List (Dat × Dat) := [(listD [symD mS, symD xS, symD dotsS], listD [symD xS, symD dotsS])]
def manyR : List (Dat × Dat) := [(listD [symD mS, symD xS, symD dotsS], listD [symD lS, listD [symD gS, symD xS], symD dotsS])]

theorem self_right : wrongM [] selfR = (0, 0) := by decide +kernel
theorem each_right : wrongM [] eachR = (0, 0) := by decide +kernel
theorem many_right : wrongM [] manyR = (0, 0) := by decide +kernel

def oneX (s : Nat) : ByteArray → Nat := putV (fun _ => 0) xS s
def metX (l : List Dat) : ByteArray → List Dat := fun t => if t = xS then l else []

theorem var_x : varK [] 3 xS = true := by decide +kernel
theorem x_dots : isDots (symD xS) = false := by decide +kernel
theorem dots_dots : isDots (symD dotsS) = true := by decide +kernel
theorem vlist_one : vlist [] [symD xS] true 1 (fun _ => 0) = (0, oneX 1) := by
  have h : vthing [] (symD xS) 1 (fun _ => 0) = (0, oneX 1) := by
    unfold symD vthing
    rw [if_neg (by decide), if_pos var_x, if_pos rfl]
    rfl
  rw [vlist, if_neg (by rw [x_dots]; simp)]
  simp only [headDots, Bool.false_and, Bool.false_eq_true, if_false]
  rw [h, if_pos rfl, vlist]
theorem vlist_many : vlist [] [symD xS, symD dotsS] true 1 (fun _ => 0) = (0, oneX 2) := by
  have h : vthing [] (symD xS) 2 (fun _ => 0) = (0, oneX 2) := by
    unfold symD vthing
    rw [if_neg (by decide), if_pos var_x, if_pos rfl]
    rfl
  rw [vlist, if_neg (by rw [x_dots]; simp)]
  have e : headDots [symD dotsS] = true := dots_dots
  rw [e]
  simp only [Bool.true_and, if_true]
  rw [if_neg (by decide), h, if_pos rfl, vlist, if_pos dots_dots]
  rfl
theorem fit_x (d : Dat) (l : List Dat) : fitD [] (symD xS) d (metX l) = some (metX (l ++ [d])) := by
  unfold symD fitD
  rw [if_pos rfl, if_neg (by decide), if_pos var_x]
  congr 1
  funext t
  unfold putM metX
  by_cases e : t = xS
  · simp [e]
  · simp [e]
theorem fold_x : ∀ (l k : List Dat), l.foldlM (fun m d => fitD [] (symD xS) d m) (metX k) = some (metX (k ++ l))
  | [], k => by simp
  | d :: l, k => by
    rw [List.foldlM_cons, fit_x]
    show l.foldlM _ (metX (k ++ [d])) = _
    rw [fold_x l (k ++ [d])]
    simp
theorem metX_nil : (fun _ => []) = metX [] := by
  funext t
  unfold metX
  split <;> rfl
theorem fill_x (l : List Dat) (sp lb : Int) (i : Nat) : fillD (oneX 2) (metX l) sp lb (symD xS) i = l.getD i zeroD := by
  unfold symD fillD
  have e : symS 3 xS = xS := rfl
  have e2 : oneX 2 xS = 2 := by unfold oneX putV; simp
  have e3 : metX l xS = l := by unfold metX; simp
  rw [e, e2, e3]
  simp
theorem cnt_x (l : List Dat) : cntD (oneX 2) (metX l) (symD xS) = [l.length] := by
  unfold symD cntD
  have e : symS 3 xS = xS := rfl
  have e2 : oneX 2 xS = 2 := by unfold oneX putV; simp
  have e3 : metX l xS = l := by unfold metX; simp
  rw [e, e2, e3]
  simp
theorem range_getD (l : List Dat) : (List.range l.length).map (fun i => l.getD i zeroD) = l := by
  apply List.ext_getElem
  · simp
  · intro i h1 h2
    simp at h1
    simp [List.getD_eq_getElem?_getD, List.getElem?_eq_getElem h1]

/-- MacroSelf, plainly: one part. -/
theorem use_self (d : Dat) (n sp lb : Int) : useM [] selfR (listD [numD n, d]) sp lb = if muchB (listD [numD n, d]) then (zeroD, 4) else (bareD d, 0) := by
  unfold useM
  rw [self_right, if_neg (by simp)]
  by_cases hm : muchB (listD [numD n, d]) = true
  · rw [if_pos hm, if_pos hm]
  · rw [if_neg hm, if_neg hm]
    have hd : muchB d = false := by
      unfold muchB at hm ⊢
      rw [sizeD_list, deepD_list] at hm
      have h1 := sizeL_mem [numD n, d] d (by simp)
      have h2 := deepL_mem [numD n, d] d (by simp)
      simp at hm ⊢
      omega
    rw [if_neg (by unfold listD; simp)]
    unfold listD
    simp only
    unfold selfR useRules
    simp only [listD, List.tail_cons]
    have e : fitL [] [symD xS] [d] (fun _ => []) = some (metX [d]) := by
      unfold fitL
      simp only
      rw [metX_nil, fit_x]
      rfl
    rw [e, vlist_one]
    simp only [Option.map_some, Option.getD_some]
    unfold grownM
    have ef : fillD (oneX 1) (metX [d]) sp lb (symD xS) 0 = d := by
      unfold symD fillD
      have e : symS 3 xS = xS := rfl
      have e2 : oneX 1 xS = 1 := by unfold oneX putV; simp
      have e3 : metX [d] xS = [d] := by unfold metX; simp
      rw [e, e2, e3]
      simp
    have eg : fitsD (oneX 1) (metX [d]) (symD xS) = true := by unfold symD fitsD; simp
    rw [eg, ef, hd]
    simp

/-- .. many. -/
theorem use_each (l : List Dat) (h : Dat) (sp lb : Int) : useM [] eachR (listD (h :: l)) sp lb = if muchB (listD (h :: l)) then (zeroD, 4) else (bareD (listD l), 0) := by
  unfold useM
  rw [each_right, if_neg (by simp)]
  by_cases hm : muchB (listD (h :: l)) = true
  · rw [if_pos hm, if_pos hm]
  · rw [if_neg hm, if_neg hm]
    have hd : muchB (listD l) = false := by
      unfold muchB at hm ⊢
      rw [sizeD_list, deepD_list] at hm ⊢
      unfold sizeL deepL at hm
      simp at hm ⊢
      omega
    rw [if_neg (by unfold listD; simp)]
    unfold listD
    simp only
    unfold eachR useRules
    simp only [listD, List.tail_cons]
    have e : fitL [] [symD xS, symD dotsS] l (fun _ => []) = some (metX l) := by
      unfold fitL
      rw [if_pos dots_dots, metX_nil, fold_x]
      rfl
    rw [e, vlist_many]
    simp only [Option.map_some, Option.getD_some]
    unfold grownM
    have ef : fillD (oneX 2) (metX l) sp lb ⟨4, 0, emS, 0, 0, [symD xS, symD dotsS]⟩ 0 = listD l := by
      unfold fillD
      have e : symS 4 emS = emS := rfl
      have e2 : oneX 2 emS = 0 := by unfold oneX putV; rw [if_neg (by decide)]
      rw [e, e2, if_neg (by decide), if_neg (by decide), if_pos rfl, fillL, if_pos dots_dots, cnt_x, fillL]
      simp only [List.headD_cons, List.append_nil]
      have : fillD (oneX 2) (metX l) sp lb (symD xS) = fun i => l.getD i zeroD := funext (fill_x l sp lb)
      rw [this, range_getD]
      rfl
    have eg : fitsD (oneX 2) (metX l) ⟨4, 0, emS, 0, 0, [symD xS, symD dotsS]⟩ = true := by
      unfold fitsD
      rw [if_pos rfl, fitsL, if_pos dots_dots, cnt_x, fitsL]
      simp [alikeB]
    rw [eg, ef, hd]
    simp only [if_true, Bool.false_eq_true, if_false]
    rfl

/-- What stands around each of many. -/
def around (sp lb : Int) (l : List Dat) : List Dat := ⟨3, 0, lS, sp, lb, []⟩ :: l.map fun x => listD [⟨3, 0, gS, sp, lb, []⟩, x]

theorem use_many (l : List Dat) (h : Dat) (sp lb : Int) : useM [] manyR (listD (h :: l)) sp lb = if muchB (listD (h :: l)) || muchB (listD (around sp lb l)) then (zeroD, 4) else (bareD (listD (around sp lb l)), 0) := by
  unfold useM
  rw [many_right, if_neg (by simp)]
  by_cases hm : muchB (listD (h :: l)) = true
  · rw [if_pos hm, hm]
    rfl
  · rw [if_neg hm]
    have hm' : muchB (listD (h :: l)) = false := by simpa using hm
    rw [hm', Bool.false_or]
    rw [if_neg (by unfold listD; simp)]
    unfold listD
    simp only
    unfold manyR useRules
    simp only [listD, List.tail_cons]
    have e : fitL [] [symD xS, symD dotsS] l (fun _ => []) = some (metX l) := by
      unfold fitL
      rw [if_pos dots_dots, metX_nil, fold_x]
      rfl
    rw [e, vlist_many]
    simp only [Option.map_some, Option.getD_some]
    unfold grownM
    have o0 : ∀ t, t ≠ xS → oneX 2 t = 0 := fun t ht => by unfold oneX putV; rw [if_neg ht]
    have en : oneX 2 emS = 0 := o0 _ (by decide)
    have es : ∀ i, fillD (oneX 2) (metX l) sp lb (symD lS) i = ⟨3, 0, lS, sp, lb, []⟩ := fun i => by
      unfold symD fillD
      have e : symS 3 lS = lS := rfl
      rw [e, o0 lS (by decide)]
      simp
    have eg : ∀ i, fillD (oneX 2) (metX l) sp lb (symD gS) i = ⟨3, 0, gS, sp, lb, []⟩ := fun i => by
      unfold symD fillD
      have e : symS 3 gS = gS := rfl
      rw [e, o0 gS (by decide)]
      simp
    have gd : isDots (symD gS) = false := by decide +kernel
    have ei : ∀ i, fillD (oneX 2) (metX l) sp lb ⟨4, 0, emS, 0, 0, [symD gS, symD xS]⟩ i = listD [⟨3, 0, gS, sp, lb, []⟩, l.getD i zeroD] := fun i => by
      unfold fillD
      have e : symS 4 emS = emS := rfl
      rw [e, en, if_neg (by decide), if_neg (by decide), if_pos rfl, fillL, if_neg (by rw [x_dots]; simp), fillL, eg, fill_x]
      rfl
    have ec : cntD (oneX 2) (metX l) ⟨4, 0, emS, 0, 0, [symD gS, symD xS]⟩ = [l.length] := by
      unfold cntD
      have e : symS 4 emS = emS := rfl
      rw [e, en, if_neg (by decide), if_pos rfl, cntL, cntL, cntL, cnt_x]
      have : cntD (oneX 2) (metX l) (symD gS) = [] := by
        unfold symD cntD
        have e : symS 3 gS = gS := rfl
        rw [e, o0 gS (by decide)]
        simp
      rw [this]
      simp
    have nd : isDots ⟨4, 0, emS, 0, 0, [symD gS, symD xS]⟩ = false := by decide +kernel
    have ef : fillD (oneX 2) (metX l) sp lb ⟨4, 0, emS, 0, 0, [symD lS, ⟨4, 0, emS, 0, 0, [symD gS, symD xS]⟩, symD dotsS]⟩ 0 = listD (around sp lb l) := by
      unfold fillD
      have e : symS 4 emS = emS := rfl
      rw [e, en, if_neg (by decide), if_neg (by decide), if_pos rfl, fillL, if_neg (by rw [nd]; simp), fillL, if_pos dots_dots, ec, fillL, es]
      simp only [List.headD_cons, List.append_nil]
      have : fillD (oneX 2) (metX l) sp lb ⟨4, 0, emS, 0, 0, [symD gS, symD xS]⟩ = fun i => listD [⟨3, 0, gS, sp, lb, []⟩, l.getD i zeroD] := funext ei
      rw [this]
      unfold around listD
      congr 2
      have h2 := congrArg (List.map fun x => (⟨4, 0, emS, 0, 0, [⟨3, 0, gS, sp, lb, []⟩, x]⟩ : Dat)) (range_getD l)
      rw [List.map_map] at h2
      exact h2
    have eg2 : fitsD (oneX 2) (metX l) ⟨4, 0, emS, 0, 0, [symD lS, ⟨4, 0, emS, 0, 0, [symD gS, symD xS]⟩, symD dotsS]⟩ = true := by
      unfold fitsD
      rw [if_pos rfl, fitsL, if_neg (by rw [nd]; simp), fitsL, if_pos dots_dots, ec, fitsL]
      have : fitsD (oneX 2) (metX l) (symD lS) = true := by unfold symD fitsD; simp
      rw [this]
      simp [alikeB]
    rw [eg2, ef]
    simp only [if_true]
    rfl

theorem useRules_append (lits : List ByteArray) (ks : List Dat) (sp lb : Int) : ∀ (a b : List (Dat × Dat)), useRules lits ks sp lb (a ++ b) = if (useRules lits ks sp lb a).2 = 6 then useRules lits ks sp lb b else useRules lits ks sp lb a
  | [], b => by
    simp [useRules]
  | (p, t) :: a, b => by
    have e1 : ∀ r, useRules lits ks sp lb ((p, t) :: r) = ((fitL lits p.kids.tail ks (fun _ => [])).map fun m => grownM (vlist lits p.kids.tail true 1 (fun _ => 0)).2 m t sp lb).getD (useRules lits ks sp lb r) := fun r => rfl
    rw [List.cons_append, e1, e1]
    generalize (fitL lits p.kids.tail ks fun _ => []) = o
    cases o with
    | none => exact useRules_append lits ks sp lb a b
    | some m =>
      simp only [Option.map_some, Option.getD_some]
      rw [if_neg]
      unfold grownM
      split
      · split <;> simp
      · simp

theorem wrongRules_append (lits : List ByteArray) : ∀ (a b : List (Dat × Dat)) (i : Nat), (wrongRules lits (a ++ b) i).1 = 0 → (wrongRules lits a i).1 = 0 ∧ (wrongRules lits b (i + a.length)).1 = 0
  | [], b, i, h => ⟨by simp [wrongRules], h⟩
  | (p, t) :: a, b, i, h => by
    simp only [List.cons_append, wrongRules] at h ⊢
    by_cases e : wrongRule lits p t = 0
    · rw [if_pos e] at h ⊢
      have := wrongRules_append lits a b (i + 1) h
      rw [show i + 1 + a.length = i + ((p, t) :: a).length by simp; omega] at this
      exact this
    · rw [if_neg e] at h
      exact absurd h e
theorem wrongRules_from (lits : List ByteArray) : ∀ (a : List (Dat × Dat)) (i j : Nat), (wrongRules lits a i).1 = (wrongRules lits a j).1
  | [], i, j => rfl
  | (p, t) :: a, i, j => by
    simp only [wrongRules]
    by_cases e : wrongRule lits p t = 0
    · rw [if_pos e, if_pos e]
      exact wrongRules_from lits a _ _
    · rw [if_neg e, if_neg e]
theorem wrongRules_at0 (lits : List ByteArray) : ∀ (a : List (Dat × Dat)) (i : Nat), (wrongRules lits a i).1 = 0 → wrongRules lits a i = (0, 0)
  | [], i, _ => rfl
  | (p, t) :: a, i, h => by
    simp only [wrongRules] at h ⊢
    by_cases e : wrongRule lits p t = 0
    · rw [if_pos e] at h ⊢
      exact wrongRules_at0 lits a _ h
    · rw [if_neg e] at h
      exact absurd h e

/-- MacroFirst, plainly. -/
theorem use_first (lits : List ByteArray) (a b : List (Dat × Dat)) (form : Dat) (sp lb : Int) (h : (wrongM lits (a ++ b)).1 = 0) :
    useM lits (a ++ b) form sp lb = if (useM lits a form sp lb).2 = 6 then useM lits b form sp lb else useM lits a form sp lb := by
  have hw : wrongM lits (a ++ b) = (0, 0) ∧ wrongM lits a = (0, 0) ∧ wrongM lits b = (0, 0) := by
    unfold wrongM at h ⊢
    split at h
    · simp at h
    · rename_i hc
      simp at hc
      split at h
      · rename_i hl
        have h2 := wrongRules_append lits a b 0 h
        have q1 : ¬ (20 < (a ++ b).length ∨ 20 < lits.length) := by simp; omega
        have q2 : ¬ (20 < a.length ∨ 20 < lits.length) := by omega
        have q3 : ¬ (20 < b.length ∨ 20 < lits.length) := by omega
        rw [if_neg q1, if_neg q2, if_neg q3, if_pos hl, if_pos hl, if_pos hl]
        exact ⟨wrongRules_at0 _ _ _ h, wrongRules_at0 _ _ _ h2.1, wrongRules_at0 _ _ _ (by rw [wrongRules_from lits b 0 (0 + a.length)]; exact h2.2)⟩
      · simp at h
  obtain ⟨h1, h2, h3⟩ := hw
  unfold useM
  rw [h1, h2, h3]
  simp only [ne_eq, not_true_eq_false, if_false]
  by_cases hm : muchB form = true
  · simp [hm]
  · simp only [hm, if_false, Bool.false_eq_true]
    by_cases hk : form.kind = 4
    · simp only [hk, not_true_eq_false, if_false]
      cases form.kids with
      | nil => simp
      | cons x ks =>
        simp only
        exact useRules_append lits ks sp lb a b
    · simp [hk]
end
section
set_option linter.unusedVariables false
set_option linter.unusedSimpArgs false
open Go.RowKit

theorem foldlM_all {α β : Type} (f : β → α → Option β) (I : β → Prop) (Q : α → Prop) (hf : ∀ b a b', f b a = some b' → I b → Q a → I b') : ∀ (l : List α) (b b' : β), l.foldlM f b = some b' → I b → (∀ a ∈ l, Q a) → I b'
  | [], b, b', h, hb, _ => by
    have e : b = b' := by simpa using h
    exact e ▸ hb
  | a :: l, b, b', h, hb, hq => by
    rw [List.foldlM_cons] at h
    cases e : f b a with
    | none => rw [e] at h; simp at h
    | some b1 =>
      rw [e] at h
      exact foldlM_all f I Q hf l b1 b' h (hf b a b1 e hb (hq a (by simp))) fun x hx => hq x (List.mem_cons_of_mem _ hx)

mutual
/-- What is met is, or is in, what is looked at. -/
theorem fitD_all (P : Dat → Prop) (hP : ∀ d, P d → d.kind = 4 → ∀ k ∈ d.kids, P k) (lits : List ByteArray) : ∀ (p d : Dat) (m m' : ByteArray → List Dat), fitD lits p d m = some m' → P d → (∀ t x, x ∈ m t → P x) → ∀ t x, x ∈ m' t → P x
  | ⟨k, n, nm, st, lb, ks⟩, d, m, m', h, hd, hm => by
    unfold fitD at h
    have same : some m = some m' → ∀ t x, x ∈ m' t → P x := fun e => by cases e; exact hm
    split at h
    · split at h
      · split at h
        · exact same h
        · cases h
      · split at h
        · cases h
          intro t x hx
          unfold putM at hx
          split at hx
          · rcases List.mem_append.1 hx with hx | hx
            · exact hm t x hx
            · rw [List.mem_singleton] at hx
              exact hx ▸ hd
          · exact hm t x hx
        · exact same h
    · split at h
      · split at h
        · rename_i h4
          exact fitL_all P hP lits ks d.kids m m' h (hP d hd h4) hm
        · cases h
      · split at h
        · exact same h
        · cases h
theorem fitL_all (P : Dat → Prop) (hP : ∀ d, P d → d.kind = 4 → ∀ k ∈ d.kids, P k) (lits : List ByteArray) : ∀ (l ds : List Dat) (m m' : ByteArray → List Dat), fitL lits l ds m = some m' → (∀ d ∈ ds, P d) → (∀ t x, x ∈ m t → P x) → ∀ t x, x ∈ m' t → P x
  | [], ds, m, m', h, hd, hm => by
    unfold fitL at h
    split at h
    · cases h; exact hm
    · cases h
  | [p], ds, m, m', h, hd, hm => by
    unfold fitL at h
    split at h
    · exact fitD_all P hP lits p _ m m' h (hd _ (by simp)) hm
    · cases h
  | p :: q :: r, ds, m, m', h, hd, hm => by
    unfold fitL at h
    split at h
    · exact foldlM_all (fun m d => fitD lits p d m) (fun m => ∀ t x, x ∈ m t → P x) P (fun m d m' h1 h2 h3 => fitD_all P hP lits p d m m' h1 h3 h2) ds m m' h hm hd
    · split at h
      · cases h
      · rename_i d l
        cases e : fitD lits p d m with
        | none => rw [e] at h; cases h
        | some m1 =>
          rw [e] at h
          exact fitL_all P hP lits (q :: r) l m1 m' h (fun x hx => hd x (List.mem_cons_of_mem _ hx)) (fitD_all P hP lits p d m m1 e (hd d (by simp)) hm)
end

mutual
/-- No symbol has that stamp. -/
def noSt (s : Int) : Dat → Bool
  | ⟨k, n, nm, st, lb, ks⟩ => if k = 3 then !decide (st = s) else if k = 4 then noStL s ks else true
def noStL (s : Int) : List Dat → Bool
  | [] => true
  | d :: r => noSt s d && noStL s r
end
theorem noStL_mem (s : Int) : ∀ (l : List Dat), noStL s l = true → ∀ d ∈ l, noSt s d = true
  | x :: r, h, d, hd => by
    unfold noStL at h
    rw [Bool.and_eq_true] at h
    rcases List.mem_cons.1 hd with rfl | hd
    · exact h.1
    · exact noStL_mem s r h.2 d hd
theorem noSt_kids (s : Int) (d : Dat) (h : noSt s d = true) (h4 : d.kind = 4) : ∀ k ∈ d.kids, noSt s k = true := by
  obtain ⟨k, n, nm, st, lb, ks⟩ := d
  simp only at h4 ⊢
  unfold noSt at h
  rw [if_neg (by omega), if_pos h4] at h
  exact noStL_mem s ks h

mutual
/-- Another stamp. -/
def reSt (a b : Int) : Dat → Dat
  | ⟨k, n, nm, st, lb, ks⟩ => ⟨k, n, nm, if k = 3 ∧ st = a then b else st, lb, reStL a b ks⟩
def reStL (a b : Int) : List Dat → List Dat
  | [] => []
  | d :: r => reSt a b d :: reStL a b r
end
theorem reStL_map (a b : Int) : ∀ (l : List Dat), reStL a b l = l.map (reSt a b)
  | [] => by rw [reStL]; rfl
  | d :: r => by rw [reStL, reStL_map a b r]; rfl

mutual
theorem reSt_bare (a b : Int) : ∀ (d : Dat), noSt a d = true → reSt a b (bareD d) = bareD d
  | ⟨k, n, nm, st, lb, ks⟩, h => by
    unfold noSt at h
    unfold bareD
    by_cases h4 : k = 4
    · rw [if_neg (by omega), if_pos h4] at h
      rw [if_pos h4, reSt, reStL_bare a b ks h, if_neg (by simp)]
    · rw [if_neg h4]
      by_cases h3 : k = 3
      · rw [if_pos h3] at h
        rw [if_pos h3, reSt, if_neg, reStL]
        intro e
        simp at h
        exact h e.2
      · rw [if_neg h3]
        split
        · rw [reSt, if_neg (fun e => h3 e.1), reStL]
        · rw [reSt, if_neg (fun e => h3 e.1), reStL]
theorem reStL_bare (a b : Int) : ∀ (l : List Dat), noStL a l = true → reStL a b (bareL l) = bareL l
  | [], _ => by rw [bareL, reStL]
  | d :: r, h => by
    unfold noStL at h
    rw [Bool.and_eq_true] at h
    rw [bareL, reStL, reSt_bare a b d h.1, reStL_bare a b r h.2]
end

theorem getD_noSt (m : ByteArray → List Dat) (a : Int) (hm : ∀ t x, x ∈ m t → noSt a x = true) (hz : noSt a zeroD = true) (t : ByteArray) (i : Nat) : noSt a ((m t).getD i zeroD) = true := by
  rw [List.getD_eq_getElem?_getD]
  cases h : (m t)[i]? with
  | none => exact hz
  | some x => exact hm t x (List.mem_of_getElem? h)
mutual
theorem fillD_st (v : ByteArray → Nat) (m : ByteArray → List Dat) (a b lbb : Int) (hm : ∀ t x, x ∈ m t → noSt a x = true) (hz : noSt a zeroD = true) : ∀ (d : Dat) (i : Nat), reSt a b (bareD (fillD v m a lbb d i)) = bareD (fillD v m b lbb d i)
  | ⟨k, n, nm, st, lb, ks⟩, i => by
    unfold fillD
    by_cases h1 : v (symS k nm) = 1
    · rw [if_pos h1, if_pos h1]
      exact reSt_bare a b _ (getD_noSt m a hm hz nm 0)
    · rw [if_neg h1, if_neg h1]
      by_cases h2 : v (symS k nm) = 2
      · rw [if_pos h2, if_pos h2]
        exact reSt_bare a b _ (getD_noSt m a hm hz nm i)
      · rw [if_neg h2, if_neg h2]
        by_cases h4 : k = 4
        · rw [if_pos h4, if_pos h4]
          have e : ∀ l, bareD ⟨4, 0, emS, 0, 0, l⟩ = ⟨4, 0, emS, 0, 0, bareL l⟩ := fun l => by rw [bareD, if_pos rfl]
          rw [e, e, reSt, if_neg (by simp), fillL_st v m a b lbb hm hz ks i]
        · rw [if_neg h4, if_neg h4]
          by_cases h3 : k = 3
          · rw [if_pos h3, if_pos h3]
            have e : ∀ s, bareD ⟨3, 0, nm, s, lbb, []⟩ = ⟨3, 0, nm, s, lbb, []⟩ := fun s => by rw [bareD, if_neg (by decide), if_pos rfl]
            rw [e, e, reSt, if_pos ⟨rfl, rfl⟩, reStL]
          · rw [if_neg h3, if_neg h3]
            refine reSt_bare a b _ ?_
            unfold noSt
            rw [if_neg h3, if_neg h4]
theorem fillL_st (v : ByteArray → Nat) (m : ByteArray → List Dat) (a b lbb : Int) (hm : ∀ t x, x ∈ m t → noSt a x = true) (hz : noSt a zeroD = true) : ∀ (l : List Dat) (i : Nat), reStL a b (bareL (fillL v m a lbb l i)) = bareL (fillL v m b lbb l i)
  | [], i => by rw [fillL, fillL, bareL, reStL]
  | [d], i => by rw [fillL, fillL, bareL, bareL, reStL, fillD_st v m a b lbb hm hz d i, bareL, reStL, bareL]
  | d :: e :: r, i => by
    have ih := fillL_st v m a b lbb hm hz r i
    rw [fillL, fillL]
    by_cases h : isDots e = true
    · rw [if_pos h, if_pos h]
      have hd := fillD_st v m a b lbb hm hz d
      rw [reStL_map, bareL_map, bareL_map] at ih ⊢
      rw [List.map_append, List.map_append, List.map_append, ih, List.map_map, List.map_map, List.map_map]
      congr 1
      refine List.map_congr_left fun i _ => ?_
      exact hd i
    · rw [if_neg h, if_neg h, bareL, bareL, reStL, fillD_st v m a b lbb hm hz d i, fillL_st v m a b lbb hm hz (e :: r) i]
end

section
variable (v : ByteArray → Nat) (m : ByteArray → List Dat) (a b lbb : Int)
mutual
theorem fillD_size : ∀ (d : Dat) (i : Nat), sizeD (fillD v m a lbb d i) = sizeD (fillD v m b lbb d i) ∧ deepD (fillD v m a lbb d i) = deepD (fillD v m b lbb d i)
  | ⟨k, n, nm, st, lb, ks⟩, i => by
    unfold fillD
    split
    · exact ⟨rfl, rfl⟩
    · split
      · exact ⟨rfl, rfl⟩
      · split
        · have h := fillL_size ks i
          have e : ∀ l, sizeD ⟨4, 0, emS, 0, 0, l⟩ = 1 + sizeL l := fun l => by rw [sizeD, if_pos rfl]
          have e' : ∀ l, deepD ⟨4, 0, emS, 0, 0, l⟩ = 1 + deepL l := fun l => by rw [deepD, if_pos rfl]
          rw [e, e, e', e', h.1, h.2]
          exact ⟨rfl, rfl⟩
        · split
          · rw [sizeD, sizeD, deepD, deepD]
            exact ⟨rfl, rfl⟩
          · exact ⟨rfl, rfl⟩
theorem fillL_size : ∀ (l : List Dat) (i : Nat), sizeL (fillL v m a lbb l i) = sizeL (fillL v m b lbb l i) ∧ deepL (fillL v m a lbb l i) = deepL (fillL v m b lbb l i)
  | [], i => by rw [fillL, fillL]; exact ⟨rfl, rfl⟩
  | [d], i => by
    have h := fillD_size d i
    rw [fillL, fillL, sizeL, sizeL, deepL, deepL, h.1, h.2]
    exact ⟨rfl, rfl⟩
  | d :: e :: r, i => by
    have ih := fillL_size r i
    have hd := fillD_size d
    have h2 := fillL_size (e :: r) i
    rw [fillL, fillL]
    by_cases h : isDots e = true
    · rw [if_pos h, if_pos h, sizeL_append, sizeL_append, deepL_append, deepL_append, ih.1, ih.2]
      have h1 : ∀ (is : List Nat), sizeL (is.map (fillD v m a lbb d)) = sizeL (is.map (fillD v m b lbb d)) ∧ deepL (is.map (fillD v m a lbb d)) = deepL (is.map (fillD v m b lbb d)) := by
        intro is
        induction is with
        | nil => exact ⟨rfl, rfl⟩
        | cons j is ih =>
          rw [List.map_cons, List.map_cons, sizeL, sizeL, deepL, deepL, (hd j).1, (hd j).2, ih.1, ih.2]
          exact ⟨rfl, rfl⟩
      rw [(h1 _).1, (h1 _).2]
      exact ⟨rfl, rfl⟩
    · rw [if_neg h, if_neg h, sizeL, sizeL, deepL, deepL, (hd i).1, (hd i).2, h2.1, h2.2]
      exact ⟨rfl, rfl⟩
end
end

theorem noSt_zero (a : Int) : noSt a zeroD = true := by unfold zeroD noSt; simp
theorem reSt_zero (a b : Int) : reSt a b zeroD = zeroD := by unfold zeroD; rw [reSt, if_neg (by simp), reStL]

/-- MacroStamps, plainly. -/
theorem use_stamps (lits : List ByteArray) (rules : List (Dat × Dat)) (form : Dat) (a b lb : Int) (ha : noSt a form = true) :
    (useM lits rules form a lb).2 = (useM lits rules form b lb).2 ∧ reSt a b (useM lits rules form a lb).1 = (useM lits rules form b lb).1 := by
  have hz : ∀ (e : Int), ((zeroD, e) : Dat × Int).2 = ((zeroD, e) : Dat × Int).2 ∧ reSt a b ((zeroD, e) : Dat × Int).1 = ((zeroD, e) : Dat × Int).1 := fun e => ⟨rfl, reSt_zero a b⟩
  unfold useM
  split
  · exact hz _
  · rename_i hw
    clear hw
    split
    · exact hz _
    · split
      · exact hz _
      · rename_i h4
        have h4 : form.kind = 4 := by simpa using h4
        have hk := noSt_kids a form ha h4
        cases hf : form.kids with
        | nil => exact hz _
        | cons x ks =>
          simp only
          rw [hf] at hk
          clear hf h4 ha
          induction rules with
          | nil => exact hz _
          | cons r rs ih =>
            obtain ⟨p, t⟩ := r
            have e1 : ∀ s, useRules lits ks s lb ((p, t) :: rs) = ((fitL lits p.kids.tail ks (fun _ => [])).map fun m => grownM (vlist lits p.kids.tail true 1 (fun _ => 0)).2 m t s lb).getD (useRules lits ks s lb rs) := fun s => rfl
            rw [e1, e1]
            cases ho : fitL lits p.kids.tail ks (fun _ => []) with
            | none => exact ih
            | some m =>
              simp only [Option.map_some, Option.getD_some]
              have hm := fitL_all (fun d => noSt a d = true) (fun d h h4 => noSt_kids a d h h4) lits p.kids.tail ks (fun _ => []) m ho (fun d hd => hk d (List.mem_cons_of_mem _ hd)) (fun t x hx => by cases hx)
              have hs := fillD_size (vlist lits p.kids.tail true 1 (fun _ => 0)).2 m a b lb t 0
              have he := fillD_st (vlist lits p.kids.tail true 1 (fun _ => 0)).2 m a b lb hm (noSt_zero a) t 0
              unfold grownM
              have hmu : muchB (fillD (vlist lits p.kids.tail true 1 (fun _ => 0)).2 m a lb t 0) = muchB (fillD (vlist lits p.kids.tail true 1 (fun _ => 0)).2 m b lb t 0) := by unfold muchB; rw [hs.1, hs.2]
              rw [hmu]
              split
              · split
                · exact hz _
                · exact ⟨rfl, he⟩
              · exact hz _
end
end Go.Proofs.YtgeedaabdonjcaeGreatDoor
