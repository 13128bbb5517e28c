/- MacroNames, plainly. -/
import Derived.Test.YtgeedaabdonjcaeGreatDoorK07
namespace Go.Proofs.YtgeedaabdonjcaeGreatDoor
set_option linter.unusedVariables false
set_option linter.unusedSimpArgs false
open Go.RowKit

mutual
/-- A name is called another one. -/
def renD (a b : ByteArray) : Dat → Dat
  | ⟨k, n, nm, st, lb, ks⟩ => ⟨k, n, if k = 3 ∧ nm = a then b else nm, st, lb, renL a b ks⟩
def renL (a b : ByteArray) : List Dat → List Dat
  | [] => []
  | d :: r => renD a b d :: renL a b r
end
mutual
/-- Does a datum speak of a name? -/
def spkD (s : ByteArray) : Dat → Bool
  | ⟨k, n, nm, st, lb, ks⟩ => if k = 3 then decide (nm = s) else if k = 4 then spkL s ks else false
def spkL (s : ByteArray) : List Dat → Bool
  | [] => false
  | d :: r => spkD s d || spkL s r
end

/-- Names that may be exchanged. -/
structure Cnd (lits : List ByteArray) (a b : ByteArray) : Prop where
  ab : a ≠ b
  ad : a ≠ dotsS
  bd : b ≠ dotsS
  aa : a ≠ anyS
  ba : b ≠ anyS
  al : inB lits a = false
  bl : inB lits b = false

theorem renD_kind (a b : ByteArray) : ∀ (d : Dat), (renD a b d).kind = d.kind
  | ⟨k, n, nm, st, lb, ks⟩ => by rw [renD]
theorem renL_isEmpty (a b : ByteArray) : ∀ (l : List Dat), (renL a b l).isEmpty = l.isEmpty
  | [] => by rw [renL]
  | d :: r => by rw [renL]; rfl
theorem renL_length (a b : ByteArray) : ∀ (l : List Dat), (renL a b l).length = l.length
  | [] => by rw [renL]
  | d :: r => by rw [renL, List.length_cons, List.length_cons, renL_length a b r]

section
variable {lits : List ByteArray} {a b : ByteArray}
theorem Cnd.isDots (c : Cnd lits a b) : ∀ (d : Dat), isDots (renD a b d) = isDots d
  | ⟨k, n, nm, st, lb, ks⟩ => by
    unfold YtgeedaabdonjcaeGreatDoor.isDots
    rw [renD]
    simp only
    by_cases h : k = 3 ∧ nm = a
    · rw [if_pos h, h.2]
      simp [c.ad, c.bd]
    · rw [if_neg h]
theorem Cnd.headDots (c : Cnd lits a b) : ∀ (l : List Dat), headDots (renL a b l) = headDots l
  | [] => by rw [renL]
  | d :: r => by rw [renL, YtgeedaabdonjcaeGreatDoor.headDots, YtgeedaabdonjcaeGreatDoor.headDots, c.isDots]
theorem Cnd.varK (c : Cnd lits a b) (k : Int) (nm : ByteArray) : varK lits k (if k = 3 ∧ nm = a then b else nm) = varK lits k nm := by
  by_cases h : k = 3 ∧ nm = a
  · rw [if_pos h, h.2, h.1]
    unfold YtgeedaabdonjcaeGreatDoor.varK
    simp [c.ad, c.bd, c.aa, c.ba, c.al, c.bl]
  · rw [if_neg h]
end

/-- What stands for a stands for b there. -/
structure RenV {α : Type} (z : α) (a b : ByteArray) (v v' : ByteArray → α) : Prop where
  vb : v b = z
  va : v' a = z
  ba : v' b = v a
  other : ∀ t, t ≠ a → t ≠ b → v' t = v t

theorem RenV.start {α : Type} (z : α) (a b : ByteArray) : RenV z a b (fun _ => z) (fun _ => z) := ⟨rfl, rfl, rfl, fun _ _ _ => rfl⟩
theorem RenV.at {α : Type} {z : α} {a b : ByteArray} {v v' : ByteArray → α} (h : RenV z a b v v') (hab : a ≠ b) (k : Int) (nm : ByteArray) (h3 : k = 3) (hb : nm ≠ b) : v' (if k = 3 ∧ nm = a then b else nm) = v nm := by
  by_cases e : nm = a
  · rw [if_pos ⟨h3, e⟩, h.ba, e]
  · rw [if_neg (fun x => e x.2)]
    exact h.other nm e hb

theorem RenV.put {α : Type} {z : α} {a b : ByteArray} {v v' : ByteArray → α} (h : RenV z a b v v') (hab : a ≠ b) (nm : ByteArray) (hb : nm ≠ b) (f : α → α) (u u' : ByteArray → α)
    (hu : ∀ t, u t = if t = nm then f (v t) else v t) (hu' : ∀ t, u' t = if t = (if nm = a then b else nm) then f (v' t) else v' t) : RenV z a b u u' := by
  by_cases e : nm = a
  · subst e
    simp only [if_true] at hu'
    refine ⟨?_, ?_, ?_, ?_⟩
    · rw [hu, if_neg (fun x => hb x.symm), h.vb]
    · rw [hu', if_neg hab, h.va]
    · rw [hu', hu, if_pos rfl, if_pos rfl, h.ba]
    · intro t h1 h2
      rw [hu', hu, if_neg h2, if_neg h1, h.other t h1 h2]
  · rw [if_neg e] at hu'
    refine ⟨?_, ?_, ?_, ?_⟩
    · rw [hu, if_neg (fun x => hb x.symm), h.vb]
    · rw [hu', if_neg (fun x => e x.symm), h.va]
    · rw [hu', hu, if_neg (fun x => hb x.symm), if_neg (fun x => e x.symm), h.ba]
    · intro t h1 h2
      rw [hu', hu, h.other t h1 h2]

mutual
theorem vthing_ren {lits : List ByteArray} {a b : ByteArray} (c : Cnd lits a b) : ∀ (d : Dat) (s : Nat) (v v' : ByteArray → Nat), spkD b d = false → RenV 0 a b v v' →
    (vthing lits (renD a b d) s v').1 = (vthing lits d s v).1 ∧ RenV 0 a b (vthing lits d s v).2 (vthing lits (renD a b d) s v').2
  | ⟨k, n, nm, st, lb, ks⟩, s, v, v', hs, h => by
    unfold spkD at hs
    rw [renD, vthing, vthing]
    by_cases h4 : k = 4
    · rw [if_neg (by omega), if_pos h4] at hs
      rw [if_pos h4, if_pos h4]
      exact vlist_ren c ks true s v v' hs h
    · rw [if_neg h4, if_neg h4, c.varK]
      by_cases hv : varK lits k nm = true
      · have h3 : k = 3 := by unfold varK at hv; simp at hv; exact hv.1
        rw [if_pos h3] at hs
        have hb : nm ≠ b := by simpa using hs
        rw [if_pos hv, if_pos hv, h.at c.ab k nm h3 hb]
        by_cases h0 : v nm = 0
        · rw [if_pos h0, if_pos h0]
          refine ⟨rfl, ?_⟩
          refine h.put c.ab nm hb (fun _ => s) _ _ (fun t => rfl) (fun t => ?_)
          show putV v' (if k = 3 ∧ nm = a then b else nm) s t = _
          unfold putV
          simp [h3]
        · rw [if_neg h0, if_neg h0]
          exact ⟨rfl, h⟩
      · rw [if_neg hv, if_neg hv]
        exact ⟨rfl, h⟩
theorem vlist_ren {lits : List ByteArray} {a b : ByteArray} (c : Cnd lits a b) : ∀ (l : List Dat) (first : Bool) (s : Nat) (v v' : ByteArray → Nat), spkL b l = false → RenV 0 a b v v' →
    (vlist lits (renL a b l) first s v').1 = (vlist lits l first s v).1 ∧ RenV 0 a b (vlist lits l first s v).2 (vlist lits (renL a b l) first s v').2
  | [], first, s, v, v', hs, h => by
    rw [renL, vlist, vlist]
    exact ⟨rfl, h⟩
  | d :: r, first, s, v, v', hs, h => by
    unfold spkL at hs
    rw [Bool.or_eq_false_iff] at hs
    rw [renL, vlist, vlist, c.isDots, c.headDots, renL_isEmpty]
    generalize (if headDots r = true then 2 else s) = s2
    obtain ⟨e1, e2⟩ := vthing_ren c d s2 v v' hs.1 h
    by_cases hd : isDots d = true
    · rw [if_pos hd, if_pos hd]
      split
      · exact ⟨rfl, h⟩
      · exact ⟨rfl, h⟩
    · rw [if_neg hd, if_neg hd]
      split
      · exact ⟨rfl, h⟩
      · by_cases h0 : (vthing lits d s2 v).1 = 0
        · rw [if_pos h0, if_pos (e1.trans h0)]
          exact vlist_ren c r false s _ _ hs.2 e2
        · rw [if_neg h0, if_neg (fun x => h0 (e1.symm.trans x))]
          exact ⟨e1, e2⟩
end

/-- Both nothing, or both something that goes together. -/
def Both {α : Type} (R : α → α → Prop) : Option α → Option α → Prop
  | none, none => True
  | some x, some y => R x y
  | _, _ => False
theorem Both.bind {α : Type} {R : α → α → Prop} {x y : Option α} {f g : α → Option α} (h : Both R x y) (hf : ∀ p q, R p q → Both R (f p) (g q)) : Both R (x.bind f) (y.bind g) := by
  cases x with
  | none => cases y with
    | none => trivial
    | some y => exact h.elim
  | some x => cases y with
    | none => exact h.elim
    | some y => exact hf x y h
theorem Both.fold {α β : Type} {R : α → α → Prop} {f g : α → β → Option α} (hf : ∀ p q d, R p q → Both R (f p d) (g q d)) : ∀ (l : List β) (p q : α), R p q → Both R (l.foldlM f p) (l.foldlM g q)
  | [], p, q, h => h
  | d :: l, p, q, h => by
    rw [List.foldlM_cons, List.foldlM_cons]
    exact (hf p q d h).bind fun p q h => Both.fold hf l p q h

mutual
theorem fitD_ren {lits : List ByteArray} {a b : ByteArray} (c : Cnd lits a b) : ∀ (p d : Dat) (m m' : ByteArray → List Dat), spkD b p = false → RenV [] a b m m' → Both (RenV [] a b) (fitD lits p d m) (fitD lits (renD a b p) d m')
  | ⟨k, n, nm, st, lb, ks⟩, d, m, m', hs, h => by
    unfold spkD at hs
    rw [renD, fitD, fitD]
    by_cases h3 : k = 3
    · rw [if_pos h3] at hs
      have hb : nm ≠ b := by simpa using hs
      rw [if_pos h3, if_pos h3, c.varK]
      by_cases ha : nm = a
      · have e : (if k = 3 ∧ nm = a then b else nm) = b := if_pos ⟨h3, ha⟩
        rw [e, c.bl, ha, c.al]
        simp only [Bool.false_eq_true, if_false]
        split
        · refine h.put c.ab a (ha ▸ hb) (fun l => l ++ [d]) _ _ (fun t => rfl) (fun t => ?_)
          simp [putM]
        · exact h
      · have e : (if k = 3 ∧ nm = a then b else nm) = nm := if_neg (fun x => ha x.2)
        rw [e]
        split
        · split
          · exact h
          · trivial
        · split
          · refine h.put c.ab nm hb (fun l => l ++ [d]) _ _ (fun t => rfl) (fun t => ?_)
            rw [if_neg ha]
            rfl
          · exact h
    · rw [if_neg h3, if_neg h3]
      rw [if_neg h3] at hs
      by_cases h4 : k = 4
      · rw [if_pos h4] at hs
        rw [if_pos h4, if_pos h4]
        split
        · exact fitL_ren c ks d.kids m m' hs h
        · trivial
      · rw [if_neg h4, if_neg h4]
        split
        · exact h
        · trivial
theorem fitL_ren {lits : List ByteArray} {a b : ByteArray} (c : Cnd lits a b) : ∀ (l ds : List Dat) (m m' : ByteArray → List Dat), spkL b l = false → RenV [] a b m m' → Both (RenV [] a b) (fitL lits l ds m) (fitL lits (renL a b l) ds m')
  | [], ds, m, m', hs, h => by
    rw [renL, fitL, fitL]
    split
    · exact h
    · trivial
  | [p], ds, m, m', hs, h => by
    rw [renL, renL]
    unfold fitL
    unfold spkL at hs
    rw [Bool.or_eq_false_iff] at hs
    cases ds with
    | nil => trivial
    | cons d ds => cases ds with
      | nil => exact fitD_ren c p d m m' hs.1 h
      | cons e ds => trivial
  | p :: q :: r, ds, m, m', hs, h => by
    unfold spkL at hs
    rw [Bool.or_eq_false_iff] at hs
    have hp := fun d m m' h => fitD_ren c p d m m' hs.1 h
    have hr := fun ds m m' h => fitL_ren c (q :: r) ds m m' hs.2 h
    rw [renL] at hr ⊢
    rw [renL]
    unfold fitL
    rw [c.isDots]
    split
    · exact Both.fold (fun m m' d h => hp d m m' h) ds m m' h
    · cases ds with
      | nil => trivial
      | cons d ds => exact (hp d m m' h).bind fun m m' h => hr ds m m' h
end

section
variable {lits : List ByteArray} {a b : ByteArray} {v v' : ByteArray → Nat} {m m' : ByteArray → List Dat}
mutual
theorem manyD_ren (c : Cnd lits a b) (h : RenV 0 a b v v') : ∀ (d : Dat), spkD b d = false → manyD v' (renD a b d) = manyD v d
  | ⟨k, n, nm, st, lb, ks⟩, hs => by
    unfold spkD at hs
    rw [renD, manyD, manyD]
    by_cases h3 : k = 3
    · rw [if_pos h3] at hs
      rw [if_pos h3, if_pos h3, h.at c.ab k nm h3 (by simpa using hs)]
    · rw [if_neg h3] at hs
      rw [if_neg h3, if_neg h3]
      by_cases h4 : k = 4
      · rw [if_pos h4] at hs
        rw [if_pos h4, if_pos h4, manyL_ren c h ks hs]
      · rw [if_neg h4, if_neg h4]
theorem manyL_ren (c : Cnd lits a b) (h : RenV 0 a b v v') : ∀ (l : List Dat), spkL b l = false → manyL v' (renL a b l) = manyL v l
  | [], hs => by rw [renL, manyL, manyL]
  | d :: r, hs => by
    unfold spkL at hs
    rw [Bool.or_eq_false_iff] at hs
    rw [renL, manyL, manyL, manyD_ren c h d hs.1, manyL_ren c h r hs.2]
end
mutual
theorem rightD_ren (c : Cnd lits a b) (h : RenV 0 a b v v') : ∀ (d : Dat) (wi : Bool), spkD b d = false → rightD v' (renD a b d) wi = rightD v d wi
  | ⟨k, n, nm, st, lb, ks⟩, wi, hs => by
    unfold spkD at hs
    rw [renD, rightD, rightD]
    by_cases h3 : k = 3
    · rw [if_pos h3] at hs
      rw [if_pos h3, if_pos h3, h.at c.ab k nm h3 (by simpa using hs)]
      by_cases e : nm = a
      · rw [if_pos ⟨h3, e⟩, e]
        simp [c.ad, c.bd]
      · rw [if_neg (fun x => e x.2)]
    · rw [if_neg h3] at hs
      rw [if_neg h3, if_neg h3]
      by_cases h4 : k = 4
      · rw [if_pos h4] at hs
        rw [if_pos h4, if_pos h4, rightL_ren c h ks wi hs]
      · rw [if_neg h4, if_neg h4]
theorem rightL_ren (c : Cnd lits a b) (h : RenV 0 a b v v') : ∀ (l : List Dat) (wi : Bool), spkL b l = false → rightL v' (renL a b l) wi = rightL v l wi
  | [], wi, hs => by rw [renL, rightL, rightL]
  | [d], wi, hs => by
    unfold spkL at hs
    rw [Bool.or_eq_false_iff] at hs
    rw [renL, renL, rightL, rightL, rightD_ren c h d wi hs.1]
  | d :: e :: r, wi, hs => by
    unfold spkL at hs
    rw [Bool.or_eq_false_iff] at hs
    have he := hs.2
    unfold spkL at he
    rw [Bool.or_eq_false_iff] at he
    have h1 := rightL_ren c h (e :: r) wi hs.2
    rw [renL] at h1 ⊢
    rw [renL, rightL, rightL, c.isDots, rightD_ren c h d true hs.1, rightD_ren c h d wi hs.1, manyD_ren c h d hs.1, rightL_ren c h r wi he.2, h1]
end
mutual
theorem cntD_ren (c : Cnd lits a b) (h : RenV 0 a b v v') (hm : RenV [] a b m m') (h0 : v emS = 0) (h0' : v' emS = 0) : ∀ (d : Dat), spkD b d = false → cntD v' m' (renD a b d) = cntD v m d
  | ⟨k, n, nm, st, lb, ks⟩, hs => by
    unfold spkD at hs
    rw [renD, cntD, cntD]
    have y3 : k = 3 → ∀ s, symS k s = s := fun e s => if_pos e
    have yn : k ≠ 3 → ∀ s, symS k s = emS := fun e s => if_neg e
    by_cases h3 : k = 3
    · rw [if_pos h3] at hs
      have hb : nm ≠ b := by simpa using hs
      have h4 : k ≠ 4 := by omega
      rw [y3 h3, y3 h3, h.at c.ab k nm h3 hb, hm.at c.ab k nm h3 hb]
      simp only [if_neg h4]
    · rw [if_neg h3] at hs
      rw [yn h3, yn h3, h0, h0']
      simp only [show ¬ (0 : Nat) = 2 from by decide, if_false]
      by_cases h4 : k = 4
      · rw [if_pos h4] at hs
        rw [if_pos h4, if_pos h4, cntL_ren c h hm h0 h0' ks hs]
      · rw [if_neg h4, if_neg h4]
theorem cntL_ren (c : Cnd lits a b) (h : RenV 0 a b v v') (hm : RenV [] a b m m') (h0 : v emS = 0) (h0' : v' emS = 0) : ∀ (l : List Dat), spkL b l = false → cntL v' m' (renL a b l) = cntL v m l
  | [], hs => by rw [renL, cntL, cntL]
  | d :: r, hs => by
    unfold spkL at hs
    rw [Bool.or_eq_false_iff] at hs
    rw [renL, cntL, cntL, cntD_ren c h hm h0 h0' d hs.1, cntL_ren c h hm h0 h0' r hs.2]
end
mutual
theorem fitsD_ren (c : Cnd lits a b) (h : RenV 0 a b v v') (hm : RenV [] a b m m') (h0 : v emS = 0) (h0' : v' emS = 0) : ∀ (d : Dat), spkD b d = false → fitsD v' m' (renD a b d) = fitsD v m d
  | ⟨k, n, nm, st, lb, ks⟩, hs => by
    unfold spkD at hs
    rw [renD, fitsD, fitsD]
    by_cases h4 : k = 4
    · rw [if_neg (by omega), if_pos h4] at hs
      rw [if_pos h4, if_pos h4, fitsL_ren c h hm h0 h0' ks hs]
    · rw [if_neg h4, if_neg h4]
theorem fitsL_ren (c : Cnd lits a b) (h : RenV 0 a b v v') (hm : RenV [] a b m m') (h0 : v emS = 0) (h0' : v' emS = 0) : ∀ (l : List Dat), spkL b l = false → fitsL v' m' (renL a b l) = fitsL v m l
  | [], hs => by rw [renL, fitsL, fitsL]
  | [d], hs => by
    unfold spkL at hs
    rw [Bool.or_eq_false_iff] at hs
    rw [renL, renL, fitsL, fitsL, fitsD_ren c h hm h0 h0' d hs.1]
  | d :: e :: r, hs => by
    unfold spkL at hs
    rw [Bool.or_eq_false_iff] at hs
    have he := hs.2
    unfold spkL at he
    rw [Bool.or_eq_false_iff] at he
    have h1 := fitsL_ren c h hm h0 h0' (e :: r) hs.2
    rw [renL] at h1 ⊢
    rw [renL, fitsL, fitsL, c.isDots, fitsD_ren c h hm h0 h0' d hs.1, cntD_ren c h hm h0 h0' d hs.1, fitsL_ren c h hm h0 h0' r he.2, h1]
end
mutual
theorem fillD_ren (c : Cnd lits a b) (h : RenV 0 a b v v') (hm : RenV [] a b m m') (h0 : v emS = 0) (h0' : v' emS = 0) (h2 : v a = 1 ∨ v a = 2) (sp lbb : Int) : ∀ (d : Dat) (i : Nat), spkD b d = false → fillD v' m' sp lbb (renD a b d) i = fillD v m sp lbb d i
  | ⟨k, n, nm, st, lb, ks⟩, i, hs => by
    unfold spkD at hs
    rw [renD, fillD, fillD]
    have y3 : k = 3 → ∀ s, symS k s = s := fun e s => if_pos e
    have yn : k ≠ 3 → ∀ s, symS k s = emS := fun e s => if_neg e
    by_cases h3 : k = 3
    · rw [if_pos h3] at hs
      have hb : nm ≠ b := by simpa using hs
      have h4 : k ≠ 4 := by omega
      rw [y3 h3, y3 h3, h.at c.ab k nm h3 hb, hm.at c.ab k nm h3 hb]
      by_cases e : nm = a
      · rcases h2 with h2 | h2 <;> rw [e, h2] <;> simp
      · have e' : (if k = 3 ∧ nm = a then b else nm) = nm := if_neg (fun x => e x.2)
        rw [e']
        simp only [if_neg h4]
    · rw [if_neg h3] at hs
      rw [yn h3, yn h3, h0, h0']
      simp only [show ¬ (0 : Nat) = 2 from by decide, show ¬ (0 : Nat) = 1 from by decide, if_false]
      by_cases h4 : k = 4
      · rw [if_pos h4] at hs
        rw [if_pos h4, if_pos h4, fillL_ren c h hm h0 h0' h2 sp lbb ks i hs]
      · rw [if_neg h4, if_neg h4, if_neg h3, if_neg h3]
theorem fillL_ren (c : Cnd lits a b) (h : RenV 0 a b v v') (hm : RenV [] a b m m') (h0 : v emS = 0) (h0' : v' emS = 0) (h2 : v a = 1 ∨ v a = 2) (sp lbb : Int) : ∀ (l : List Dat) (i : Nat), spkL b l = false → fillL v' m' sp lbb (renL a b l) i = fillL v m sp lbb l i
  | [], i, hs => by rw [renL, fillL, fillL]
  | [d], i, hs => by
    unfold spkL at hs
    rw [Bool.or_eq_false_iff] at hs
    rw [renL, renL, fillL, fillL, fillD_ren c h hm h0 h0' h2 sp lbb d i hs.1]
  | d :: e :: r, i, hs => by
    unfold spkL at hs
    rw [Bool.or_eq_false_iff] at hs
    have he := hs.2
    unfold spkL at he
    rw [Bool.or_eq_false_iff] at he
    have h1 := fillL_ren c h hm h0 h0' h2 sp lbb (e :: r) i hs.2
    have hd : fillD v' m' sp lbb (renD a b d) = fillD v m sp lbb d := funext fun i => fillD_ren c h hm h0 h0' h2 sp lbb d i hs.1
    rw [renL] at h1 ⊢
    rw [renL, fillL, fillL, c.isDots, hd, cntD_ren c h hm h0 h0' d hs.1, fillL_ren c h hm h0 h0' h2 sp lbb r i he.2, h1]
end
end

theorem chkL_ren (a b : ByteArray) (g : Dat → Nat → Int × Nat) (hg : ∀ d n, (g d n).1 = 0 → g (renD a b d) n = g d n) : ∀ (l : List Dat) (n : Nat), (chkL g l n).1 = 0 → chkL g (renL a b l) n = chkL g l n
  | [], n, h => by rw [renL]
  | d :: r, n, h => by
    rw [renL]
    unfold chkL at h ⊢
    by_cases e : (g d n).1 = 0
    · rw [if_pos e] at h ⊢
      rw [hg d n e, if_pos e]
      exact chkL_ren a b g hg r _ h
    · rw [if_neg e] at h
      exact absurd h e
theorem chk_ren (a b : ByteArray) (hb : namedB b = true) : ∀ (f : Nat) (d : Dat) (n : Nat), (chk f d n).1 = 0 → chk f (renD a b d) n = chk f d n
  | 0, d, n, h => by simp [chk] at h
  | f + 1, d, n, h => by
    unfold chk at h ⊢
    by_cases h1 : 2000 < n + 1
    · rw [if_pos h1] at h
      simp at h
    · rw [if_neg h1] at h ⊢
      by_cases a0 : alone d = 0
      · rw [if_pos a0] at h ⊢
        have a1 : alone (renD a b d) = 0 := by
          obtain ⟨k, n', nm, st, lb, ks⟩ := d
          rw [renD]
          by_cases e : k = 3 ∧ nm = a
          · unfold alone at a0 ⊢
            simp only [e.1] at a0 ⊢
            have e3 : (if True ∧ nm = a then b else nm) = b := if_pos ⟨trivial, e.2⟩
            rw [e3, hb]
            rw [if_neg (by decide), if_neg (by decide), if_pos trivial] at a0 ⊢
            rw [if_pos rfl]
            split at a0
            · exact a0
            · simp at a0
          · rw [if_neg e]
            unfold alone at a0 ⊢
            exact a0
        rw [if_pos a1, if_neg h1, renD_kind]
        by_cases h4 : d.kind = 4
        · rw [if_pos h4] at h ⊢
          rw [if_pos h4]
          have e : (renD a b d).kids = renL a b d.kids := by
            obtain ⟨k, n', nm, st, lb, ks⟩ := d
            rw [renD]
          rw [e]
          exact chkL_ren a b (chk f) (chk_ren a b hb f) _ _ h
        · rw [if_neg h4, if_neg h4]
      · rw [if_neg a0] at h
        exact absurd h a0

mutual
/-- A variable that is spoken of stands for something. -/
theorem vthing_spk {lits : List ByteArray} {a : ByteArray} (hv : varK lits 3 a = true) : ∀ (d : Dat) (s : Nat) (v : ByteArray → Nat), s ≠ 0 → (vthing lits d s v).1 = 0 → spkD a d = true → (vthing lits d s v).2 a ≠ 0
  | ⟨k, n, nm, st, lb, ks⟩, s, v, h0, h, hs => by
    unfold spkD at hs
    unfold vthing at h ⊢
    by_cases h3 : k = 3
    · rw [if_pos h3] at hs
      have e : nm = a := by simpa using hs
      subst e
      rw [if_neg (by omega), h3, if_pos hv] at h ⊢
      by_cases hz : v nm = 0
      · rw [if_pos hz]
        show putV v nm s nm ≠ 0
        unfold putV
        rw [if_pos rfl]
        exact h0
      · rw [if_neg hz] at h
        simp at h
    · rw [if_neg h3] at hs
      by_cases h4 : k = 4
      · rw [if_pos h4] at hs h ⊢
        exact vlist_spk hv ks true s v h0 h hs
      · rw [if_neg h4] at hs
        cases hs
theorem vlist_spk {lits : List ByteArray} {a : ByteArray} (hv : varK lits 3 a = true) : ∀ (l : List Dat) (first : Bool) (s : Nat) (v : ByteArray → Nat), s ≠ 0 → (vlist lits l first s v).1 = 0 → spkL a l = true → (vlist lits l first s v).2 a ≠ 0
  | [], _, _, _, _, _, hs => by unfold spkL at hs; cases hs
  | d :: r, first, s, v, h0, h, hs => by
    unfold spkL at hs
    rw [Bool.or_eq_true] at hs
    have hg := fun s2 => vthing_grows lits d s2 v
    unfold vlist at h ⊢
    by_cases hd : isDots d = true
    · rw [if_pos hd] at h
      have hn : spkD a d = false := by
        obtain ⟨k, n, nm, st, lb, ks⟩ := d
        unfold isDots at hd
        simp at hd
        unfold spkD
        rw [if_pos hd.1, hd.2]
        unfold varK at hv
        simp at hv
        simp
        exact fun e => hv.1 e.symm
      cases r with
      | nil => unfold spkL at hs; rw [hn] at hs; simp at hs
      | cons x y => simp at h
    · rw [if_neg hd] at h ⊢
      have hs2 : (if headDots r = true then 2 else s) ≠ 0 := by split <;> omega
      generalize (if headDots r = true then 2 else s) = s2 at h hs2 ⊢
      split at h
      · simp at h
      · rename_i h2
        rw [if_neg h2]
        split at h
        · rename_i h1
          rw [if_pos h1]
          rcases hs with hs | hs
          · have := vthing_spk hv d s2 v hs2 h1 hs
            rcases vlist_grows lits r false s (vthing lits d s2 v).2 h0 a with q | ⟨q, _⟩
            · rw [q]
              exact this
            · exact absurd q this
          · exact vlist_spk hv r false s _ h0 h hs
        · rename_i h1
          exact absurd h h1
end

mutual
theorem hasNames_ren {a b : ByteArray} (hb : b ≠ emS) : ∀ (d : Dat), hasNames d = true → hasNames (renD a b d) = true
  | ⟨k, n, nm, st, lb, ks⟩, h => by
    rw [renD]
    unfold hasNames at h ⊢
    by_cases h3 : k = 3
    · rw [if_pos h3] at h ⊢
      split
      · simp [hb]
      · exact h
    · rw [if_neg h3] at h ⊢
      by_cases h4 : k = 4
      · rw [if_pos h4] at h ⊢
        exact hasNamesL_ren hb ks h
      · rw [if_neg h4]
theorem hasNamesL_ren {a b : ByteArray} (hb : b ≠ emS) : ∀ (l : List Dat), hasNamesL l = true → hasNamesL (renL a b l) = true
  | [], _ => by rw [renL, hasNamesL]
  | d :: r, h => by
    rw [hasNamesL, Bool.and_eq_true] at h
    rw [renL, hasNamesL, hasNames_ren hb d h.1, hasNamesL_ren hb r h.2]
    rfl
end

/-- A rule of which a variable is called another name, new to it. -/
theorem rule_ren {lits : List ByteArray} {a b : ByteArray} (c : Cnd lits a b) (hb : namedB b = true) (p t h : Dat) (args : List Dat) (hp : p.kids = h :: args) (hw : wrongRule lits p t = 0) (ha : spkL a args = true) (hn : spkL b args = false) (hn2 : spkD b t = false) :
    wrongRule lits (listD (h :: renL a b args)) (renD a b t) = 0 ∧
    ∀ ks sp lb, ((fitL lits (listD (h :: renL a b args)).kids.tail ks (fun _ => [])).map fun m => grownM (vlist lits (listD (h :: renL a b args)).kids.tail true 1 (fun _ => 0)).2 m (renD a b t) sp lb) = ((fitL lits p.kids.tail ks (fun _ => [])).map fun m => grownM (vlist lits p.kids.tail true 1 (fun _ => 0)).2 m t sp lb) := by
  obtain ⟨v1, v2⟩ := vlist_ren c args true 1 (fun _ => 0) (fun _ => 0) hn (RenV.start 0 a b)
  have hva : varK lits 3 a = true := by unfold varK; simp [c.ad, c.aa, c.al]
  unfold wrongRule at hw
  rw [hp] at hw
  simp only at hw
  split at hw
  · rename_i h1
    exact absurd hw h1
  · rename_i h1
    have h1 : (wrong [p, t]).1 = 0 := by simpa using h1
    split at hw
    · simp at hw
    · rename_i hk
      have hk : p.kind = 4 := by simpa using hk
      split at hw
      · simp at hw
      · rename_i hh
        split at hw
        · rename_i h2
          exact absurd hw h2
        · rename_i h2
          have h2 : (vlist lits args true 1 fun _ => 0).1 = 0 := by simpa using h2
          split at hw
          · rename_i h3
            have h3' := (rightD_ren c v2 t false hn2).trans h3
            have hpt : ∀ d ∈ [p, t], hasNames d = true := wrongFrom_names [p, t] 0 0 h1
            have hargs : hasNamesL args = true := by
              have := hpt p (by simp)
              obtain ⟨k, n', nm, st, lb, ks⟩ := p
              simp only at hk hp
              unfold hasNames at this
              rw [if_neg (by omega), if_pos hk, hp] at this
              unfold hasNamesL at this
              rw [Bool.and_eq_true] at this
              exact this.2
            constructor
            · unfold wrongRule
              have hw0 : (wrong [listD (h :: renL a b args), renD a b t]).1 = 0 := by
                have e1 : (chk 40 p 0).1 = 0 := by
                  unfold wrong wrongFrom at h1
                  split at h1
                  · assumption
                  · exact h1
                have e2 : chk 40 (listD (h :: renL a b args)) 0 = chk 40 p 0 := by
                  have c1 : ∀ d : Dat, chk 40 d 0 = if alone d = 0 then (if d.kind = 4 then chkL (chk 39) d.kids 1 else (0, 1)) else (alone d, 1) := fun d => by
                    show chk (39 + 1) d 0 = _
                    rw [chk, if_neg (by omega)]
                  rw [c1] at e1
                  rw [c1, c1]
                  have ap : alone p = 0 := by unfold alone; rw [if_neg (by omega), if_neg (by omega), if_neg (by omega), if_pos hk]
                  have al : alone (listD (h :: renL a b args)) = 0 := by unfold alone listD; simp
                  have el : (listD (h :: renL a b args)).kind = 4 := rfl
                  rw [if_pos ap, if_pos hk, hp] at e1
                  rw [if_pos al, if_pos el, if_pos ap, if_pos hk, hp]
                  show chkL (chk 39) (h :: renL a b args) 1 = chkL (chk 39) (h :: args) 1
                  unfold chkL at e1 ⊢
                  split at e1
                  · rename_i q
                    rw [if_pos q, if_pos q]
                    exact chkL_ren a b (chk 39) (chk_ren a b hb 39) _ _ e1
                  · rename_i q
                    exact absurd e1 q
                unfold wrong wrongFrom at h1 ⊢
                rw [e2]
                rw [if_pos e1] at h1 ⊢
                unfold wrongFrom at h1 ⊢
                have e3 : (chk 40 t (chk 40 p 0).2).1 = 0 := by
                  split at h1
                  · assumption
                  · exact h1
                rw [if_pos e3] at h1
                rw [chk_ren a b hb 40 t _ e3, if_pos e3]
                unfold wrongFrom
                rfl
              rw [hw0, if_neg (by simp), if_neg (by unfold listD; simp)]
              show (if _ then _ else _) = _
              rw [if_neg hh, v1, h2, if_neg (by simp), h3', if_pos rfl]
            · intro ks sp lb
              rw [hp]
              show ((fitL lits (renL a b args) ks fun _ => []).map _) = (fitL lits args ks fun _ => []).map _
              have hB := fitL_ren c args ks (fun _ => []) (fun _ => []) hn (RenV.start [] a b)
              have hv0 : (vlist lits args true 1 fun _ => 0).2 emS = 0 := vlist_em lits args true 1 _ hargs
              have hren : hasNamesL (renL a b args) = true := by
                have hbe : b ≠ emS := by
                  intro e
                  rw [e] at hb
                  exact absurd hb (by decide +kernel)
                exact hasNamesL_ren hbe args hargs
              have hv0' : (vlist lits (renL a b args) true 1 fun _ => 0).2 emS = 0 := vlist_em lits _ true 1 _ hren
              have h12 : (vlist lits args true 1 fun _ => 0).2 a = 1 ∨ (vlist lits args true 1 fun _ => 0).2 a = 2 := by
                have := vlist_spk hva args true 1 (fun _ => 0) (by decide) h2 ha
                rcases vlist_grows lits args true 1 (fun _ => 0) (by decide) a with q | ⟨_, q, _⟩
                · exact absurd q this
                · exact q
              cases h5 : fitL lits args ks fun _ => [] with
              | none => cases h6 : fitL lits (renL a b args) ks fun _ => [] with
                | none => rfl
                | some m' => rw [h5, h6] at hB; exact hB.elim
              | some m => cases h6 : fitL lits (renL a b args) ks fun _ => [] with
                | none => rw [h5, h6] at hB; exact hB.elim
                | some m' =>
                  rw [h5, h6] at hB
                  have hM : RenV [] a b m m' := hB
                  simp only [Option.map_some]
                  congr 1
                  unfold grownM
                  have f1 := fitsD_ren c v2 hM hv0 hv0' t hn2
                  have f2 := fillD_ren c v2 hM hv0 hv0' h12 sp lb t 0 hn2
                  show (if fitsD (vlist lits (renL a b args) true 1 fun _ => 0).2 m' (renD a b t) = true then _ else _) = _
                  rw [f1]
                  show (if _ then (if muchB (fillD (vlist lits (renL a b args) true 1 fun _ => 0).2 m' sp lb (renD a b t) 0) = true then _ else (bareD (fillD (vlist lits (renL a b args) true 1 fun _ => 0).2 m' sp lb (renD a b t) 0), _)) else _) = _
                  rw [f2]
                  rfl
          · simp at hw

/-- Rules of which one is told otherwise. -/
theorem use_swap (lits : List ByteArray) (A C : List (Dat × Dat)) (p t p' t' form : Dat) (sp lb : Int) (hw : (wrongM lits (A ++ (p, t) :: C)).1 = 0) (hr : wrongRule lits p' t' = 0)
    (he : ∀ ks sp lb, ((fitL lits p'.kids.tail ks (fun _ => [])).map fun m => grownM (vlist lits p'.kids.tail true 1 (fun _ => 0)).2 m t' sp lb) = ((fitL lits p.kids.tail ks (fun _ => [])).map fun m => grownM (vlist lits p.kids.tail true 1 (fun _ => 0)).2 m t sp lb)) :
    useM lits (A ++ (p', t') :: C) form sp lb = useM lits (A ++ (p, t) :: C) form sp lb := by
  have hw' : (wrongM lits (A ++ (p', t') :: C)).1 = 0 := by
    unfold wrongM at hw ⊢
    have hl : (A ++ (p', t') :: C).length = (A ++ (p, t) :: C).length := by simp
    rw [hl]
    split at hw
    · simp at hw
    · rename_i h1
      rw [if_neg h1]
      split at hw
      · rename_i h2
        rw [if_pos h2]
        have aux : ∀ (A : List (Dat × Dat)) (i : Nat), (wrongRules lits (A ++ (p, t) :: C) i).1 = 0 → (wrongRules lits (A ++ (p', t') :: C) i).1 = 0 := by
          intro A
          induction A with
          | nil =>
            intro i h
            simp only [List.nil_append, wrongRules] at h ⊢
            rw [if_pos hr]
            split at h
            · exact h
            · rename_i q
              exact absurd h q
          | cons x A ih =>
            obtain ⟨xp, xt⟩ := x
            intro i h
            simp only [List.cons_append, wrongRules] at h ⊢
            split at h
            · rename_i q
              rw [if_pos q]
              exact ih _ h
            · rename_i q
              exact absurd h q
        exact aux A 0 hw
      · simp at hw
  unfold useM
  rw [hw, hw']
  have aux : ∀ (ks : List Dat) (A : List (Dat × Dat)), useRules lits ks sp lb (A ++ (p', t') :: C) = useRules lits ks sp lb (A ++ (p, t) :: C) := by
    intro ks A
    induction A with
    | nil =>
      simp only [List.nil_append, useRules]
      rw [he]
    | cons x A ih =>
      obtain ⟨xp, xt⟩ := x
      simp only [List.cons_append, useRules]
      rw [ih]
  simp only [ne_eq, not_true_eq_false, if_false]
  split
  · rfl
  · split
    · rfl
    · cases form.kids with
      | nil => rfl
      | cons x ks => exact aux ks A
end Go.Proofs.YtgeedaabdonjcaeGreatDoor
