/- The plain mathematics of chapter 1's data: what is a letter, a name, what is wrong with data, how they are written. The plain mathematics of chapter 5's rule set: patterns, templates, what fits, what comes of it. Patterns: what is right in them, what their variables meet. Patterns that fit, taken apart; templates: their things. -/
import Derived.Test.YtgeedaabdonjcaeGreatDoorProg
import Derived.WalkKit
namespace Go.Proofs.YtgeedaabdonjcaeGreatDoor
section
set_option linter.unusedVariables false
set_option linter.unusedSimpArgs false
open Go.RowKit

/-- A datum. -/
structure Dat where
  kind : Int
  n : Int
  name : ByteArray
  stamp : Int
  lib : Int
  kids : List Dat

def digB (c : Int) : Bool := decide (48 ≤ c) && decide (c ≤ 57)

def letTab : List Int := [97, 98, 99, 100, 101, 102, 103, 104, 105, 106, 107, 108, 109, 110, 111, 112, 113, 114, 115, 116, 117, 118, 119, 120, 121, 122, 48, 49, 50, 51, 52, 53, 54, 55, 56, 57, 33, 63, 42, 43, 45, 47, 60, 61, 62, 95, 46]

def letB (c : Int) : Bool := letTab.any fun x => x == c

/-- The digits behind a sign. -/
def unsign (l : List UInt8) : List UInt8 := if l.head? = some 45 then l.tail else l

def allDig (l : List UInt8) : Bool := l.all fun c => digB (c.toNat : Int)
def allLet (l : List UInt8) : Bool := l.all fun c => letB (c.toNat : Int)

def looksB (l : List UInt8) : Bool := allDig (unsign l) && !(unsign l).isEmpty

def namedB (s : ByteArray) : Bool := decide (0 < s.size) && decide (s.size ≤ 20) && allLet s.data.toList && !looksB s.data.toList

def rangeB (n : Int) : Bool := decide (-1000000000000000 ≤ n) && decide (n ≤ 1000000000000000)

/-- What is wrong with a node, whatever its kids are. -/
def alone (d : Dat) : Int :=
  if d.kind = 1 then (if rangeB d.n then 0 else 3)
  else if d.kind = 2 then (if d.n = 0 ∨ d.n = 1 then 0 else 3)
  else if d.kind = 3 then (if namedB d.name then (if d.stamp = 0 ∧ d.lib = 0 then 0 else 8) else 7)
  else if d.kind = 4 then 0 else 1

def chkL (g : Dat → Nat → Int × Nat) : List Dat → Nat → Int × Nat
  | [], n => (0, n)
  | d :: r, n => if (g d n).1 = 0 then chkL g r (g d n).2 else g d n

/-- What is wrong with a datum, so deep that f levels are left, behind n nodes; and how many there are then. -/
def chk : Nat → Dat → Nat → Int × Nat
  | 0, _, n => (4, n + 1)
  | f + 1, d, n => if 2000 < n + 1 then (4, n + 1) else if alone d = 0 then (if d.kind = 4 then chkL (chk f) d.kids (n + 1) else (0, n + 1)) else (alone d, n + 1)

def wrongFrom : List Dat → Nat → Nat → Int × Int
  | [], _, _ => (0, 0)
  | d :: r, i, n => if (chk 40 d n).1 = 0 then wrongFrom r (i + 1) (chk 40 d n).2 else ((chk 40 d n).1, i)

def wrong (l : List Dat) : Int × Int := wrongFrom l 0 0

theorem chkL_le (g : Dat → Nat → Int × Nat) (hg : ∀ d n, n ≤ 2000 → (g d n).1 = 0 → (g d n).2 ≤ 2000) : ∀ (l : List Dat) (n : Nat), n ≤ 2000 → (chkL g l n).1 = 0 → (chkL g l n).2 ≤ 2000
  | [], n, h, _ => h
  | d :: r, n, h, h0 => by
    unfold chkL at h0 ⊢
    by_cases e : (g d n).1 = 0
    · rw [if_pos e] at h0 ⊢
      exact chkL_le g hg r _ (hg d n h e) h0
    · rw [if_neg e] at h0
      exact absurd h0 e

theorem chk_le : ∀ (f : Nat) (d : Dat) (n : Nat), n ≤ 2000 → (chk f d n).1 = 0 → (chk f d n).2 ≤ 2000
  | 0, d, n, _, h0 => by simp [chk] at h0
  | f + 1, d, n, h, h0 => by
    unfold chk at h0 ⊢
    by_cases a : 2000 < n + 1
    · rw [if_pos a] at h0; simp at h0
    · rw [if_neg a] at h0 ⊢
      by_cases b : alone d = 0
      · rw [if_pos b] at h0 ⊢
        by_cases c : d.kind = 4
        · rw [if_pos c] at h0 ⊢
          exact chkL_le _ (chk_le f) _ _ (by omega) h0
        · rw [if_neg c]; simp; omega
      · rw [if_neg b] at h0
        exact absurd h0 b
end
section
set_option linter.unusedVariables false
set_option linter.unusedSimpArgs false
open Go.RowKit

def dotsS : ByteArray := ⟨#[46, 46, 46]⟩
def anyS : ByteArray := ⟨#[95]⟩
def emS : ByteArray := ⟨#[]⟩

def isDots (d : Dat) : Bool := decide (d.kind = 3) && decide (d.name = dotsS)
def headDots : List Dat → Bool
  | [] => false
  | d :: _ => isDots d
/-- Is a text among those? -/
def inB (l : List ByteArray) (s : ByteArray) : Bool := l.any fun x => decide (x = s)
theorem inB_iff {l : List ByteArray} {s : ByteArray} : inB l s = true ↔ s ∈ l := by
  unfold inB
  rw [List.any_eq_true]
  constructor
  · rintro ⟨x, h, e⟩
    simp at e
    exact e ▸ h
  · intro h
    exact ⟨s, h, by simp⟩

def varK (lits : List ByteArray) (k : Int) (nm : ByteArray) : Bool := decide (k = 3) && (!decide (nm = dotsS) && (!decide (nm = anyS) && !inB lits nm))

/-- A variable that stands for so many is put in. -/
def putV (v : ByteArray → Nat) (nm : ByteArray) (s : Nat) : ByteArray → Nat := fun t => if t = nm then s else v t

mutual
def vthing (lits : List ByteArray) : Dat → Nat → (ByteArray → Nat) → Int × (ByteArray → Nat)
  | ⟨k, n, nm, st, lb, ks⟩, s, v =>
    if k = 4 then vlist lits ks true s v
    else if varK lits k nm then (if v nm = 0 then (0, putV v nm s) else (7, v))
    else (0, v)
/-- What is wrong with a list of a pattern that stands for s; its variables. -/
def vlist (lits : List ByteArray) : List Dat → Bool → Nat → (ByteArray → Nat) → Int × (ByteArray → Nat)
  | [], _, _, v => (0, v)
  | d :: r, first, s, v =>
    if isDots d then (if first || !r.isEmpty then (2, v) else (0, v))
    else if headDots r && decide (s = 2) then (2, v)
    else if (vthing lits d (if headDots r then 2 else s) v).1 = 0 then vlist lits r false s (vthing lits d (if headDots r then 2 else s) v).2
    else vthing lits d (if headDots r then 2 else s) v
end

mutual
/-- Does a thing of a template have a variable that stands for many? -/
def manyD (v : ByteArray → Nat) : Dat → Bool
  | ⟨k, n, nm, st, lb, ks⟩ => if k = 3 then decide (v nm = 2) else if k = 4 then manyL v ks else false
def manyL (v : ByteArray → Nat) : List Dat → Bool
  | [] => false
  | d :: r => manyD v d || manyL v r
end

mutual
/-- Is a thing of a template as it must be? -/
def rightD (v : ByteArray → Nat) : Dat → Bool → Bool
  | ⟨k, n, nm, st, lb, ks⟩, wi => if k = 3 then !decide (nm = dotsS) && (wi || !decide (v nm = 2)) else if k = 4 then rightL v ks wi else true
def rightL (v : ByteArray → Nat) : List Dat → Bool → Bool
  | [], _ => true
  | [d], wi => rightD v d wi
  | d :: e :: r, wi => if isDots e then !wi && manyD v d && rightD v d true && rightL v r wi else rightD v d wi && rightL v (e :: r) wi
end

/-- A list of a template: its things, and whether dots stand behind them. -/
def things : List Dat → List (Dat × Bool)
  | [] => []
  | [d] => [(d, false)]
  | d :: e :: r => if isDots e then (d, true) :: things r else (d, false) :: things (e :: r)

/-- The name of a symbol. -/
def symS (k : Int) (nm : ByteArray) : ByteArray := if k = 3 then nm else emS

mutual
/-- For how many each variable stands that stands for many. -/
def cntD (v : ByteArray → Nat) (m : ByteArray → List Dat) : Dat → List Nat
  | ⟨k, n, nm, st, lb, ks⟩ => if v (symS k nm) = 2 then [(m nm).length] else if k = 4 then cntL v m ks else []
def cntL (v : ByteArray → Nat) (m : ByteArray → List Dat) : List Dat → List Nat
  | [] => []
  | d :: r => cntD v m d ++ cntL v m r
end

def alikeB (l : List Nat) : Bool := l.all fun x => x == l.headD 0

mutual
/-- Do all variables ahead of dots stand for like many? -/
def fitsD (v : ByteArray → Nat) (m : ByteArray → List Dat) : Dat → Bool
  | ⟨k, n, nm, st, lb, ks⟩ => if k = 4 then fitsL v m ks else true
def fitsL (v : ByteArray → Nat) (m : ByteArray → List Dat) : List Dat → Bool
  | [] => true
  | [d] => fitsD v m d
  | d :: e :: r => if isDots e then alikeB (cntD v m d) && fitsL v m r else fitsD v m d && fitsL v m (e :: r)
end

/-- One more that a variable meets. -/
def putM (m : ByteArray → List Dat) (nm : ByteArray) (d : Dat) : ByteArray → List Dat := fun t => if t = nm then m t ++ [d] else m t

mutual
/-- Does a datum look as a thing of a pattern does? What the variables meet. -/
def fitD (lits : List ByteArray) : Dat → Dat → (ByteArray → List Dat) → Option (ByteArray → List Dat)
  | ⟨k, n, nm, st, lb, ks⟩, d, m =>
    if k = 3 then (if inB lits nm then (if d.kind = 3 ∧ d.name = nm then some m else none) else if varK lits k nm then some (putM m nm d) else some m)
    else if k = 4 then (if d.kind = 4 then fitL lits ks d.kids m else none)
    else if k = d.kind ∧ n = d.n then some m else none
def fitL (lits : List ByteArray) : List Dat → List Dat → (ByteArray → List Dat) → Option (ByteArray → List Dat)
  | [], l, m => if l.isEmpty then some m else none
  | [p], l, m => match l with
    | [d] => fitD lits p d m
    | _ => none
  | p :: q :: r, l, m => if isDots q then l.foldlM (fun m d => fitD lits p d m) m else match l with
    | [] => none
    | d :: l => (fitD lits p d m).bind (fitL lits (q :: r) l)
end

def zeroD : Dat := ⟨0, 0, emS, 0, 0, []⟩

mutual
/-- What comes of a template, at the ith ones of the many. -/
def fillD (v : ByteArray → Nat) (m : ByteArray → List Dat) (sp lbb : Int) : Dat → Nat → Dat
  | ⟨k, n, nm, st, lb, ks⟩, i =>
    if v (symS k nm) = 1 then (m nm).getD 0 zeroD
    else if v (symS k nm) = 2 then (m nm).getD i zeroD
    else if k = 4 then ⟨4, 0, emS, 0, 0, fillL v m sp lbb ks i⟩
    else if k = 3 then ⟨3, 0, nm, sp, lbb, []⟩
    else ⟨k, n, emS, 0, 0, []⟩
def fillL (v : ByteArray → Nat) (m : ByteArray → List Dat) (sp lbb : Int) : List Dat → Nat → List Dat
  | [], _ => []
  | [d], i => [fillD v m sp lbb d i]
  | d :: e :: r, i => if isDots e then (List.range ((cntD v m d).headD 0)).map (fillD v m sp lbb d) ++ fillL v m sp lbb r i else fillD v m sp lbb d i :: fillL v m sp lbb (e :: r) i
end

mutual
/-- How many nodes, how deep, and what kinds have. -/
def sizeD : Dat → Nat
  | ⟨k, n, nm, st, lb, ks⟩ => if k = 4 then 1 + sizeL ks else 1
def sizeL : List Dat → Nat
  | [] => 0
  | d :: r => sizeD d + sizeL r
end
mutual
def deepD : Dat → Nat
  | ⟨k, n, nm, st, lb, ks⟩ => if k = 4 then 1 + deepL ks else 1
def deepL : List Dat → Nat
  | [] => 0
  | d :: r => max (deepD d) (deepL r)
end
mutual
def bareD : Dat → Dat
  | ⟨k, n, nm, st, lb, ks⟩ => if k = 4 then ⟨4, 0, emS, 0, 0, bareL ks⟩ else if k = 3 then ⟨3, 0, nm, st, lb, []⟩ else if k = 1 ∨ k = 2 then ⟨k, n, emS, 0, 0, []⟩ else ⟨k, 0, emS, 0, 0, []⟩
def bareL : List Dat → List Dat
  | [] => []
  | d :: r => bareD d :: bareL r
end

/-- More than MaxNodes nodes, or nested deeper than MaxDeep. -/
def muchB (d : Dat) : Bool := decide (2000 < sizeD d) || decide (40 < deepD d)

/-- What is wrong with a rule. -/
def wrongRule (lits : List ByteArray) (p t : Dat) : Int :=
  if (wrong [p, t]).1 ≠ 0 then (wrong [p, t]).1
  else if p.kind ≠ 4 then 2
  else match p.kids with
    | [] => 2
    | h :: r => if h.kind ≠ 3 ∨ isDots h then 2 else
      if (vlist lits r true 1 (fun _ => 0)).1 ≠ 0 then (vlist lits r true 1 (fun _ => 0)).1
      else if rightD (vlist lits r true 1 (fun _ => 0)).2 t false then 0 else 2

def litOk (s : ByteArray) : Bool := namedB s && (!decide (s = dotsS) && !decide (s = anyS))

def wrongRules (lits : List ByteArray) : List (Dat × Dat) → Nat → Int × Int
  | [], _ => (0, 0)
  | (p, t) :: r, i => if wrongRule lits p t = 0 then wrongRules lits r (i + 1) else (wrongRule lits p t, i)

/-- WHAT IS WRONG WITH A MACRO. -/
def wrongM (lits : List ByteArray) (rules : List (Dat × Dat)) : Int × Int :=
  if 20 < rules.length ∨ 20 < lits.length then (5, 0) else if lits.all litOk then wrongRules lits rules 0 else (7, 0)

/-- What a rule that fits makes. -/
def grownM (v : ByteArray → Nat) (m : ByteArray → List Dat) (t : Dat) (sp lbb : Int) : Dat × Int :=
  if fitsD v m t then (if muchB (fillD v m sp lbb t 0) then (zeroD, 4) else (bareD (fillD v m sp lbb t 0), 0)) else (zeroD, 8)

def useRules (lits : List ByteArray) (ks : List Dat) (sp lbb : Int) : List (Dat × Dat) → Dat × Int
  | [] => (zeroD, 6)
  | (p, t) :: r => ((fitL lits p.kids.tail ks (fun _ => [])).map fun m => grownM (vlist lits p.kids.tail true 1 (fun _ => 0)).2 m t sp lbb).getD (useRules lits ks sp lbb r)

/-- WHAT A MACRO MAKES of a form. -/
def useM (lits : List ByteArray) (rules : List (Dat × Dat)) (form : Dat) (sp lbb : Int) : Dat × Int :=
  if (wrongM lits rules).1 ≠ 0 then (zeroD, (wrongM lits rules).1)
  else if muchB form then (zeroD, 4)
  else if form.kind ≠ 4 then (zeroD, 2)
  else match form.kids with
    | [] => (zeroD, 2)
    | _ :: ks => useRules lits ks sp lbb rules
end
section
set_option linter.unusedVariables false
set_option linter.unusedSimpArgs false
open Go.RowKit

mutual
/-- Dots stand only as the last one of a list, behind another one. -/
def okD : Dat → Bool
  | ⟨k, n, nm, st, lb, ks⟩ => if k = 4 then okL ks true else true
def okL : List Dat → Bool → Bool
  | [], _ => true
  | d :: r, first => if isDots d then !first && r.isEmpty else okD d && okL r false
end

mutual
theorem vthing_ok (lits : List ByteArray) : ∀ (d : Dat) (s : Nat) (v : ByteArray → Nat), (vthing lits d s v).1 = 0 → okD d = true
  | ⟨k, n, nm, st, lb, ks⟩, s, v, h => by
    unfold vthing at h
    unfold okD
    by_cases hk : k = 4
    · rw [if_pos hk] at h ⊢
      exact vlist_ok lits ks true s v h
    · rw [if_neg hk]
theorem vlist_ok (lits : List ByteArray) : ∀ (l : List Dat) (first : Bool) (s : Nat) (v : ByteArray → Nat), (vlist lits l first s v).1 = 0 → okL l first = true
  | [], _, _, _, _ => by unfold okL; rfl
  | d :: r, first, s, v, h => by
    unfold vlist at h
    unfold okL
    by_cases hd : isDots d = true
    · rw [if_pos hd] at h ⊢
      cases first <;> cases hr : r.isEmpty <;> simp [hr] at h ⊢
    · rw [if_neg hd] at h ⊢
      generalize (if headDots r = true then 2 else s) = s2 at h
      split at h
      · simp at h
      · split at h
        · rename_i h1
          rw [vthing_ok lits d _ v h1, vlist_ok lits r false s _ h]; rfl
        · rename_i h1
          exact absurd h h1
end

/-- What a variable stands for, once it does, stays. -/
def Grows (s : Nat) (v v' : ByteArray → Nat) : Prop := ∀ t, v' t = v t ∨ (v t = 0 ∧ (v' t = s ∨ v' t = 2) ∧ v' t ≠ 0)
theorem Grows.refl (s : Nat) (v : ByteArray → Nat) : Grows s v v := fun t => .inl rfl
theorem Grows.trans {s : Nat} {a b c : ByteArray → Nat} (h : Grows s a b) (k : Grows s b c) : Grows s a c := fun t => by
  rcases h t with h | ⟨h0, h1, h2⟩
  · rcases k t with k | ⟨k0, k1, k2⟩
    · exact .inl (k.trans h)
    · exact .inr ⟨h ▸ k0, k1, k2⟩
  · rcases k t with k | ⟨k0, k1, k2⟩
    · exact .inr ⟨h0, k ▸ h1, k ▸ h2⟩
    · exact absurd k0 h2
theorem Grows.two {s : Nat} {a b : ByteArray → Nat} (h : Grows 2 a b) : Grows s a b := fun t => by
  rcases h t with h | ⟨h0, h1, h2⟩
  · exact .inl h
  · exact .inr ⟨h0, .inr (by rcases h1 with h | h <;> exact h), h2⟩

mutual
theorem vthing_grows (lits : List ByteArray) : ∀ (d : Dat) (s : Nat) (v : ByteArray → Nat), s ≠ 0 → Grows s v (vthing lits d s v).2
  | ⟨k, n, nm, st, lb, ks⟩, s, v, hs => by
    unfold vthing
    by_cases hk : k = 4
    · rw [if_pos hk]
      exact vlist_grows lits ks true s v hs
    · rw [if_neg hk]
      split
      · split
        · rename_i h0
          intro t
          show putV v nm s t = v t ∨ _
          unfold putV
          by_cases e : t = nm
          · rw [if_pos e]
            exact .inr ⟨e ▸ h0, .inl (by simp [putV, e]), by simp [putV, e]; exact hs⟩
          · rw [if_neg e]
            exact .inl rfl
        · exact Grows.refl _ _
      · exact Grows.refl _ _
theorem vlist_grows (lits : List ByteArray) : ∀ (l : List Dat) (first : Bool) (s : Nat) (v : ByteArray → Nat), s ≠ 0 → Grows s v (vlist lits l first s v).2
  | [], _, _, _, _ => by unfold vlist; exact Grows.refl _ _
  | d :: r, first, s, v, hs => by
    unfold vlist
    have hg : Grows s v (vthing lits d (if headDots r then 2 else s) v).2 := by
      cases headDots r
      · exact vthing_grows lits d s v hs
      · exact (vthing_grows lits d 2 v (by decide)).two
    generalize (if headDots r = true then 2 else s) = s2 at hg ⊢
    split
    · split
      · exact Grows.refl _ _
      · exact Grows.refl _ _
    · split
      · exact Grows.refl _ _
      · split
        · exact hg.trans (vlist_grows lits r false s _ hs)
        · exact hg
end

/-- What is met where a pattern fits. -/
def Meets (v v' : ByteArray → Nat) (m m' : ByteArray → List Dat) : Prop := ∀ t, (v' t = v t → m' t = m t) ∧ (v' t ≠ v t → v' t = 1 → (m' t).length = (m t).length + 1)
theorem Meets.trans {s : Nat} {v1 v2 v3 : ByteArray → Nat} {a b c : ByteArray → List Dat} (g1 : Grows s v1 v2) (g2 : Grows s v2 v3) (h : Meets v1 v2 a b) (k : Meets v2 v3 b c) : Meets v1 v3 a c := fun t => by
  have h := h t
  have k := k t
  constructor
  · intro e
    have e2 : v2 t = v1 t := by
      rcases g1 t with q | ⟨q0, q1, q2⟩
      · exact q
      · rcases g2 t with p | ⟨p0, p1, p2⟩
        · exact absurd (by rw [← p, e]; exact q0) q2
        · exact absurd p0 q2
    rw [k.1 (by rw [e, e2]), h.1 e2]
  · intro e e1
    by_cases e2 : v2 t = v1 t
    · have := k.2 (by rw [e2]; exact e) e1
      rw [h.1 e2] at this
      exact this
    · have e3 : v3 t = v2 t := by
        rcases g2 t with p | ⟨p0, p1, p2⟩
        · exact p
        · rcases g1 t with q | ⟨q0, q1, q2⟩
          · exact absurd q e2
          · exact absurd p0 q2
      rw [k.1 e3]
      exact h.2 e2 (e3 ▸ e1)
/-- Many times the same. -/
theorem Meets.fold {v v' : ByteArray → Nat} (g : Grows 2 v v') (f : (ByteArray → List Dat) → Dat → Option (ByteArray → List Dat)) (hf : ∀ m d m', f m d = some m' → Meets v v' m m') : ∀ (l : List Dat) (m m' : ByteArray → List Dat), l.foldlM f m = some m' → Meets v v' m m'
  | [], m, m', h => by
    have e : m = m' := by simpa using h
    subst e
    intro t
    refine ⟨fun _ => rfl, fun h1 h2 => ?_⟩
    rcases g t with q | ⟨q0, q1, q2⟩
    · exact absurd q h1
    · omega
  | d :: l, m, m', h => by
    rw [List.foldlM_cons] at h
    cases e : f m d with
    | none => rw [e] at h; simp at h
    | some m1 =>
      rw [e] at h
      have h1 := hf m d m1 e
      have h2 := Meets.fold g f hf l m1 m' h
      intro t
      refine ⟨fun q => ((h2 t).1 q).trans ((h1 t).1 q), fun q1 q2 => ?_⟩
      rcases g t with q | ⟨q0, q1, q2⟩
      · exact absurd q q1
      · omega

mutual
theorem fitD_meets (lits : List ByteArray) : ∀ (p : Dat) (s : Nat) (v : ByteArray → Nat), s ≠ 0 → (vthing lits p s v).1 = 0 → ∀ (d : Dat) (m m' : ByteArray → List Dat), fitD lits p d m = some m' → Meets v (vthing lits p s v).2 m m'
  | ⟨k, n, nm, st, lb, ks⟩, s, v, hs, h0, d, m, m', h => by
    have same : ∀ (x : ByteArray → List Dat), some x = some m' → Meets v v x m' := fun x e => by
      cases e
      exact fun t => ⟨fun _ => rfl, fun q => absurd rfl q⟩
    unfold fitD at h
    unfold vthing at h0 ⊢
    by_cases hk3 : k = 3
    · have hk4 : k ≠ 4 := by omega
      rw [if_neg hk4] at h0 ⊢
      rw [if_pos hk3] at h
      by_cases hl : inB lits nm = true
      · have hv : varK lits k nm = false := by unfold varK; rw [hl]; simp
        rw [if_pos hl] at h
        rw [if_neg (by rw [hv]; simp)] at h0 ⊢
        split at h
        · exact same m h
        · cases h
      · rw [if_neg hl] at h
        by_cases hv : varK lits k nm = true
        · rw [if_pos hv] at h h0 ⊢
          by_cases hz : v nm = 0
          · rw [if_pos hz] at h0 ⊢
            cases h
            intro t
            show (putV v nm s t = v t → putM m nm d t = m t) ∧ _
            unfold putV putM
            by_cases e : t = nm
            · simp only [if_pos e]
              refine ⟨fun q => ?_, fun _ _ => by simp⟩
              rw [e, hz] at q
              exact absurd q hs
            · simp [if_neg e]
          · rw [if_neg hz] at h0
            simp at h0
        · rw [if_neg hv] at h h0 ⊢
          exact same m h
    · rw [if_neg hk3] at h
      by_cases hk4 : k = 4
      · rw [if_pos hk4] at h h0 ⊢
        split at h
        · exact fitL_meets lits ks true s v hs h0 d.kids m m' h
        · cases h
      · rw [if_neg hk4] at h h0 ⊢
        have hv : varK lits k nm = false := by unfold varK; simp [hk3]
        rw [if_neg (by rw [hv]; simp)] at h0 ⊢
        split at h
        · exact same m h
        · cases h
theorem fitL_meets (lits : List ByteArray) : ∀ (l : List Dat) (first : Bool) (s : Nat) (v : ByteArray → Nat), s ≠ 0 → (vlist lits l first s v).1 = 0 → ∀ (ds : List Dat) (m m' : ByteArray → List Dat), fitL lits l ds m = some m' → Meets v (vlist lits l first s v).2 m m'
  | [], first, s, v, hs, h0, ds, m, m', h => by
    unfold fitL at h
    unfold vlist
    split at h
    · cases h
      exact fun t => ⟨fun _ => rfl, fun q => absurd rfl q⟩
    · cases h
  | [p], first, s, v, hs, h0, ds, m, m', h => by
    have hz := vlist_ok lits [p] first s v h0
    unfold okL at hz
    unfold fitL at h
    unfold vlist at h0 ⊢
    split at h
    · rename_i d
      by_cases hd : isDots p = true
      · rw [if_pos hd] at h0 hz ⊢
        simp at hz
        subst hz
        show Meets v v m m'
        have e := h
        unfold isDots at hd
        simp at hd
        obtain ⟨pk, pn, pnm, pst, plb, pks⟩ := p
        unfold fitD at e
        simp at hd
        obtain ⟨rfl, rfl⟩ := hd
        have hv : varK lits 3 dotsS = false := by unfold varK; simp
        rw [if_pos rfl, hv] at e
        have same : ∀ (x : ByteArray → List Dat), some x = some m' → Meets v v x m' := fun x e => by
          cases e
          exact fun t => ⟨fun _ => rfl, fun q => absurd rfl q⟩
        split at e
        · split at e
          · exact same _ e
          · cases e
        · exact same _ e
      · rw [if_neg hd] at h0 ⊢
        simp only [headDots, Bool.false_and, Bool.false_eq_true, if_false] at h0 ⊢
        split at h0
        · rename_i h1
          rw [if_pos h1]
          unfold vlist
          exact fitD_meets lits p s v hs h1 d m m' h
        · rename_i h1
          exact absurd h0 h1
    · cases h
  | p :: q :: r, first, s, v, hs, h0, ds, m, m', h => by
    unfold fitL at h
    unfold vlist at h0 ⊢
    by_cases hd : isDots p = true
    · rw [if_pos hd] at h0
      simp at h0
    · rw [if_neg hd] at h0 ⊢
      by_cases hq : isDots q = true
      · have hh : headDots (q :: r) = true := hq
        rw [hh] at h0 ⊢
        rw [if_pos hq] at h
        simp only [Bool.true_and, if_true] at h0 ⊢
        split at h0
        · simp at h0
        · rename_i h2
          rw [if_neg h2]
          split at h0
          · rename_i h1
            rw [if_pos h1]
            have hz := vlist_ok lits (q :: r) false s _ h0
            unfold okL at hz
            rw [if_pos hq] at hz
            have e : (vlist lits (q :: r) false s (vthing lits p 2 v).2).2 = (vthing lits p 2 v).2 := by
              unfold vlist
              rw [if_pos hq]
              split <;> rfl
            rw [e]
            exact Meets.fold (vthing_grows lits p 2 v (by decide)) _ (fun m d m' hm => fitD_meets lits p 2 v (by decide) h1 d m m' hm) ds m m' h
          · rename_i h1
            exact absurd h0 h1
      · have hh : headDots (q :: r) = false := by unfold headDots; simpa using hq
        rw [hh] at h0 ⊢
        rw [if_neg hq] at h
        simp only [Bool.false_and, Bool.false_eq_true, if_false] at h0 ⊢
        split at h0
        · rename_i h1
          rw [if_pos h1]
          split at h
          · cases h
          · rename_i d l
            cases e : fitD lits p d m with
            | none => rw [e] at h; cases h
            | some m1 =>
              rw [e] at h
              exact Meets.trans (vthing_grows lits p s v hs) (vlist_grows lits (q :: r) false s _ hs) (fitD_meets lits p s v hs h1 d m m1 e) (fitL_meets lits (q :: r) false s _ hs h0 l m1 m' h)
        · rename_i h1
          exact absurd h0 h1
end
end
section
set_option linter.unusedVariables false
set_option linter.unusedSimpArgs false
open Go.RowKit

/-- Things that fit, one by one. -/
def fitA (lits : List ByteArray) : List Dat → List Dat → (ByteArray → List Dat) → Option (ByteArray → List Dat)
  | [], _, m => some m
  | _ :: _, [], _ => none
  | p :: ps, d :: l, m => (fitD lits p d m).bind (fitA lits ps l)

theorem fitL_plain (lits : List ByteArray) : ∀ (pat : List Dat), (∀ d ∈ pat, isDots d = false) → ∀ (l : List Dat) (m : ByteArray → List Dat), fitL lits pat l m = if l.length = pat.length then fitA lits pat l m else none
  | [], _, l, m => by
    unfold fitL
    cases l <;> simp [fitA]
  | [p], _, l, m => by
    unfold fitL
    cases l with
    | nil => simp
    | cons d l => cases l with
      | nil =>
        simp [fitA]
      | cons e l => simp
  | p :: q :: r, h, l, m => by
    unfold fitL
    rw [if_neg (by rw [h q (by simp)]; simp)]
    cases l with
    | nil => simp
    | cons d l =>
      simp only [List.length_cons, Nat.add_right_cancel_iff, fitA]
      have ih := fitL_plain lits (q :: r) (fun d hd => h d (List.mem_cons_of_mem _ hd)) l
      have e : fitL lits (q :: r) l = fun m => if l.length = (q :: r).length then fitA lits (q :: r) l m else none := funext ih
      rw [e]
      by_cases hl : l.length = r.length + 1
      · simp [hl]
      · simp [hl]

theorem fitL_dots (lits : List ByteArray) (p q : Dat) (hp : isDots p = false) (hq : isDots q = true) : ∀ (ahead : List Dat), (∀ d ∈ ahead, isDots d = false) → ∀ (l : List Dat) (m : ByteArray → List Dat),
    fitL lits (ahead ++ [p, q]) l m = if l.length < ahead.length then none else (fitA lits ahead l m).bind fun m => (l.drop ahead.length).foldlM (fun m d => fitD lits p d m) m
  | [], _, l, m => by
    simp only [List.nil_append]
    unfold fitL
    rw [if_pos hq]
    simp [fitA]
  | a :: r, h, l, m => by
    obtain ⟨b, r', hb⟩ : ∃ b r', r ++ [p, q] = b :: r' := by cases r with
      | nil => exact ⟨p, [q], rfl⟩
      | cons x y => exact ⟨x, y ++ [p, q], rfl⟩
    have hb0 : isDots b = false := by
      cases r with
      | nil =>
        simp at hb
        rw [← hb.1]
        exact hp
      | cons x y =>
        simp at hb
        rw [← hb.1]
        exact h x (by simp)
    have ih := fun l => fitL_dots lits p q hp hq r (fun d hd => h d (List.mem_cons_of_mem _ hd)) l
    rw [List.cons_append, hb]
    unfold fitL
    rw [if_neg (by rw [hb0]; simp), ← hb]
    cases l with
    | nil => simp
    | cons d l =>
      have e : fitL lits (r ++ [p, q]) l = _ := funext (ih l)
      simp only [List.length_cons, Nat.add_lt_add_iff_right, fitA, List.drop_succ_cons]
      rw [e]
      by_cases hl : l.length < r.length
      · simp [hl]
      · simp [hl]
        rw [Option.bind_assoc]

theorem okL_tail : ∀ (l : List Dat) (first : Bool), okL l first = true → ∀ d ∈ l.dropLast, isDots d = false
  | [], _, _, d, hd => by simp at hd
  | [x], _, _, d, hd => by simp at hd
  | x :: y :: r, first, h, d, hd => by
    unfold okL at h
    rw [List.dropLast_cons_cons] at hd
    by_cases hx : isDots x = true
    · rw [if_pos hx] at h
      simp at h
    · rw [if_neg hx, Bool.and_eq_true] at h
      rcases List.mem_cons.1 hd with rfl | hd
      · simpa using hx
      · exact okL_tail (y :: r) false h.2 d hd
theorem okL_first : ∀ (l : List Dat), okL l true = true → l.length = 1 → ∀ d ∈ l, isDots d = false
  | [x], h, _, d, hd => by
    unfold okL at h
    rw [List.mem_singleton] at hd
    subst hd
    by_cases hx : isDots d = true
    · rw [if_pos hx] at h
      simp at h
    · simpa using hx
theorem okL_kid : ∀ (l : List Dat) (first : Bool), okL l first = true → ∀ d ∈ l, isDots d = false → okD d = true
  | x :: r, first, h, d, hd, hn => by
    unfold okL at h
    by_cases hx : isDots x = true
    · rw [if_pos hx] at h
      simp at h
      rcases List.mem_cons.1 hd with rfl | hd
      · rw [hx] at hn; cases hn
      · rw [h.2] at hd; cases hd
    · rw [if_neg hx, Bool.and_eq_true] at h
      rcases List.mem_cons.1 hd with rfl | hd
      · exact h.1
      · exact okL_kid r false h.2 d hd hn

theorem rightL_things (v : ByteArray → Nat) (wi : Bool) : ∀ (l : List Dat), rightL v l wi = (things l).all fun x => if x.2 then !wi && manyD v x.1 && rightD v x.1 true else rightD v x.1 wi
  | [] => by unfold rightL things; rfl
  | [d] => by unfold rightL things; simp
  | d :: e :: r => by
    unfold rightL things
    by_cases h : isDots e = true
    · rw [if_pos h, if_pos h, rightL_things v wi r]
      simp
    · rw [if_neg h, if_neg h, rightL_things v wi (e :: r)]
      simp
theorem fitsL_things (v : ByteArray → Nat) (m : ByteArray → List Dat) : ∀ (l : List Dat), fitsL v m l = (things l).all fun x => if x.2 then alikeB (cntD v m x.1) else fitsD v m x.1
  | [] => by unfold fitsL things; rfl
  | [d] => by unfold fitsL things; simp
  | d :: e :: r => by
    unfold fitsL things
    by_cases h : isDots e = true
    · rw [if_pos h, if_pos h, fitsL_things v m r]
      simp
    · rw [if_neg h, if_neg h, fitsL_things v m (e :: r)]
      simp
/-- What comes of one thing of a list. -/
def fillT (v : ByteArray → Nat) (m : ByteArray → List Dat) (sp lbb : Int) (i : Nat) (x : Dat × Bool) : List Dat :=
  if x.2 then (List.range ((cntD v m x.1).headD 0)).map (fillD v m sp lbb x.1) else [fillD v m sp lbb x.1 i]
theorem fillL_things (v : ByteArray → Nat) (m : ByteArray → List Dat) (sp lbb : Int) (i : Nat) : ∀ (l : List Dat), fillL v m sp lbb l i = (things l).flatMap (fillT v m sp lbb i)
  | [] => by unfold fillL things; rfl
  | [d] => by unfold fillL things; simp [fillT]
  | d :: e :: r => by
    unfold fillL things
    by_cases h : isDots e = true
    · rw [if_pos h, if_pos h, fillL_things v m sp lbb i r]
      simp [fillT]
    · rw [if_neg h, if_neg h, fillL_things v m sp lbb i (e :: r)]
      simp [fillT]
theorem things_mem : ∀ (l : List Dat) (x : Dat × Bool), x ∈ things l → x.1 ∈ l
  | [], x, h => by unfold things at h; cases h
  | [d], x, h => by
    unfold things at h
    simp at h
    subst h
    simp
  | d :: e :: r, x, h => by
    unfold things at h
    by_cases hd : isDots e = true
    · rw [if_pos hd] at h
      rcases List.mem_cons.1 h with rfl | h
      · simp
      · exact List.mem_cons_of_mem _ (List.mem_cons_of_mem _ (things_mem r x h))
    · rw [if_neg hd] at h
      rcases List.mem_cons.1 h with rfl | h
      · simp
      · exact List.mem_cons_of_mem _ (things_mem (e :: r) x h)

theorem cntL_mem (v : ByteArray → Nat) (m : ByteArray → List Dat) : ∀ (l : List Dat) (d : Dat) (c : Nat), d ∈ l → c ∈ cntD v m d → c ∈ cntL v m l
  | x :: r, d, c, hd, hc => by
    unfold cntL
    rcases List.mem_cons.1 hd with rfl | hd
    · exact List.mem_append_left _ hc
    · exact List.mem_append_right _ (cntL_mem v m r d c hd hc)
mutual
theorem cntD_some (v : ByteArray → Nat) (m : ByteArray → List Dat) : ∀ (d : Dat), manyD v d = true → cntD v m d ≠ []
  | ⟨k, n, nm, st, lb, ks⟩, h => by
    unfold manyD at h
    unfold cntD
    by_cases h3 : k = 3
    · rw [if_pos h3] at h
      simp at h
      have e : symS k nm = nm := by unfold symS; rw [if_pos h3]
      rw [e, if_pos h]
      simp
    · rw [if_neg h3] at h
      by_cases h4 : k = 4
      · rw [if_pos h4] at h ⊢
        split
        · simp
        · exact cntL_some v m ks h
      · rw [if_neg h4] at h
        cases h
theorem cntL_some (v : ByteArray → Nat) (m : ByteArray → List Dat) : ∀ (l : List Dat), manyL v l = true → cntL v m l ≠ []
  | [], h => by unfold manyL at h; cases h
  | d :: r, h => by
    unfold manyL at h
    unfold cntL
    rw [Bool.or_eq_true] at h
    rcases h with h | h
    · have := cntD_some v m d h
      simp [this]
    · have := cntL_some v m r h
      simp [this]
end

theorem alikeB_iff {l : List Nat} : alikeB l = true ↔ ∀ x ∈ l, x = l.headD 0 := by
  unfold alikeB
  rw [List.all_eq_true]
  simp

mutual
/-- No symbol has an empty name. -/
def hasNames : Dat → Bool
  | ⟨k, n, nm, st, lb, ks⟩ => if k = 3 then !decide (nm = emS) else if k = 4 then hasNamesL ks else true
def hasNamesL : List Dat → Bool
  | [] => true
  | d :: r => hasNames d && hasNamesL r
end
theorem hasNamesL_mem : ∀ (l : List Dat), hasNamesL l = true → ∀ d ∈ l, hasNames d = true
  | x :: r, h, d, hd => by
    unfold hasNamesL at h
    rw [Bool.and_eq_true] at h
    rcases List.mem_cons.1 hd with rfl | hd
    · exact h.1
    · exact hasNamesL_mem r h.2 d hd
theorem hasNamesL_of : ∀ (l : List Dat), (∀ d ∈ l, hasNames d = true) → hasNamesL l = true
  | [], _ => by unfold hasNamesL; rfl
  | x :: r, h => by
    unfold hasNamesL
    rw [h x (by simp), hasNamesL_of r fun d hd => h d (List.mem_cons_of_mem _ hd)]
    rfl

theorem chkL_all (g : Dat → Nat → Int × Nat) (Q : Dat → Prop) (hg : ∀ d n, (g d n).1 = 0 → Q d) : ∀ (l : List Dat) (n : Nat), (chkL g l n).1 = 0 → ∀ d ∈ l, Q d
  | x :: r, n, h, d, hd => by
    unfold chkL at h
    by_cases e : (g x n).1 = 0
    · rw [if_pos e] at h
      rcases List.mem_cons.1 hd with rfl | hd
      · exact hg d n e
      · exact chkL_all g Q hg r _ h d hd
    · rw [if_neg e] at h
      exact absurd h e
theorem chk_names : ∀ (f : Nat) (d : Dat) (n : Nat), (chk f d n).1 = 0 → hasNames d = true
  | 0, d, n, h => by simp [chk] at h
  | f + 1, d, n, h => by
    unfold chk at h
    split at h
    · simp at h
    · by_cases a0 : alone d = 0
      · rw [if_pos a0] at h
        obtain ⟨k, n', nm, st, lb, ks⟩ := d
        unfold hasNames
        by_cases h3 : k = 3
        · rw [if_pos h3]
          unfold alone at a0
          simp only [h3] at a0
          rw [if_neg (by decide), if_neg (by decide), if_pos trivial] at a0
          have hn : namedB nm = true := by
            cases hb : namedB nm with
            | true => rfl
            | false => rw [hb] at a0; simp at a0
          have : 0 < nm.size := by
            unfold namedB at hn
            simp at hn
            exact hn.1.1.1
          simp
          intro e
          rw [e] at this
          exact absurd this (by decide)
        · rw [if_neg h3]
          by_cases h4 : k = 4
          · rw [if_pos h4]
            simp only at h
            rw [if_pos h4] at h
            exact hasNamesL_of _ (chkL_all (chk f) _ (fun d n => chk_names f d n) _ _ h)
          · rw [if_neg h4]
      · rw [if_neg a0] at h
        exact absurd h a0
theorem wrongFrom_names : ∀ (l : List Dat) (i n : Nat), (wrongFrom l i n).1 = 0 → ∀ d ∈ l, hasNames d = true
  | x :: r, i, n, h, d, hd => by
    unfold wrongFrom at h
    by_cases e : (chk 40 x n).1 = 0
    · rw [if_pos e] at h
      rcases List.mem_cons.1 hd with rfl | hd
      · exact chk_names 40 d n e
      · exact wrongFrom_names r _ _ h d hd
    · rw [if_neg e] at h
      exact absurd h e

mutual
theorem vthing_em (lits : List ByteArray) : ∀ (d : Dat) (s : Nat) (v : ByteArray → Nat), hasNames d = true → (vthing lits d s v).2 emS = v emS
  | ⟨k, n, nm, st, lb, ks⟩, s, v, h => by
    unfold vthing
    unfold hasNames at h
    by_cases h4 : k = 4
    · rw [if_pos h4]
      rw [if_neg (by omega), if_pos h4] at h
      exact vlist_em lits ks true s v h
    · rw [if_neg h4]
      split
      · rename_i hv
        split
        · have h3 : k = 3 := by unfold varK at hv; simp at hv; exact hv.1
          rw [if_pos h3] at h
          simp at h
          show putV v nm s emS = _
          unfold putV
          rw [if_neg (fun e => h e.symm)]
        · rfl
      · rfl
theorem vlist_em (lits : List ByteArray) : ∀ (l : List Dat) (first : Bool) (s : Nat) (v : ByteArray → Nat), hasNamesL l = true → (vlist lits l first s v).2 emS = v emS
  | [], _, _, _, _ => by unfold vlist; rfl
  | d :: r, first, s, v, h => by
    unfold hasNamesL at h
    rw [Bool.and_eq_true] at h
    unfold vlist
    generalize (if headDots r = true then 2 else s) = s2
    have e := vthing_em lits d s2 v h.1
    split
    · split <;> rfl
    · split
      · rfl
      · split
        · rw [vlist_em lits r false s _ h.2]
          exact e
        · exact e
end
end
end Go.Proofs.YtgeedaabdonjcaeGreatDoor
