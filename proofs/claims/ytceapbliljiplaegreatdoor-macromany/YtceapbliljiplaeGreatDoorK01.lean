/- The plain mathematics of chapter 1's data: what is a letter, a name, what is wrong with data, how they are written. The plain mathematics of chapter 5's rule set: patterns, templates, what fits, what comes of it. -/
import Derived.Test.YtceapbliljiplaeGreatDoorProg
import Derived.WalkKit
namespace Go.Proofs.YtceapbliljiplaeGreatDoor
section
set_option linter.unusedVariables false
set_option linter.unusedSimpArgs false
open Go.RowKit

/-- A datum. -/
structure Dat where
  kind : Int
  n : Int
  name : ByteArray
  stamp : Int
  lib : Int
  kids : List Dat

def digB (c : Int) : Bool := decide (48 ≤ c) && decide (c ≤ 57)

def letTab : List Int := [97, 98, 99, 100, 101, 102, 103, 104, 105, 106, 107, 108, 109, 110, 111, 112, 113, 114, 115, 116, 117, 118, 119, 120, 121, 122, 48, 49, 50, 51, 52, 53, 54, 55, 56, 57, 33, 63, 42, 43, 45, 47, 60, 61, 62, 95, 46]

def letB (c : Int) : Bool := letTab.any fun x => x == c

/-- The digits behind a sign. -/
def unsign (l : List UInt8) : List UInt8 := if l.head? = some 45 then l.tail else l

def allDig (l : List UInt8) : Bool := l.all fun c => digB (c.toNat : Int)
def allLet (l : List UInt8) : Bool := l.all fun c => letB (c.toNat : Int)

def looksB (l : List UInt8) : Bool := allDig (unsign l) && !(unsign l).isEmpty

def namedB (s : ByteArray) : Bool := decide (0 < s.size) && decide (s.size ≤ 20) && allLet s.data.toList && !looksB s.data.toList

def rangeB (n : Int) : Bool := decide (-1000000000000000 ≤ n) && decide (n ≤ 1000000000000000)

/-- What is wrong with a node, whatever its kids are. -/
def alone (d : Dat) : Int :=
  if d.kind = 1 then (if rangeB d.n then 0 else 3)
  else if d.kind = 2 then (if d.n = 0 ∨ d.n = 1 then 0 else 3)
  else if d.kind = 3 then (if namedB d.name then (if d.stamp = 0 ∧ d.lib = 0 then 0 else 8) else 7)
  else if d.kind = 4 then 0 else 1

def chkL (g : Dat → Nat → Int × Nat) : List Dat → Nat → Int × Nat
  | [], n => (0, n)
  | d :: r, n => if (g d n).1 = 0 then chkL g r (g d n).2 else g d n

/-- What is wrong with a datum, so deep that f levels are left, behind n nodes; and how many there are then. -/
def chk : Nat → Dat → Nat → Int × Nat
  | 0, _, n => (4, n + 1)
  | f + 1, d, n => if 2000 < n + 1 then (4, n + 1) else if alone d = 0 then (if d.kind = 4 then chkL (chk f) d.kids (n + 1) else (0, n + 1)) else (alone d, n + 1)

def wrongFrom : List Dat → Nat → Nat → Int × Int
  | [], _, _ => (0, 0)
  | d :: r, i, n => if (chk 40 d n).1 = 0 then wrongFrom r (i + 1) (chk 40 d n).2 else ((chk 40 d n).1, i)

def wrong (l : List Dat) : Int × Int := wrongFrom l 0 0

theorem chkL_le (g : Dat → Nat → Int × Nat) (hg : ∀ d n, n ≤ 2000 → (g d n).1 = 0 → (g d n).2 ≤ 2000) : ∀ (l : List Dat) (n : Nat), n ≤ 2000 → (chkL g l n).1 = 0 → (chkL g l n).2 ≤ 2000
  | [], n, h, _ => h
  | d :: r, n, h, h0 => by
    unfold chkL at h0 ⊢
    by_cases e : (g d n).1 = 0
    · rw [if_pos e] at h0 ⊢
      exact chkL_le g hg r _ (hg d n h e) h0
    · rw [if_neg e] at h0
      exact absurd h0 e

theorem chk_le : ∀ (f : Nat) (d : Dat) (n : Nat), n ≤ 2000 → (chk f d n).1 = 0 → (chk f d n).2 ≤ 2000
  | 0, d, n, _, h0 => by simp [chk] at h0
  | f + 1, d, n, h, h0 => by
    unfold chk at h0 ⊢
    by_cases a : 2000 < n + 1
    · rw [if_pos a] at h0; simp at h0
    · rw [if_neg a] at h0 ⊢
      by_cases b : alone d = 0
      · rw [if_pos b] at h0 ⊢
        by_cases c : d.kind = 4
        · rw [if_pos c] at h0 ⊢
          exact chkL_le _ (chk_le f) _ _ (by omega) h0
        · rw [if_neg c]; simp; omega
      · rw [if_neg b] at h0
        exact absurd h0 b
end
section
set_option linter.unusedVariables false
set_option linter.unusedSimpArgs false
open Go.RowKit

def dotsS : ByteArray := ⟨#[46, 46, 46]⟩
def anyS : ByteArray := ⟨#[95]⟩
def emS : ByteArray := ⟨#[]⟩

def isDots (d : Dat) : Bool := decide (d.kind = 3) && decide (d.name = dotsS)
def headDots : List Dat → Bool
  | [] => false
  | d :: _ => isDots d
/-- Is a text among those? -/
def inB (l : List ByteArray) (s : ByteArray) : Bool := l.any fun x => decide (x = s)
theorem inB_iff {l : List ByteArray} {s : ByteArray} : inB l s = true ↔ s ∈ l := by
  unfold inB
  rw [List.any_eq_true]
  constructor
  · rintro ⟨x, h, e⟩
    simp at e
    exact e ▸ h
  · intro h
    exact ⟨s, h, by simp⟩

def varK (lits : List ByteArray) (k : Int) (nm : ByteArray) : Bool := decide (k = 3) && (!decide (nm = dotsS) && (!decide (nm = anyS) && !inB lits nm))

/-- A variable that stands for so many is put in. -/
def putV (v : ByteArray → Nat) (nm : ByteArray) (s : Nat) : ByteArray → Nat := fun t => if t = nm then s else v t

mutual
def vthing (lits : List ByteArray) : Dat → Nat → (ByteArray → Nat) → Int × (ByteArray → Nat)
  | ⟨k, n, nm, st, lb, ks⟩, s, v =>
    if k = 4 then vlist lits ks true s v
    else if varK lits k nm then (if v nm = 0 then (0, putV v nm s) else (7, v))
    else (0, v)
/-- What is wrong with a list of a pattern that stands for s; its variables. -/
def vlist (lits : List ByteArray) : List Dat → Bool → Nat → (ByteArray → Nat) → Int × (ByteArray → Nat)
  | [], _, _, v => (0, v)
  | d :: r, first, s, v =>
    if isDots d then (if first || !r.isEmpty then (2, v) else (0, v))
    else if headDots r && decide (s = 2) then (2, v)
    else if (vthing lits d (if headDots r then 2 else s) v).1 = 0 then vlist lits r false s (vthing lits d (if headDots r then 2 else s) v).2
    else vthing lits d (if headDots r then 2 else s) v
end

mutual
/-- Does a thing of a template have a variable that stands for many? -/
def manyD (v : ByteArray → Nat) : Dat → Bool
  | ⟨k, n, nm, st, lb, ks⟩ => if k = 3 then decide (v nm = 2) else if k = 4 then manyL v ks else false
def manyL (v : ByteArray → Nat) : List Dat → Bool
  | [] => false
  | d :: r => manyD v d || manyL v r
end

mutual
/-- Is a thing of a template as it must be? -/
def rightD (v : ByteArray → Nat) : Dat → Bool → Bool
  | ⟨k, n, nm, st, lb, ks⟩, wi => if k = 3 then !decide (nm = dotsS) && (wi || !decide (v nm = 2)) else if k = 4 then rightL v ks wi else true
def rightL (v : ByteArray → Nat) : List Dat → Bool → Bool
  | [], _ => true
  | [d], wi => rightD v d wi
  | d :: e :: r, wi => if isDots e then !wi && manyD v d && rightD v d true && rightL v r wi else rightD v d wi && rightL v (e :: r) wi
end

/-- A list of a template: its things, and whether dots stand behind them. -/
def things : List Dat → List (Dat × Bool)
  | [] => []
  | [d] => [(d, false)]
  | d :: e :: r => if isDots e then (d, true) :: things r else (d, false) :: things (e :: r)

/-- The name of a symbol. -/
def symS (k : Int) (nm : ByteArray) : ByteArray := if k = 3 then nm else emS

mutual
/-- For how many each variable stands that stands for many. -/
def cntD (v : ByteArray → Nat) (m : ByteArray → List Dat) : Dat → List Nat
  | ⟨k, n, nm, st, lb, ks⟩ => if v (symS k nm) = 2 then [(m nm).length] else if k = 4 then cntL v m ks else []
def cntL (v : ByteArray → Nat) (m : ByteArray → List Dat) : List Dat → List Nat
  | [] => []
  | d :: r => cntD v m d ++ cntL v m r
end

def alikeB (l : List Nat) : Bool := l.all fun x => x == l.headD 0

mutual
/-- Do all variables ahead of dots stand for like many? -/
def fitsD (v : ByteArray → Nat) (m : ByteArray → List Dat) : Dat → Bool
  | ⟨k, n, nm, st, lb, ks⟩ => if k = 4 then fitsL v m ks else true
def fitsL (v : ByteArray → Nat) (m : ByteArray → List Dat) : List Dat → Bool
  | [] => true
  | [d] => fitsD v m d
  | d :: e :: r => if isDots e then alikeB (cntD v m d) && fitsL v m r else fitsD v m d && fitsL v m (e :: r)
end

/-- One more that a variable meets. -/
def putM (m : ByteArray → List Dat) (nm : ByteArray) (d : Dat) : ByteArray → List Dat := fun t => if t = nm then m t ++ [d] else m t

mutual
/-- Does a datum look as a thing of a pattern does? What the variables meet. -/
def fitD (lits : List ByteArray) : Dat → Dat → (ByteArray → List Dat) → Option (ByteArray → List Dat)
  | ⟨k, n, nm, st, lb, ks⟩, d, m =>
    if k = 3 then (if inB lits nm then (if d.kind = 3 ∧ d.name = nm then some m else none) else if varK lits k nm then some (putM m nm d) else some m)
    else if k = 4 then (if d.kind = 4 then fitL lits ks d.kids m else none)
    else if k = d.kind ∧ n = d.n then some m else none
def fitL (lits : List ByteArray) : List Dat → List Dat → (ByteArray → List Dat) → Option (ByteArray → List Dat)
  | [], l, m => if l.isEmpty then some m else none
  | [p], l, m => match l with
    | [d] => fitD lits p d m
    | _ => none
  | p :: q :: r, l, m => if isDots q then l.foldlM (fun m d => fitD lits p d m) m else match l with
    | [] => none
    | d :: l => (fitD lits p d m).bind (fitL lits (q :: r) l)
end

def zeroD : Dat := ⟨0, 0, emS, 0, 0, []⟩

mutual
/-- What comes of a template, at the ith ones of the many. -/
def fillD (v : ByteArray → Nat) (m : ByteArray → List Dat) (sp lbb : Int) : Dat → Nat → Dat
  | ⟨k, n, nm, st, lb, ks⟩, i =>
    if v (symS k nm) = 1 then (m nm).getD 0 zeroD
    else if v (symS k nm) = 2 then (m nm).getD i zeroD
    else if k = 4 then ⟨4, 0, emS, 0, 0, fillL v m sp lbb ks i⟩
    else if k = 3 then ⟨3, 0, nm, sp, lbb, []⟩
    else ⟨k, n, emS, 0, 0, []⟩
def fillL (v : ByteArray → Nat) (m : ByteArray → List Dat) (sp lbb : Int) : List Dat → Nat → List Dat
  | [], _ => []
  | [d], i => [fillD v m sp lbb d i]
  | d :: e :: r, i => if isDots e then (List.range ((cntD v m d).headD 0)).map (fillD v m sp lbb d) ++ fillL v m sp lbb r i else fillD v m sp lbb d i :: fillL v m sp lbb (e :: r) i
end

mutual
/-- How many nodes, how deep, and what kinds have. -/
def sizeD : Dat → Nat
  | ⟨k, n, nm, st, lb, ks⟩ => if k = 4 then 1 + sizeL ks else 1
def sizeL : List Dat → Nat
  | [] => 0
  | d :: r => sizeD d + sizeL r
end
mutual
def deepD : Dat → Nat
  | ⟨k, n, nm, st, lb, ks⟩ => if k = 4 then 1 + deepL ks else 1
def deepL : List Dat → Nat
  | [] => 0
  | d :: r => max (deepD d) (deepL r)
end
mutual
def bareD : Dat → Dat
  | ⟨k, n, nm, st, lb, ks⟩ => if k = 4 then ⟨4, 0, emS, 0, 0, bareL ks⟩ else if k = 3 then ⟨3, 0, nm, st, lb, []⟩ else if k = 1 ∨ k = 2 then ⟨k, n, emS, 0, 0, []⟩ else ⟨k, 0, emS, 0, 0, []⟩
def bareL : List Dat → List Dat
  | [] => []
  | d :: r => bareD d :: bareL r
end

/-- More than MaxNodes nodes, or nested deeper than MaxDeep. -/
def muchB (d : Dat) : Bool := decide (2000 < sizeD d) || decide (40 < deepD d)

/-- What is wrong with a rule. -/
def wrongRule (lits : List ByteArray) (p t : Dat) : Int :=
  if (wrong [p, t]).1 ≠ 0 then (wrong [p, t]).1
  else if p.kind ≠ 4 then 2
  else match p.kids with
    | [] => 2
    | h :: r => if h.kind ≠ 3 ∨ isDots h then 2 else
      if (vlist lits r true 1 (fun _ => 0)).1 ≠ 0 then (vlist lits r true 1 (fun _ => 0)).1
      else if rightD (vlist lits r true 1 (fun _ => 0)).2 t false then 0 else 2

def litOk (s : ByteArray) : Bool := namedB s && (!decide (s = dotsS) && !decide (s = anyS))

def wrongRules (lits : List ByteArray) : List (Dat × Dat) → Nat → Int × Int
  | [], _ => (0, 0)
  | (p, t) :: r, i => if wrongRule lits p t = 0 then wrongRules lits r (i + 1) else (wrongRule lits p t, i)

/-- WHAT IS WRONG WITH A MACRO. -/
def wrongM (lits : List ByteArray) (rules : List (Dat × Dat)) : Int × Int :=
  if 20 < rules.length ∨ 20 < lits.length then (5, 0) else if lits.all litOk then wrongRules lits rules 0 else (7, 0)

/-- What a rule that fits makes. -/
def grownM (v : ByteArray → Nat) (m : ByteArray → List Dat) (t : Dat) (sp lbb : Int) : Dat × Int :=
  if fitsD v m t then (if muchB (fillD v m sp lbb t 0) then (zeroD, 4) else (bareD (fillD v m sp lbb t 0), 0)) else (zeroD, 8)

def useRules (lits : List ByteArray) (ks : List Dat) (sp lbb : Int) : List (Dat × Dat) → Dat × Int
  | [] => (zeroD, 6)
  | (p, t) :: r => ((fitL lits p.kids.tail ks (fun _ => [])).map fun m => grownM (vlist lits p.kids.tail true 1 (fun _ => 0)).2 m t sp lbb).getD (useRules lits ks sp lbb r)

/-- WHAT A MACRO MAKES of a form. -/
def useM (lits : List ByteArray) (rules : List (Dat × Dat)) (form : Dat) (sp lbb : Int) : Dat × Int :=
  if (wrongM lits rules).1 ≠ 0 then (zeroD, (wrongM lits rules).1)
  else if muchB form then (zeroD, 4)
  else if form.kind ≠ 4 then (zeroD, 2)
  else match form.kids with
    | [] => (zeroD, 2)
    | _ :: ks => useRules lits ks sp lbb rules
end
end Go.Proofs.YtceapbliljiplaeGreatDoor
