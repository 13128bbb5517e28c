/- The plain mathematics of chapter 1's data: what is a letter, a name, what is wrong with data, how they are written. What package model finds wrong with a part, and the code that package code makes of it: plainly. -/
import Derived.Test.YthooljlikllnpaaDoorProg
import Derived.WalkKit
namespace Go.Proofs.YthooljlikllnpaaDoor
section
set_option linter.unusedVariables false
set_option linter.unusedSimpArgs false
open Go.RowKit

/-- A datum. -/
structure Dat where
  kind : Int
  n : Int
  name : ByteArray
  stamp : Int
  lib : Int
  kids : List Dat

def digB (c : Int) : Bool := decide (48 ≤ c) && decide (c ≤ 57)

def letTab : List Int := [97, 98, 99, 100, 101, 102, 103, 104, 105, 106, 107, 108, 109, 110, 111, 112, 113, 114, 115, 116, 117, 118, 119, 120, 121, 122, 48, 49, 50, 51, 52, 53, 54, 55, 56, 57, 33, 63, 42, 43, 45, 47, 60, 61, 62, 95, 46]

def letB (c : Int) : Bool := letTab.any fun x => x == c

/-- The digits behind a sign. -/
def unsign (l : List UInt8) : List UInt8 := if l.head? = some 45 then l.tail else l

def allDig (l : List UInt8) : Bool := l.all fun c => digB (c.toNat : Int)
def allLet (l : List UInt8) : Bool := l.all fun c => letB (c.toNat : Int)

def looksB (l : List UInt8) : Bool := allDig (unsign l) && !(unsign l).isEmpty

def namedB (s : ByteArray) : Bool := decide (0 < s.size) && decide (s.size ≤ 20) && allLet s.data.toList && !looksB s.data.toList

def rangeB (n : Int) : Bool := decide (-1000000000000000 ≤ n) && decide (n ≤ 1000000000000000)

/-- What is wrong with a node, whatever its kids are. -/
def alone (d : Dat) : Int :=
  if d.kind = 1 then (if rangeB d.n then 0 else 3)
  else if d.kind = 2 then (if d.n = 0 ∨ d.n = 1 then 0 else 3)
  else if d.kind = 3 then (if namedB d.name then (if d.stamp = 0 ∧ d.lib = 0 then 0 else 8) else 7)
  else if d.kind = 4 then 0 else 1

def chkL (g : Dat → Nat → Int × Nat) : List Dat → Nat → Int × Nat
  | [], n => (0, n)
  | d :: r, n => if (g d n).1 = 0 then chkL g r (g d n).2 else g d n

/-- What is wrong with a datum, so deep that f levels are left, behind n nodes; and how many there are then. -/
def chk : Nat → Dat → Nat → Int × Nat
  | 0, _, n => (4, n + 1)
  | f + 1, d, n => if 2000 < n + 1 then (4, n + 1) else if alone d = 0 then (if d.kind = 4 then chkL (chk f) d.kids (n + 1) else (0, n + 1)) else (alone d, n + 1)

def wrongFrom : List Dat → Nat → Nat → Int × Int
  | [], _, _ => (0, 0)
  | d :: r, i, n => if (chk 40 d n).1 = 0 then wrongFrom r (i + 1) (chk 40 d n).2 else ((chk 40 d n).1, i)

def wrong (l : List Dat) : Int × Int := wrongFrom l 0 0

theorem chkL_le (g : Dat → Nat → Int × Nat) (hg : ∀ d n, n ≤ 2000 → (g d n).1 = 0 → (g d n).2 ≤ 2000) : ∀ (l : List Dat) (n : Nat), n ≤ 2000 → (chkL g l n).1 = 0 → (chkL g l n).2 ≤ 2000
  | [], n, h, _ => h
  | d :: r, n, h, h0 => by
    unfold chkL at h0 ⊢
    by_cases e : (g d n).1 = 0
    · rw [if_pos e] at h0 ⊢
      exact chkL_le g hg r _ (hg d n h e) h0
    · rw [if_neg e] at h0
      exact absurd h0 e

theorem chk_le : ∀ (f : Nat) (d : Dat) (n : Nat), n ≤ 2000 → (chk f d n).1 = 0 → (chk f d n).2 ≤ 2000
  | 0, d, n, _, h0 => by simp [chk] at h0
  | f + 1, d, n, h, h0 => by
    unfold chk at h0 ⊢
    by_cases a : 2000 < n + 1
    · rw [if_pos a] at h0; simp at h0
    · rw [if_neg a] at h0 ⊢
      by_cases b : alone d = 0
      · rw [if_pos b] at h0 ⊢
        by_cases c : d.kind = 4
        · rw [if_pos c] at h0 ⊢
          exact chkL_le _ (chk_le f) _ _ (by omega) h0
        · rw [if_neg c]; simp; omega
      · rw [if_neg b] at h0
        exact absurd h0 b
end
section
set_option linter.unusedVariables false
set_option linter.unusedSimpArgs false

/-- An expression. -/
structure Cor where
  kind : Int
  index : Int
  n : Int
  lib : ByteArray
  own : ByteArray
  quote : Dat
  kids : List Cor

def primTab : List (ByteArray × Int) := [(⟨#[99, 97, 114]⟩, 1), (⟨#[99, 100, 114]⟩, 1), (⟨#[110, 111, 116]⟩, 1), (⟨#[110, 117, 108, 108, 63]⟩, 1), (⟨#[111, 117, 116]⟩, 1), (⟨#[112, 97, 105, 114, 63]⟩, 1),
  (⟨#[42]⟩, 2), (⟨#[43]⟩, 2), (⟨#[45]⟩, 2), (⟨#[60]⟩, 2), (⟨#[61]⟩, 2), (⟨#[99, 111, 110, 115]⟩, 2), (⟨#[101, 113, 63]⟩, 2)]
def argsTab : List (ByteArray × Int) → ByteArray → Int
  | [], _ => 0
  | (s, n) :: r, o => if o = s then n else argsTab r o
/-- How many arguments a primitive takes. -/
def argsB (o : ByteArray) : Int := argsTab primTab o

/-- What is wrong with how many kids there are. -/
def wkids (k : Int) (n : Nat) : Int :=
  if k = 1 ∨ k = 2 ∨ k = 3 ∨ k = 4 ∨ k = 5 ∨ k = 6 then (if n = 0 then 0 else 5)
  else if k = 8 ∨ k = 10 ∨ k = 11 ∨ k = 13 then (if n = 1 then 0 else 5)
  else if k = 7 then (if n = 3 then 0 else 5)
  else if k = 9 ∨ k = 12 then (if 1 ≤ n then 0 else 5)
  else 1
/-- What is wrong with a node beside its kids. -/
def wfields (c : Cor) (ar : Int) : Int :=
  if c.kind = 1 then (if -1000000000000000 ≤ c.n ∧ c.n ≤ 1000000000000000 then 0 else 3)
  else if c.kind = 2 then (if c.n = 0 ∨ c.n = 1 then 0 else 3)
  else if c.kind = 4 ∨ c.kind = 10 then (if 0 ≤ c.index ∧ c.index < ar then 0 else 3)
  else if c.kind = 8 then (if 0 ≤ c.index ∧ c.index ≤ 2000 then 0 else 3)
  else if c.kind = 6 then (if argsB c.own = 0 then 7 else 0)
  else if c.kind = 3 then (wrong [c.quote]).1
  else 0
def ckL (g : Cor → Nat → Int × Nat) : List Cor → Nat → Int × Nat
  | [], n => (0, n)
  | c :: r, n => if (g c n).1 = 0 then ckL g r (g c n).2 else g c n
/-- What is wrong with an expression; how many nodes were met. -/
def ckC : Nat → Int → Cor → Nat → Int × Nat
  | 0, _, _, n => (4, n + 1)
  | f + 1, ar, c, n =>
    if 3000 < n + 1 then (4, n + 1)
    else if wkids c.kind c.kids.length = 0 then
      if wfields c ar = 0 then ckL (ckC f (if c.kind = 8 then ar + c.index else ar)) c.kids (n + 1)
      else (wfields c ar, n + 1)
    else (wkids c.kind c.kids.length, n + 1)
def ckB : List Cor → Int
  | [] => 0
  | c :: r => if (ckC 300 0 c 0).1 = 0 then ckB r else (ckC 300 0 c 0).1
/-- What is wrong with a part's body. -/
def wrongB (b : List Cor) : Int := if 200 < b.length then 5 else ckB b

theorem ckL_drop (g : Cor → Nat → Int × Nat) (ks : List Cor) (i m : Nat) (d : Cor) (h : ks[i]? = some d) (h0 : (g d m).1 = 0) : ckL g (ks.drop i) m = ckL g (ks.drop (i + 1)) (g d m).2 := by
  obtain ⟨hi, e⟩ := List.getElem?_eq_some_iff.1 h
  rw [List.drop_eq_getElem_cons hi, e]
  show (if (g d m).1 = 0 then _ else _) = _
  rw [if_pos h0]
theorem ckL_bad (g : Cor → Nat → Int × Nat) (ks : List Cor) (i m : Nat) (d : Cor) (h : ks[i]? = some d) (h0 : (g d m).1 ≠ 0) : ckL g (ks.drop i) m = g d m := by
  obtain ⟨hi, e⟩ := List.getElem?_eq_some_iff.1 h
  rw [List.drop_eq_getElem_cons hi, e]
  show (if (g d m).1 = 0 then _ else _) = _
  rw [if_neg h0]
theorem ckL_le (g : Cor → Nat → Int × Nat) (hg : ∀ c n, n ≤ 3000 → (g c n).1 = 0 → (g c n).2 ≤ 3000) : ∀ (l : List Cor) (n : Nat), n ≤ 3000 → (ckL g l n).1 = 0 → (ckL g l n).2 ≤ 3000
  | [], n, hn, _ => hn
  | c :: r, n, hn, h => by
    unfold ckL at h ⊢
    split
    · rename_i h0
      rw [if_pos h0] at h
      exact ckL_le g hg r _ (hg c n hn h0) h
    · rename_i h0
      rw [if_neg h0] at h
      exact absurd h h0
theorem ckC_le : ∀ (f : Nat) (ar : Int) (c : Cor) (n : Nat), n ≤ 3000 → (ckC f ar c n).1 = 0 → (ckC f ar c n).2 ≤ 3000
  | 0, ar, c, n, hn, h => by simp [ckC] at h
  | f + 1, ar, c, n, hn, h => by
    unfold ckC at h ⊢
    split
    · rename_i h0
      rw [if_pos h0] at h
      simp at h
    · rename_i h0
      rw [if_neg h0] at h
      split
      · rename_i h1
        rw [if_pos h1] at h
        split
        · rename_i h2
          rw [if_pos h2] at h
          exact ckL_le _ (fun c n hn h => ckC_le f _ c n hn h) _ _ (by omega) h
        · rename_i h2
          rw [if_neg h2] at h
          exact absurd h h2
      · rename_i h1
        rw [if_neg h1] at h
        exact absurd h h1

/-- An instruction, and a procedure. -/
structure In where
  op : Int
  a : Int
  n : Int
  lib : ByteArray
  own : ByteArray
  quote : Dat
structure Pro where
  args : Int
  code : List In
def emD : Dat := ⟨0, 0, ⟨#[]⟩, 0, 0, []⟩
def insO (op : Int) : In := ⟨op, 0, 0, ⟨#[]⟩, ⟨#[]⟩, emD⟩
def insA (op a : Int) : In := ⟨op, a, 0, ⟨#[]⟩, ⟨#[]⟩, emD⟩
def insN (op n : Int) : In := ⟨op, 0, n, ⟨#[]⟩, ⟨#[]⟩, emD⟩
def insG (op : Int) (lb ow : ByteArray) : In := ⟨op, 0, 0, lb, ow, emD⟩

mutual
/-- Data without what their kinds have not. -/
def bareQ : Dat → Dat
  | ⟨k, n, nm, st, lb, ks⟩ => ⟨k, if k = 1 ∨ k = 2 then n else 0, if k = 3 then nm else ⟨#[]⟩, 0, 0, if k = 4 then bareQL ks else []⟩
def bareQL : List Dat → List Dat
  | [] => []
  | d :: r => bareQ d :: bareQL r
end
/-- The instruction of a node itself. -/
def lastI (c : Cor) : In :=
  if c.kind = 1 then insN 1 c.n else if c.kind = 2 then insN 2 c.n else if c.kind = 3 then { insO 3 with quote := bareQ c.quote }
  else if c.kind = 4 then insA 4 c.index else if c.kind = 10 then insA 11 c.index
  else if c.kind = 5 then insG 5 c.lib c.own else if c.kind = 11 then insG 12 c.lib c.own else if c.kind = 13 then insG 13 c.lib c.own
  else if c.kind = 6 then insG 6 ⟨#[]⟩ c.own else insA 8 (c.kids.length - 1)

mutual
/-- The code of an expression from a place on, and the procedures in it, numbered from a number on. -/
def genC : Cor → Nat → Nat → List In × List Pro
  | ⟨k, i, n, lb, ow, q, ks⟩, at0, pr =>
    if k = 8 then
      match ks with
      | b :: _ => ([insA 7 pr], ⟨i, (genC b 0 (pr + 1)).1 ++ [insO 15]⟩ :: (genC b 0 (pr + 1)).2)
      | [] => ([], [])
    else if k = 7 then
      match ks with
      | [x, y, z] =>
        let cx := genC x at0 pr
        let cy := genC y (at0 + cx.1.length + 1) (pr + cx.2.length)
        let cz := genC z (at0 + cx.1.length + 1 + cy.1.length + 1) (pr + cx.2.length + cy.2.length)
        (cx.1 ++ insA 10 (at0 + cx.1.length + 1 + cy.1.length + 1 : Nat) :: cy.1 ++ insA 9 (at0 + cx.1.length + 1 + cy.1.length + 1 + cz.1.length : Nat) :: cz.1, cx.2 ++ cy.2 ++ cz.2)
      | _ => ([], [])
    else if k = 12 then genS ks true at0 pr
    else
      let c := genL ks at0 pr
      (c.1 ++ [lastI ⟨k, i, n, lb, ow, q, ks⟩], c.2)
/-- Kids' code, one behind the other. -/
def genL : List Cor → Nat → Nat → List In × List Pro
  | [], _, _ => ([], [])
  | c :: r, at0, pr =>
    let x := genC c at0 pr
    let y := genL r (at0 + x.1.length) (pr + x.2.length)
    (x.1 ++ y.1, x.2 ++ y.2)
/-- Kids' code with a pop between. -/
def genS : List Cor → Bool → Nat → Nat → List In × List Pro
  | [], _, _, _ => ([], [])
  | c :: r, fst, at0, pr =>
    let p : List In := if fst then [] else [insO 14]
    let x := genC c (at0 + p.length) pr
    let y := genS r false (at0 + p.length + x.1.length) (pr + x.2.length)
    (p ++ x.1 ++ y.1, x.2 ++ y.2)
end
/-- A body's code: each expression's, and a pop. -/
def genB : List Cor → Nat → Nat → List In × List Pro
  | [], _, _ => ([], [])
  | c :: r, at0, pr =>
    let x := genC c at0 pr
    let y := genB r (at0 + x.1.length + 1) (pr + x.2.length)
    (x.1 ++ insO 14 :: y.1, x.2 ++ y.2)
mutual
/-- How many instructions, procedures; the longest of these. -/
def sizC : Cor → Nat
  | ⟨k, i, n, lb, ow, q, ks⟩ => if k = 8 then 1 else if k = 7 then sizL ks + 2 else if k = 12 then sizL ks + ks.length - 1 else sizL ks + 1
def sizL : List Cor → Nat
  | [] => 0
  | c :: r => sizC c + sizL r
end
/-- What procedures are too many, or too long. -/
def muchP (l : List Pro) : Bool := decide (500 < l.length) || l.any (fun p => decide (6000 < p.code.length))
/-- WHAT Compile TELLS. -/
def protosOf (b : List Cor) : List Pro := ⟨0, (genB b 0 1).1 ++ [insO 15]⟩ :: (genB b 0 1).2
def compile (b : List Cor) : Int × List Pro :=
  if wrongB b ≠ 0 then (wrongB b, []) else if muchP (protosOf b) then (4, []) else (0, protosOf b)
end
end Go.Proofs.YthooljlikllnpaaDoor
