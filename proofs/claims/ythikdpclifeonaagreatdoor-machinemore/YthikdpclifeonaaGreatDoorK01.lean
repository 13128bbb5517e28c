/- The plain mathematics of chapter 1's data: what is a letter, a name, what is wrong with data, how they are written. What package model finds wrong with a part, and the code that package code makes of it: plainly. Chapter 9, plainly: how a procedure uses its stack; what is compiled uses it well. Chapter 9, plainly: what is compiled raises the stack by one. -/
import Derived.Test.YthikdpclifeonaaGreatDoorProg
import Derived.WalkKit
namespace Go.Proofs.YthikdpclifeonaaGreatDoor
section
set_option linter.unusedVariables false
set_option linter.unusedSimpArgs false
open Go.RowKit

/-- A datum. -/
structure Dat where
  kind : Int
  n : Int
  name : ByteArray
  stamp : Int
  lib : Int
  kids : List Dat

def digB (c : Int) : Bool := decide (48 ≤ c) && decide (c ≤ 57)

def letTab : List Int := [97, 98, 99, 100, 101, 102, 103, 104, 105, 106, 107, 108, 109, 110, 111, 112, 113, 114, 115, 116, 117, 118, 119, 120, 121, 122, 48, 49, 50, 51, 52, 53, 54, 55, 56, 57, 33, 63, 42, 43, 45, 47, 60, 61, 62, 95, 46]

def letB (c : Int) : Bool := letTab.any fun x => x == c

/-- The digits behind a sign. -/
def unsign (l : List UInt8) : List UInt8 := if l.head? = some 45 then l.tail else l

def allDig (l : List UInt8) : Bool := l.all fun c => digB (c.toNat : Int)
def allLet (l : List UInt8) : Bool := l.all fun c => letB (c.toNat : Int)

def looksB (l : List UInt8) : Bool := allDig (unsign l) && !(unsign l).isEmpty

def namedB (s : ByteArray) : Bool := decide (0 < s.size) && decide (s.size ≤ 20) && allLet s.data.toList && !looksB s.data.toList

def rangeB (n : Int) : Bool := decide (-1000000000000000 ≤ n) && decide (n ≤ 1000000000000000)

/-- What is wrong with a node, whatever its kids are. -/
def alone (d : Dat) : Int :=
  if d.kind = 1 then (if rangeB d.n then 0 else 3)
  else if d.kind = 2 then (if d.n = 0 ∨ d.n = 1 then 0 else 3)
  else if d.kind = 3 then (if namedB d.name then (if d.stamp = 0 ∧ d.lib = 0 then 0 else 8) else 7)
  else if d.kind = 4 then 0 else 1

def chkL (g : Dat → Nat → Int × Nat) : List Dat → Nat → Int × Nat
  | [], n => (0, n)
  | d :: r, n => if (g d n).1 = 0 then chkL g r (g d n).2 else g d n

/-- What is wrong with a datum, so deep that f levels are left, behind n nodes; and how many there are then. -/
def chk : Nat → Dat → Nat → Int × Nat
  | 0, _, n => (4, n + 1)
  | f + 1, d, n => if 2000 < n + 1 then (4, n + 1) else if alone d = 0 then (if d.kind = 4 then chkL (chk f) d.kids (n + 1) else (0, n + 1)) else (alone d, n + 1)

def wrongFrom : List Dat → Nat → Nat → Int × Int
  | [], _, _ => (0, 0)
  | d :: r, i, n => if (chk 40 d n).1 = 0 then wrongFrom r (i + 1) (chk 40 d n).2 else ((chk 40 d n).1, i)

def wrong (l : List Dat) : Int × Int := wrongFrom l 0 0

theorem chkL_le (g : Dat → Nat → Int × Nat) (hg : ∀ d n, n ≤ 2000 → (g d n).1 = 0 → (g d n).2 ≤ 2000) : ∀ (l : List Dat) (n : Nat), n ≤ 2000 → (chkL g l n).1 = 0 → (chkL g l n).2 ≤ 2000
  | [], n, h, _ => h
  | d :: r, n, h, h0 => by
    unfold chkL at h0 ⊢
    by_cases e : (g d n).1 = 0
    · rw [if_pos e] at h0 ⊢
      exact chkL_le g hg r _ (hg d n h e) h0
    · rw [if_neg e] at h0
      exact absurd h0 e

theorem chk_le : ∀ (f : Nat) (d : Dat) (n : Nat), n ≤ 2000 → (chk f d n).1 = 0 → (chk f d n).2 ≤ 2000
  | 0, d, n, _, h0 => by simp [chk] at h0
  | f + 1, d, n, h, h0 => by
    unfold chk at h0 ⊢
    by_cases a : 2000 < n + 1
    · rw [if_pos a] at h0; simp at h0
    · rw [if_neg a] at h0 ⊢
      by_cases b : alone d = 0
      · rw [if_pos b] at h0 ⊢
        by_cases c : d.kind = 4
        · rw [if_pos c] at h0 ⊢
          exact chkL_le _ (chk_le f) _ _ (by omega) h0
        · rw [if_neg c]; simp; omega
      · rw [if_neg b] at h0
        exact absurd h0 b
end
section
set_option linter.unusedVariables false
set_option linter.unusedSimpArgs false

/-- An expression. -/
structure Cor where
  kind : Int
  index : Int
  n : Int
  lib : ByteArray
  own : ByteArray
  quote : Dat
  kids : List Cor

def primTab : List (ByteArray × Int) := [(⟨#[99, 97, 114]⟩, 1), (⟨#[99, 100, 114]⟩, 1), (⟨#[110, 111, 116]⟩, 1), (⟨#[110, 117, 108, 108, 63]⟩, 1), (⟨#[111, 117, 116]⟩, 1), (⟨#[112, 97, 105, 114, 63]⟩, 1),
  (⟨#[42]⟩, 2), (⟨#[43]⟩, 2), (⟨#[45]⟩, 2), (⟨#[60]⟩, 2), (⟨#[61]⟩, 2), (⟨#[99, 111, 110, 115]⟩, 2), (⟨#[101, 113, 63]⟩, 2)]
def argsTab : List (ByteArray × Int) → ByteArray → Int
  | [], _ => 0
  | (s, n) :: r, o => if o = s then n else argsTab r o
/-- How many arguments a primitive takes. -/
def argsB (o : ByteArray) : Int := argsTab primTab o

/-- What is wrong with how many kids there are. -/
def wkids (k : Int) (n : Nat) : Int :=
  if k = 1 ∨ k = 2 ∨ k = 3 ∨ k = 4 ∨ k = 5 ∨ k = 6 then (if n = 0 then 0 else 5)
  else if k = 8 ∨ k = 10 ∨ k = 11 ∨ k = 13 then (if n = 1 then 0 else 5)
  else if k = 7 then (if n = 3 then 0 else 5)
  else if k = 9 ∨ k = 12 then (if 1 ≤ n then 0 else 5)
  else 1
/-- What is wrong with a node beside its kids. -/
def wfields (c : Cor) (ar : Int) : Int :=
  if c.kind = 1 then (if -1000000000000000 ≤ c.n ∧ c.n ≤ 1000000000000000 then 0 else 3)
  else if c.kind = 2 then (if c.n = 0 ∨ c.n = 1 then 0 else 3)
  else if c.kind = 4 ∨ c.kind = 10 then (if 0 ≤ c.index ∧ c.index < ar then 0 else 3)
  else if c.kind = 8 then (if 0 ≤ c.index ∧ c.index ≤ 2000 then 0 else 3)
  else if c.kind = 6 then (if argsB c.own = 0 then 7 else 0)
  else if c.kind = 3 then (wrong [c.quote]).1
  else 0
def ckL (g : Cor → Nat → Int × Nat) : List Cor → Nat → Int × Nat
  | [], n => (0, n)
  | c :: r, n => if (g c n).1 = 0 then ckL g r (g c n).2 else g c n
/-- What is wrong with an expression; how many nodes were met. -/
def ckC : Nat → Int → Cor → Nat → Int × Nat
  | 0, _, _, n => (4, n + 1)
  | f + 1, ar, c, n =>
    if 3000 < n + 1 then (4, n + 1)
    else if wkids c.kind c.kids.length = 0 then
      if wfields c ar = 0 then ckL (ckC f (if c.kind = 8 then ar + c.index else ar)) c.kids (n + 1)
      else (wfields c ar, n + 1)
    else (wkids c.kind c.kids.length, n + 1)
def ckB : List Cor → Int
  | [] => 0
  | c :: r => if (ckC 300 0 c 0).1 = 0 then ckB r else (ckC 300 0 c 0).1
/-- What is wrong with a part's body. -/
def wrongB (b : List Cor) : Int := if 200 < b.length then 5 else ckB b

theorem ckL_drop (g : Cor → Nat → Int × Nat) (ks : List Cor) (i m : Nat) (d : Cor) (h : ks[i]? = some d) (h0 : (g d m).1 = 0) : ckL g (ks.drop i) m = ckL g (ks.drop (i + 1)) (g d m).2 := by
  obtain ⟨hi, e⟩ := List.getElem?_eq_some_iff.1 h
  rw [List.drop_eq_getElem_cons hi, e]
  show (if (g d m).1 = 0 then _ else _) = _
  rw [if_pos h0]
theorem ckL_bad (g : Cor → Nat → Int × Nat) (ks : List Cor) (i m : Nat) (d : Cor) (h : ks[i]? = some d) (h0 : (g d m).1 ≠ 0) : ckL g (ks.drop i) m = g d m := by
  obtain ⟨hi, e⟩ := List.getElem?_eq_some_iff.1 h
  rw [List.drop_eq_getElem_cons hi, e]
  show (if (g d m).1 = 0 then _ else _) = _
  rw [if_neg h0]
theorem ckL_le (g : Cor → Nat → Int × Nat) (hg : ∀ c n, n ≤ 3000 → (g c n).1 = 0 → (g c n).2 ≤ 3000) : ∀ (l : List Cor) (n : Nat), n ≤ 3000 → (ckL g l n).1 = 0 → (ckL g l n).2 ≤ 3000
  | [], n, hn, _ => hn
  | c :: r, n, hn, h => by
    unfold ckL at h ⊢
    split
    · rename_i h0
      rw [if_pos h0] at h
      exact ckL_le g hg r _ (hg c n hn h0) h
    · rename_i h0
      rw [if_neg h0] at h
      exact absurd h h0
theorem ckC_le : ∀ (f : Nat) (ar : Int) (c : Cor) (n : Nat), n ≤ 3000 → (ckC f ar c n).1 = 0 → (ckC f ar c n).2 ≤ 3000
  | 0, ar, c, n, hn, h => by simp [ckC] at h
  | f + 1, ar, c, n, hn, h => by
    unfold ckC at h ⊢
    split
    · rename_i h0
      rw [if_pos h0] at h
      simp at h
    · rename_i h0
      rw [if_neg h0] at h
      split
      · rename_i h1
        rw [if_pos h1] at h
        split
        · rename_i h2
          rw [if_pos h2] at h
          exact ckL_le _ (fun c n hn h => ckC_le f _ c n hn h) _ _ (by omega) h
        · rename_i h2
          rw [if_neg h2] at h
          exact absurd h h2
      · rename_i h1
        rw [if_neg h1] at h
        exact absurd h h1

/-- An instruction, and a procedure. -/
structure In where
  op : Int
  a : Int
  n : Int
  lib : ByteArray
  own : ByteArray
  quote : Dat
structure Pro where
  args : Int
  code : List In
def emD : Dat := ⟨0, 0, ⟨#[]⟩, 0, 0, []⟩
def insO (op : Int) : In := ⟨op, 0, 0, ⟨#[]⟩, ⟨#[]⟩, emD⟩
def insA (op a : Int) : In := ⟨op, a, 0, ⟨#[]⟩, ⟨#[]⟩, emD⟩
def insN (op n : Int) : In := ⟨op, 0, n, ⟨#[]⟩, ⟨#[]⟩, emD⟩
def insG (op : Int) (lb ow : ByteArray) : In := ⟨op, 0, 0, lb, ow, emD⟩

mutual
/-- Data without what their kinds have not. -/
def bareQ : Dat → Dat
  | ⟨k, n, nm, st, lb, ks⟩ => ⟨k, if k = 1 ∨ k = 2 then n else 0, if k = 3 then nm else ⟨#[]⟩, 0, 0, if k = 4 then bareQL ks else []⟩
def bareQL : List Dat → List Dat
  | [] => []
  | d :: r => bareQ d :: bareQL r
end
/-- The instruction of a node itself. -/
def lastI (c : Cor) : In :=
  if c.kind = 1 then insN 1 c.n else if c.kind = 2 then insN 2 c.n else if c.kind = 3 then { insO 3 with quote := bareQ c.quote }
  else if c.kind = 4 then insA 4 c.index else if c.kind = 10 then insA 11 c.index
  else if c.kind = 5 then insG 5 c.lib c.own else if c.kind = 11 then insG 12 c.lib c.own else if c.kind = 13 then insG 13 c.lib c.own
  else if c.kind = 6 then insG 6 ⟨#[]⟩ c.own else insA 8 (c.kids.length - 1)

mutual
/-- The code of an expression from a place on, and the procedures in it, numbered from a number on. -/
def genC : Cor → Nat → Nat → List In × List Pro
  | ⟨k, i, n, lb, ow, q, ks⟩, at0, pr =>
    if k = 8 then
      match ks with
      | b :: _ => ([insA 7 pr], ⟨i, (genC b 0 (pr + 1)).1 ++ [insO 15]⟩ :: (genC b 0 (pr + 1)).2)
      | [] => ([], [])
    else if k = 7 then
      match ks with
      | [x, y, z] =>
        let cx := genC x at0 pr
        let cy := genC y (at0 + cx.1.length + 1) (pr + cx.2.length)
        let cz := genC z (at0 + cx.1.length + 1 + cy.1.length + 1) (pr + cx.2.length + cy.2.length)
        (cx.1 ++ insA 10 (at0 + cx.1.length + 1 + cy.1.length + 1 : Nat) :: cy.1 ++ insA 9 (at0 + cx.1.length + 1 + cy.1.length + 1 + cz.1.length : Nat) :: cz.1, cx.2 ++ cy.2 ++ cz.2)
      | _ => ([], [])
    else if k = 12 then genS ks true at0 pr
    else
      let c := genL ks at0 pr
      (c.1 ++ [lastI ⟨k, i, n, lb, ow, q, ks⟩], c.2)
/-- Kids' code, one behind the other. -/
def genL : List Cor → Nat → Nat → List In × List Pro
  | [], _, _ => ([], [])
  | c :: r, at0, pr =>
    let x := genC c at0 pr
    let y := genL r (at0 + x.1.length) (pr + x.2.length)
    (x.1 ++ y.1, x.2 ++ y.2)
/-- Kids' code with a pop between. -/
def genS : List Cor → Bool → Nat → Nat → List In × List Pro
  | [], _, _, _ => ([], [])
  | c :: r, fst, at0, pr =>
    let p : List In := if fst then [] else [insO 14]
    let x := genC c (at0 + p.length) pr
    let y := genS r false (at0 + p.length + x.1.length) (pr + x.2.length)
    (p ++ x.1 ++ y.1, x.2 ++ y.2)
end
/-- A body's code: each expression's, and a pop. -/
def genB : List Cor → Nat → Nat → List In × List Pro
  | [], _, _ => ([], [])
  | c :: r, at0, pr =>
    let x := genC c at0 pr
    let y := genB r (at0 + x.1.length + 1) (pr + x.2.length)
    (x.1 ++ insO 14 :: y.1, x.2 ++ y.2)
mutual
/-- How many instructions, procedures; the longest of these. -/
def sizC : Cor → Nat
  | ⟨k, i, n, lb, ow, q, ks⟩ => if k = 8 then 1 else if k = 7 then sizL ks + 2 else if k = 12 then sizL ks + ks.length - 1 else sizL ks + 1
def sizL : List Cor → Nat
  | [] => 0
  | c :: r => sizC c + sizL r
end
/-- What procedures are too many, or too long. -/
def muchP (l : List Pro) : Bool := decide (500 < l.length) || l.any (fun p => decide (6000 < p.code.length))
/-- WHAT Compile TELLS. -/
def protosOf (b : List Cor) : List Pro := ⟨0, (genB b 0 1).1 ++ [insO 15]⟩ :: (genB b 0 1).2
def compile (b : List Cor) : Int × List Pro :=
  if wrongB b ≠ 0 then (wrongB b, []) else if muchP (protosOf b) then (4, []) else (0, protosOf b)
end
section
set_option linter.unusedVariables false
set_option linter.unusedSimpArgs false

/-- How many an instruction takes off the stack, and then puts there. -/
def movesI (x : In) : Int × Int :=
  if x.op = 1 ∨ x.op = 2 ∨ x.op = 3 ∨ x.op = 4 ∨ x.op = 5 ∨ x.op = 6 ∨ x.op = 7 then (0, 1)
  else if x.op = 8 then (x.a + 1, 1)
  else if x.op = 10 ∨ x.op = 14 then (1, 0)
  else if x.op = 11 ∨ x.op = 12 ∨ x.op = 13 then (1, 1)
  else (0, 0)
/-- From one place to another one. -/
def reachH (h : List Int) (frm : Nat) (tt hh : Int) : Option (List Int) :=
  if tt ≤ frm ∨ (h.length : Int) ≤ tt then none
  else if h.getD tt.toNat (-1) = -1 then some (h.set tt.toNat hh)
  else if h.getD tt.toNat (-1) = hh then some h else none
def leaveH (last : Int) (h : List Int) (place : Nat) (x : In) : Option (List Int) :=
  if h.getD place (-1) < (movesI x).1 then none
  else if x.op = 15 then (if h.getD place (-1) - (movesI x).1 + (movesI x).2 = last then some h else none)
  else if x.op = 9 then reachH h place x.a (h.getD place (-1) - (movesI x).1 + (movesI x).2)
  else if x.op = 10 then (reachH h place x.a (h.getD place (-1) - (movesI x).1 + (movesI x).2)).bind fun h' => reachH h' place ((place + 1 : Nat) : Int) (h.getD place (-1) - (movesI x).1 + (movesI x).2)
  else reachH h place ((place + 1 : Nat) : Int) (h.getD place (-1) - (movesI x).1 + (movesI x).2)
def walkS (last : Int) : Nat → List In → List Int → Bool
  | _, [], _ => true
  | place, x :: r, h => if h.getD place (-1) = -1 then false else match leaveH last h place x with
    | none => false
    | some h' => walkS last (place + 1) r h'
/-- Whether a procedure uses its stack well. -/
def stackOk (l : List In) (body : Bool) : Bool := walkS (if body then 0 else 1) 0 l ((List.replicate l.length (-1)).set 0 0)

/-- Code that raises the stack by so much. -/
def SW (seg : List In) (at0 : Nat) (h m : Int) : Prop := ∀ (rest : List In) (H : List Int) (last : Int), at0 + seg.length < H.length → H[at0]? = some h → (∀ q, at0 < q → q < at0 + seg.length → H[q]? = some (-1)) → (H[at0 + seg.length]? = some (-1) ∨ H[at0 + seg.length]? = some (h + m)) →
  ∃ H', H'.length = H.length ∧ H'[at0 + seg.length]? = some (h + m) ∧ (∀ q, at0 + seg.length < q → H'[q]? = H[q]?) ∧ walkS last at0 (seg ++ rest) H = walkS last (at0 + seg.length) rest H'
theorem reach_new {h : List Int} {frm : Nat} {tt : Nat} {hh : Int} (h1 : frm < tt) (h2 : tt < h.length) (h3 : h[tt]? = some (-1) ∨ h[tt]? = some hh) : ∃ h', reachH h frm (tt : Nat) hh = some h' ∧ h'.length = h.length ∧ h'[tt]? = some hh ∧ ∀ q, q ≠ tt → h'[q]? = h[q]? := by
  unfold reachH
  rw [if_neg (by omega)]
  simp only [Int.toNat_natCast]
  by_cases e : h.getD tt (-1) = -1
  · rw [if_pos e]
    exact ⟨_, rfl, by simp, by simp [h2], fun q hq => by rw [List.getElem?_set_ne (by omega)]⟩
  · rw [if_neg e]
    rcases h3 with h3 | h3
    · exact absurd (by rw [List.getD_eq_getElem?_getD, h3]; rfl) e
    · rw [if_pos (by rw [List.getD_eq_getElem?_getD, h3]; rfl)]
      exact ⟨h, rfl, rfl, h3, fun _ _ => rfl⟩
theorem getD_of {H : List Int} {n : Nat} {h : Int} (e : H[n]? = some h) : H.getD n (-1) = h := by rw [List.getD_eq_getElem?_getD, e]; rfl
/-- One instruction that goes on to the next one. -/
theorem SW.one {x : In} {at0 : Nat} {h m : Int} (h0 : 0 ≤ h) (h9 : x.op ≠ 9) (h10 : x.op ≠ 10) (h15 : x.op ≠ 15) (ht : (movesI x).1 ≤ h) (hm : m = (movesI x).2 - (movesI x).1) : SW [x] at0 h m := by
  intro rest H last hl hh hi he
  simp only [List.length_singleton] at hl hi he ⊢
  have hg := getD_of hh
  obtain ⟨H', r1, r2, r3, r4⟩ := reach_new (h := H) (frm := at0) (tt := at0 + 1) (hh := h - (movesI x).1 + (movesI x).2) (by omega) hl (by rw [show h - (movesI x).1 + (movesI x).2 = h + m by omega]; exact he)
  refine ⟨H', r2, by rw [r3]; congr 1; omega, fun q hq => r4 q (by omega), ?_⟩
  show walkS last at0 (x :: rest) H = _
  rw [walkS, hg, if_neg (by omega)]
  unfold leaveH
  rw [hg, if_neg (by omega), if_neg h15, if_neg h9, if_neg h10, r1]
theorem SW.nil (at0 : Nat) (h : Int) : SW [] at0 h 0 := by
  intro rest H last hl hh hi he
  exact ⟨H, rfl, by simpa using hh, fun _ _ => rfl, by simp⟩
theorem SW.append {a b : List In} {at0 : Nat} {h m1 m2 : Int} (ha : SW a at0 h m1) (hb : SW b (at0 + a.length) (h + m1) m2) (h0 : b ≠ []) (hz : a = [] → m1 = 0) : SW (a ++ b) at0 h (m1 + m2) := by
  intro rest H last hl hh hi he
  have hp : 0 < b.length := List.length_pos_iff.2 h0
  rw [List.length_append] at hl hi he ⊢
  have hend : H[at0 + a.length]? = some (-1) ∨ H[at0 + a.length]? = some (h + m1) := by
    by_cases e : a = []
    · subst e
      right
      rw [hz rfl]
      simpa using hh
    · have := List.length_pos_iff.2 e
      exact Or.inl (hi _ (by omega) (by omega))
  obtain ⟨H1, l1, e1, u1, w1⟩ := ha (b ++ rest) H last (by omega) hh (fun q h1 h2 => hi q h1 (by omega)) hend
  obtain ⟨H2, l2, e2, u2, w2⟩ := hb rest H1 last (by omega) e1 (fun q h1 h2 => by rw [u1 q h1]; exact hi q (by omega) (by omega)) (by
    rw [u1 _ (by omega), Nat.add_assoc, Int.add_assoc]
    exact he)
  refine ⟨H2, by omega, by rw [← Nat.add_assoc, ← Int.add_assoc]; exact e2, fun q hq => by rw [u2 q (by omega), u1 q (by omega)], ?_⟩
  rw [List.append_assoc, w1, w2, Nat.add_assoc]
end
section
set_option linter.unusedVariables false
set_option linter.unusedSimpArgs false

theorem SW.app {a b : List In} {at0 : Nat} {h m1 m2 m : Int} (ha : SW a at0 h m1) (hb : SW b (at0 + a.length) (h + m1) m2) (hz : a = [] → m1 = 0) (hy : b = [] → m2 = 0) (hm : m = m1 + m2) : SW (a ++ b) at0 h m := by
  subst hm
  by_cases e : b = []
  · rw [e, hy e, List.append_nil, Int.add_zero]; exact ha
  · exact ha.append hb e hz

/-- A test, and one of two ways. -/
theorem SW.ifs {x y z : List In} {at0 : Nat} {h : Int} (h0 : 0 ≤ h) (hx : SW x at0 h 1) (nx : x ≠ []) (hy : SW y (at0 + x.length + 1) h 1) (ny : y ≠ []) (hz : SW z (at0 + x.length + 1 + y.length + 1) h 1) (nz : z ≠ []) :
    SW (x ++ insA 10 (at0 + x.length + 1 + y.length + 1 : Nat) :: y ++ insA 9 (at0 + x.length + 1 + y.length + 1 + z.length : Nat) :: z) at0 h 1 := by
  intro rest H last hl hh hi he
  have lx := List.length_pos_iff.2 nx
  have ly := List.length_pos_iff.2 ny
  have lz := List.length_pos_iff.2 nz
  have el : (x ++ insA 10 (at0 + x.length + 1 + y.length + 1 : Nat) :: y ++ insA 9 (at0 + x.length + 1 + y.length + 1 + z.length : Nat) :: z).length = x.length + 1 + y.length + 1 + z.length := by simp; omega
  rw [el] at hl hi he ⊢
  -- the test
  obtain ⟨H1, l1, e1, u1, w1⟩ := hx (insA 10 (at0 + x.length + 1 + y.length + 1 : Nat) :: y ++ insA 9 (at0 + x.length + 1 + y.length + 1 + z.length : Nat) :: z ++ rest) H last (by omega) hh (fun q a b => hi q a (by omega)) (Or.inl (hi _ (by omega) (by omega)))
  -- the branch
  have m10 : movesI (insA 10 (at0 + x.length + 1 + y.length + 1 : Nat)) = (1, 0) := by simp [movesI, insA]
  have m9 : movesI (insA 9 (at0 + x.length + 1 + y.length + 1 + z.length : Nat)) = (0, 0) := by simp [movesI, insA]
  obtain ⟨H2, r2, l2, e2, u2⟩ := reach_new (h := H1) (frm := at0 + x.length) (tt := at0 + x.length + 1 + y.length + 1) (hh := h) (by omega) (by omega) (Or.inl (by rw [u1 _ (by omega)]; exact hi _ (by omega) (by omega)))
  obtain ⟨H3, r3, l3, e3, u3⟩ := reach_new (h := H2) (frm := at0 + x.length) (tt := at0 + x.length + 1) (hh := h) (by omega) (by omega) (Or.inl (by rw [u2 _ (by omega), u1 _ (by omega)]; exact hi _ (by omega) (by omega)))
  -- one way
  obtain ⟨H4, l4, e4, u4, w4⟩ := hy (insA 9 (at0 + x.length + 1 + y.length + 1 + z.length : Nat) :: z ++ rest) H3 last (by omega) e3 (fun q a b => by rw [u3 _ (by omega), u2 _ (by omega), u1 _ (by omega)]; exact hi _ (by omega) (by omega)) (Or.inl (by rw [u3 _ (by omega), u2 _ (by omega), u1 _ (by omega)]; exact hi _ (by omega) (by omega)))
  -- the jump
  obtain ⟨H5, r5, l5, e5, u5⟩ := reach_new (h := H4) (frm := at0 + x.length + 1 + y.length) (tt := at0 + x.length + 1 + y.length + 1 + z.length) (hh := h + 1) (by omega) (by omega) (by
    rw [u4 _ (by omega), u3 _ (by omega), u2 _ (by omega), u1 _ (by omega)]
    rw [show at0 + (x.length + 1 + y.length + 1 + z.length) = at0 + x.length + 1 + y.length + 1 + z.length by omega] at he
    exact he)
  -- the other way
  obtain ⟨H6, l6, e6, u6, w6⟩ := hz rest H5 last (by omega) (by rw [u5 _ (by omega), u4 _ (by omega), u3 _ (by omega)]; exact e2) (fun q a b => by rw [u5 _ (by omega), u4 _ (by omega), u3 _ (by omega), u2 _ (by omega), u1 _ (by omega)]; exact hi _ (by omega) (by omega)) (Or.inr e5)
  refine ⟨H6, by omega, ?_, fun q hq => by rw [u6 _ (by omega), u5 _ (by omega), u4 _ (by omega), u3 _ (by omega), u2 _ (by omega), u1 _ (by omega)], ?_⟩
  · rw [show at0 + (x.length + 1 + y.length + 1 + z.length) = at0 + x.length + 1 + y.length + 1 + z.length by omega]; exact e6
  · have g1 := getD_of e1
    have g4 := getD_of e4
    simp only [List.append_assoc, List.cons_append] at w1 w4 ⊢
    rw [w1, walkS, g1, if_neg (by omega)]
    have s1 : leaveH last H1 (at0 + x.length) (insA 10 (at0 + x.length + 1 + y.length + 1 : Nat)) = some H3 := by
      unfold leaveH
      rw [m10, g1, if_neg (by omega), if_neg (by simp [insA]), if_neg (by simp [insA]), if_pos (show (insA 10 (at0 + x.length + 1 + y.length + 1 : Nat)).op = 10 from rfl)]
      show (reachH H1 (at0 + x.length) ((at0 + x.length + 1 + y.length + 1 : Nat) : Int) (h + 1 - 1 + 0)).bind _ = _
      rw [show h + 1 - 1 + 0 = h by omega, r2]
      exact r3
    rw [s1]
    show walkS last (at0 + x.length + 1) _ H3 = _
    rw [w4, walkS, g4, if_neg (by omega)]
    have s2 : leaveH last H4 (at0 + x.length + 1 + y.length) (insA 9 (at0 + x.length + 1 + y.length + 1 + z.length : Nat)) = some H5 := by
      unfold leaveH
      rw [m9, g4, if_neg (by omega), if_neg (by simp [insA]), if_pos (show (insA 9 (at0 + x.length + 1 + y.length + 1 + z.length : Nat)).op = 9 from rfl)]
      show reachH H4 _ ((at0 + x.length + 1 + y.length + 1 + z.length : Nat) : Int) (h + 1 - 0 + 0) = _
      rw [show h + 1 - 0 + 0 = h + 1 by omega, r5]
    rw [s2]
    show walkS last (at0 + x.length + 1 + y.length + 1) _ H5 = _
    rw [w6, show at0 + (x.length + 1 + y.length + 1 + z.length) = at0 + x.length + 1 + y.length + 1 + z.length by omega]

/-- What holds of right kids. -/
theorem ckL_all (g : Cor → Nat → Int × Nat) : ∀ (l : List Cor) (n : Nat), (ckL g l n).1 = 0 → ∀ k, k ∈ l → ∃ m, (g k m).1 = 0
  | c :: r, n, h, k, hk => by
    unfold ckL at h
    by_cases e : (g c n).1 = 0
    · rw [if_pos e] at h
      rcases List.mem_cons.1 hk with rfl | hk
      · exact ⟨n, e⟩
      · exact ckL_all g r _ h k hk
    · rw [if_neg e] at h
      exact absurd h e
theorem ckC_parts {f : Nat} {ar : Int} {c : Cor} {n : Nat} (h : (ckC (f + 1) ar c n).1 = 0) : wkids c.kind c.kids.length = 0 ∧ wfields c ar = 0 ∧ ∀ k, k ∈ c.kids → ∃ m, (ckC f (if c.kind = 8 then ar + c.index else ar) k m).1 = 0 := by
  unfold ckC at h
  split at h
  · simp at h
  · split at h
    · rename_i h1
      split at h
      · rename_i h2
        exact ⟨h1, h2, ckL_all _ _ _ h⟩
      · rename_i h2
        exact absurd h h2
    · rename_i h1
      exact absurd h h1

/-- Good code: it raises the stack by one wherever it lies. -/
def Up (c : Cor) : Prop := ∀ (at0 pr : Nat) (h : Int), 0 ≤ h → SW (genC c at0 pr).1 at0 h 1 ∧ (genC c at0 pr).1 ≠ []
theorem genL_SW : ∀ (l : List Cor), (∀ c, c ∈ l → Up c) → ∀ (at0 pr : Nat) (h : Int), 0 ≤ h → SW (genL l at0 pr).1 at0 h l.length ∧ (l ≠ [] → (genL l at0 pr).1 ≠ [])
  | [], _, at0, pr, h, h0 => by rw [genL]; exact ⟨SW.nil _ _, fun a => absurd rfl a⟩
  | c :: r, hl, at0, pr, h, h0 => by
    rw [genL]
    have hc := hl c (List.mem_cons_self) at0 pr h h0
    have hr := genL_SW r (fun c m => hl c (List.mem_cons_of_mem _ m)) (at0 + (genC c at0 pr).1.length) (pr + (genC c at0 pr).2.length) (h + 1) (by omega)
    refine ⟨SW.app hc.1 hr.1 (fun e => absurd e hc.2) (fun e => ?_) (by simp only [List.length_cons]; omega), fun _ e => hc.2 (List.append_eq_nil_iff.1 e).1⟩
    by_cases hn : r = []
    · rw [hn]; rfl
    · exact absurd e (hr.2 hn)
theorem pop_SW (at0 : Nat) (h : Int) (h0 : 1 ≤ h) : SW [insO 14] at0 h (-1) := SW.one (by omega) (by simp [insO]) (by simp [insO]) (by simp [insO]) (by simp [movesI, insO]; omega) (by simp [movesI, insO])
theorem genS_SW : ∀ (l : List Cor), (∀ c, c ∈ l → Up c) → ∀ (at0 pr : Nat) (h : Int), 0 ≤ h → SW (genS l false at0 pr).1 at0 (h + 1) 0
  | [], _, at0, pr, h, h0 => by rw [genS]; exact SW.nil _ _
  | c :: r, hl, at0, pr, h, h0 => by
    rw [genS]
    simp only [Bool.false_eq_true, if_false, List.length_singleton]
    have hc := hl c (List.mem_cons_self) (at0 + 1) pr h h0
    have hr := genS_SW r (fun c m => hl c (List.mem_cons_of_mem _ m)) (at0 + 1 + (genC c (at0 + 1) pr).1.length) (pr + (genC c (at0 + 1) pr).2.length) h h0
    have h1 : SW ([insO 14] ++ (genC c (at0 + 1) pr).1) at0 (h + 1) 0 := SW.app (pop_SW at0 (h + 1) (by omega)) (by rw [show h + 1 + -1 = h by omega]; exact hc.1) (fun e => by simp at e) (fun e => absurd e hc.2) (by omega)
    refine SW.app h1 ?_ (fun e => rfl) (fun e => rfl) (by omega)
    rw [List.length_append, List.length_singleton, ← Nat.add_assoc, Int.add_zero]
    exact hr
theorem genS_up (c : Cor) (r : List Cor) (hl : ∀ x, x ∈ c :: r → Up x) (at0 pr : Nat) (h : Int) (h0 : 0 ≤ h) : SW (genS (c :: r) true at0 pr).1 at0 h 1 ∧ (genS (c :: r) true at0 pr).1 ≠ [] := by
  rw [genS]
  simp only [if_true, List.length_nil, List.nil_append, Nat.add_zero]
  have hc := hl c (List.mem_cons_self) at0 pr h h0
  have hr := genS_SW r (fun c m => hl c (List.mem_cons_of_mem _ m)) (at0 + (genC c at0 pr).1.length) (pr + (genC c at0 pr).2.length) h h0
  exact ⟨SW.app hc.1 hr (fun e => absurd e hc.2) (fun _ => rfl) (by omega), fun e => hc.2 (List.append_eq_nil_iff.1 e).1⟩

theorem up_of : ∀ (f : Nat) (ar : Int) (c : Cor) (n : Nat), (ckC f ar c n).1 = 0 → Up c
  | 0, ar, c, n, h => by simp [ckC] at h
  | f + 1, ar, c, n, h => by
    obtain ⟨h1, h2, h3⟩ := ckC_parts h
    have hk : ∀ k, k ∈ c.kids → Up k := fun k m => by obtain ⟨n', e⟩ := h3 k m; exact up_of f _ k n' e
    clear h h2 h3
    obtain ⟨k, i, nn, lb, ow, q, ks⟩ := c
    simp only at h1 hk
    intro at0 pr h h0
    rw [genC.eq_def]
    simp only
    by_cases k8 : k = 8
    · subst k8
      simp only [if_true]
      have : ks.length = 1 := by
        simp [wkids] at h1
        exact h1
      match ks, this with
      | [b], _ => exact ⟨SW.one h0 (by simp [insA]) (by simp [insA]) (by simp [insA]) (by simp [movesI, insA]; omega) (by simp [movesI, insA]), by simp⟩
    · rw [if_neg k8]
      by_cases k7 : k = 7
      · subst k7
        simp only [if_true]
        have : ks.length = 3 := by
          simp [wkids] at h1
          exact h1
        match ks, this, hk with
        | [x, y, z], _, hk =>
          have hx := hk x (by simp) at0 pr h h0
          have hy := hk y (by simp) (at0 + (genC x at0 pr).1.length + 1) (pr + (genC x at0 pr).2.length) h h0
          have hz := hk z (by simp) (at0 + (genC x at0 pr).1.length + 1 + (genC y (at0 + (genC x at0 pr).1.length + 1) (pr + (genC x at0 pr).2.length)).1.length + 1) (pr + (genC x at0 pr).2.length + (genC y (at0 + (genC x at0 pr).1.length + 1) (pr + (genC x at0 pr).2.length)).2.length) h h0
          exact ⟨SW.ifs h0 hx.1 hx.2 hy.1 hy.2 hz.1 hz.2, by simp⟩
      · rw [if_neg k7]
        by_cases k12 : k = 12
        · subst k12
          simp only [if_true]
          rcases ks with _ | ⟨x, r⟩
          · simp [wkids] at h1
          · exact genS_up x r hk at0 pr h h0
        · rw [if_neg k12]
          have hl := genL_SW ks hk at0 pr h h0
          refine ⟨SW.app hl.1 (m2 := 1 - (ks.length : Int)) ?_ (fun e => ?_) (fun e => by simp at e) (by omega), by simp⟩
          · have hm : movesI (lastI ⟨k, i, nn, lb, ow, q, ks⟩) = ((ks.length : Int), 1) ∧ (lastI ⟨k, i, nn, lb, ow, q, ks⟩).op ≠ 9 ∧ (lastI ⟨k, i, nn, lb, ow, q, ks⟩).op ≠ 10 ∧ (lastI ⟨k, i, nn, lb, ow, q, ks⟩).op ≠ 15 := by
              have kk : k = 1 ∨ k = 2 ∨ k = 3 ∨ k = 4 ∨ k = 5 ∨ k = 6 ∨ k = 9 ∨ k = 10 ∨ k = 11 ∨ k = 13 := by
                unfold wkids at h1
                (repeat' split at h1) <;> omega
              rcases kk with rfl | rfl | rfl | rfl | rfl | rfl | rfl | rfl | rfl | rfl <;> simp [wkids] at h1 <;> simp [lastI, insN, insO, insA, insG, movesI, h1]
            exact SW.one (by omega) hm.2.1 hm.2.2.1 hm.2.2.2 (by rw [hm.1]; show (ks.length : Int) ≤ h + ks.length; omega) (by rw [hm.1])
          · by_cases hn : ks = []
            · rw [hn]; rfl
            · exact absurd e (hl.2 hn)
end
end Go.Proofs.YthikdpclifeonaaGreatDoor
