/- The plain mathematics of chapter 1's data: what is a letter, a name, what is wrong with data, how they are written. -/
import Derived.Test.YtonafbennobgdaaGreatDoorProg
import Derived.WalkKit
namespace Go.Proofs.YtonafbennobgdaaGreatDoor
set_option linter.unusedVariables false
set_option linter.unusedSimpArgs false
open Go.RowKit
structure Dat where
 kind : Int
 n : Int
 name : ByteArray
 stamp : Int
 lib : Int
 kids : List Dat
def digB (c : Int) : Bool := decide (48 ≤ c) && decide (c ≤ 57)
def letTab : List Int := [97, 98, 99, 100, 101, 102, 103, 104, 105, 106, 107, 108, 109, 110, 111, 112, 113, 114, 115, 116, 117, 118, 119, 120, 121, 122, 48, 49, 50, 51, 52, 53, 54, 55, 56, 57, 33, 63, 42, 43, 45, 47, 60, 61, 62, 95, 46]
def letB (c : Int) : Bool := letTab.any fun x => x == c
def unsign (l : List UInt8) : List UInt8 := if l.head? = some 45 then l.tail else l
def allDig (l : List UInt8) : Bool := l.all fun c => digB (c.toNat : Int)
def allLet (l : List UInt8) : Bool := l.all fun c => letB (c.toNat : Int)
def looksB (l : List UInt8) : Bool := allDig (unsign l) && !(unsign l).isEmpty
def namedB (s : ByteArray) : Bool := decide (0 < s.size) && decide (s.size ≤ 20) && allLet s.data.toList && !looksB s.data.toList
def rangeB (n : Int) : Bool := decide (-1000000000000000 ≤ n) && decide (n ≤ 1000000000000000)
def alone (d : Dat) : Int :=
 if d.kind = 1 then (if rangeB d.n then 0 else 3)
 else if d.kind = 2 then (if d.n = 0 ∨ d.n = 1 then 0 else 3)
 else if d.kind = 3 then (if namedB d.name then (if d.stamp = 0 ∧ d.lib = 0 then 0 else 8) else 7)
 else if d.kind = 4 then 0 else 1
def chkL (g : Dat → Nat → Int × Nat) : List Dat → Nat → Int × Nat
 | [], n => (0, n)
 | d :: r, n => if (g d n).1 = 0 then chkL g r (g d n).2 else g d n
def chk : Nat → Dat → Nat → Int × Nat
 | 0, _, n => (4, n + 1)
 | f + 1, d, n => if 2000 < n + 1 then (4, n + 1) else if alone d = 0 then (if d.kind = 4 then chkL (chk f) d.kids (n + 1) else (0, n + 1)) else (alone d, n + 1)
def wrongFrom : List Dat → Nat → Nat → Int × Int
 | [], _, _ => (0, 0)
 | d :: r, i, n => if (chk 40 d n).1 = 0 then wrongFrom r (i + 1) (chk 40 d n).2 else ((chk 40 d n).1, i)
def wrong (l : List Dat) : Int × Int := wrongFrom l 0 0
theorem chkL_le (g : Dat → Nat → Int × Nat) (hg : ∀ d n, n ≤ 2000 → (g d n).1 = 0 → (g d n).2 ≤ 2000) : ∀ (l : List Dat) (n : Nat), n ≤ 2000 → (chkL g l n).1 = 0 → (chkL g l n).2 ≤ 2000
 | [], n, h, _ => h
 | d :: r, n, h, h0 => by
  unfold chkL at h0 ⊢
  by_cases e : (g d n).1 = 0
  ·rw [if_pos e] at h0 ⊢
   exact chkL_le g hg r _ (hg d n h e) h0
  rw [if_neg e] at h0
  exact absurd h0 e
theorem chk_le : ∀ (f : Nat) (d : Dat) (n : Nat), n ≤ 2000 → (chk f d n).1 = 0 → (chk f d n).2 ≤ 2000
 | 0, d, n, _, h0 => by simp [chk] at h0
 | f + 1, d, n, h, h0 => by
  unfold chk at h0 ⊢
  by_cases a : 2000 < n + 1
  ·rw [if_pos a] at h0; simp at h0
  rw [if_neg a] at h0 ⊢
  by_cases b : alone d = 0
  ·rw [if_pos b] at h0 ⊢
   by_cases c : d.kind = 4
   ·rw [if_pos c] at h0 ⊢
    exact chkL_le _ (chk_le f) _ _ (by omega) h0
   rw [if_neg c]; simp; omega
  rw [if_neg b] at h0
  exact absurd h0 b
end Go.Proofs.YtonafbennobgdaaGreatDoor
