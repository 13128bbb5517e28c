/- How a text is read: plain. -/
import Derived.Test.YtagpcafbeplccaaDoorPlain
import Derived.Lib.Bytealg
namespace Go.Proofs.YtagpcafbeplccaaDoor
set_option linter.unusedVariables false
set_option linter.unusedSimpArgs false

/-- Whether a byte is skipped, behind which a comment goes on or not. -/
def noted (c : UInt8) (note : Bool) : Bool := if c = 59 then true else if c = 10 then false else note
def isBlank (c : UInt8) : Bool := decide (c = 32) || decide (c = 9) || decide (c = 10)

/-- How many bytes are blanks, and comments. -/
def skipL : List UInt8 → Bool → Nat
  | [], _ => 0
  | c :: r, note => if noted c note || isBlank c then skipL r (noted c note) + 1 else 0

/-- How many bytes a line has from here. -/
def lineL (l : List UInt8) : Nat := (l.takeWhile fun c => c ≠ 10).length

def byteL (l : List UInt8) : List UInt8 := l.takeWhile fun c => letB (c.toNat : Int)

/-- The digits' number. -/
def digN (l : List UInt8) : Nat := l.foldl (fun n c => 10 * n + (c.toNat - 48)) 0
def numOf (l : List UInt8) : Int := if l.head? = some 45 then -((digN l.tail : Nat) : Int) else ((digN l : Nat) : Int)

def datNum (n : Int) : Dat := ⟨1, n, ⟨#[]⟩, 0, 0, []⟩
def datBool (n : Int) : Dat := ⟨2, n, ⟨#[]⟩, 0, 0, []⟩
def datSym (l : List UInt8) : Dat := ⟨3, 0, ⟨l.toArray⟩, 0, 0, []⟩
def datList (ks : List Dat) : Dat := ⟨4, 0, ⟨#[]⟩, 0, 0, ks⟩
def datQuote (d : Dat) : Dat := datList [datSym [113, 117, 111, 116, 101], d]

/-- What a reading comes to: a fault, or what was read, where it goes on, how many nodes there are. -/
abbrev Rd (α : Type) := Sum (Int × Int) (α × Nat × Nat)

/-- A word that begins at i. -/
def wordAt (w : List UInt8) (i n : Nat) : Rd Dat :=
  if looksB w then
    (if 17 < w.length then .inl (3, (i : Int)) else if rangeB (numOf w) then .inr (datNum (numOf w), i + w.length, n) else .inl (3, (i : Int)))
  else if 20 < w.length then .inl (7, (i : Int)) else .inr (datSym w, i + w.length, n)

/-- Data up to a bracket. -/
def items (g : Nat → Nat → Rd Dat) (l : List UInt8) : Nat → Nat → Nat → Rd (List Dat)
  | 0, i, n => .inl (2, (i : Int))
  | k + 1, i0, n =>
    let i := i0 + skipL (l.drop i0) false
    match l[i]? with
    | none => .inl (2, (i : Int))
    | some c =>
      if c = 41 then .inr ([], i + 1, n)
      else match g i n with
        | .inl e => .inl e
        | .inr (d, j, m) =>
          match items g l k j m with
          | .inl e => .inl e
          | .inr (ds, j', m') => .inr (d :: ds, j', m')

/-- A datum that begins at i, f levels left, behind n nodes. -/
def one (l : List UInt8) : Nat → Nat → Nat → Rd Dat
  | 0, i, n => .inl (4, (i : Int))
  | f + 1, i, n =>
    if 2000 < n + 1 then .inl (4, (i : Int))
    else match l[i]? with
      | none => .inl (2, (i : Int))
      | some c =>
        if c = 40 then
          match items (one l f) l (l.length + 1) (i + 1) (n + 1) with
          | .inl e => .inl e
          | .inr (ds, j, m) => .inr (datList ds, j, m)
        else if c = 39 then
          (if f = 0 ∨ 2000 < n + 2 then .inl (4, (i : Int))
          else match one l f (i + 1 + skipL (l.drop (i + 1)) false) (n + 2) with
            | .inl e => .inl e
            | .inr (d, j, m) => .inr (datQuote d, j, m))
        else if c = 35 then
          (if byteL (l.drop (i + 1)) = [116] then .inr (datBool 1, i + 2, n + 1)
          else if byteL (l.drop (i + 1)) = [102] then .inr (datBool 0, i + 2, n + 1)
          else .inl (2, (i : Int)))
        else if letB (c.toNat : Int) then wordAt (byteL (l.drop i)) i (n + 1)
        else .inl (2, (i : Int))

/-- All data from i on. -/
def alls (l : List UInt8) : Nat → Nat → Nat → Rd (List Dat)
  | 0, i, n => .inr ([], i, n)
  | k + 1, i0, n =>
    let i := i0 + skipL (l.drop i0) false
    if l.length ≤ i then .inr ([], i, n)
    else match one l 40 i n with
      | .inl e => .inl e
      | .inr (d, j, m) =>
        match alls l k j m with
        | .inl e => .inl e
        | .inr (ds, j', m') => .inr (d :: ds, j', m')

/-- What a text is. -/
def readL (l : List UInt8) : Sum (Int × Int) (List Dat) :=
  if 6000 < l.length then .inl (4, 0) else match alls l (l.length + 1) 0 0 with
    | .inl e => .inl e
    | .inr (ds, _, _) => .inr ds

theorem skipL_le : ∀ (l : List UInt8) (b : Bool), skipL l b ≤ l.length
  | [], _ => Nat.le_refl _
  | c :: r, b => by
    unfold skipL
    split
    · have := skipL_le r (noted c b); simp; omega
    · exact Nat.zero_le _

/-- A comment goes on to its line's end. -/
theorem skipL_note : ∀ (l : List UInt8), skipL l true = lineL l + skipL (l.drop (lineL l)) false
  | [] => rfl
  | c :: r => by
    by_cases h : c = 10
    · subst h
      simp [lineL, skipL, noted, isBlank]
    · have e1 : noted c true = true := by unfold noted; split <;> simp [h]
      have e2 : lineL (c :: r) = lineL r + 1 := by simp [lineL, h]
      rw [e2]
      show (if noted c true || isBlank c then skipL r (noted c true) + 1 else 0) = _
      rw [e1, Bool.true_or, if_pos rfl, skipL_note r]
      simp
      omega

theorem skipL_semi (r : List UInt8) : skipL (59 :: r) false = lineL (59 :: r) + skipL ((59 :: r).drop (lineL (59 :: r))) false := by
  have e : skipL (59 :: r) false = skipL (59 :: r) true := by simp [skipL, noted]
  rw [e]
  exact skipL_note (59 :: r)

theorem drop_cons {l : List UInt8} {i : Nat} {c : UInt8} (h : l[i]? = some c) : l.drop i = c :: l.drop (i + 1) := by
  obtain ⟨hi, e⟩ := List.getElem?_eq_some_iff.1 h
  rw [List.drop_eq_getElem_cons hi, e]

theorem skip_blank {l : List UInt8} {i : Nat} {c : UInt8} (h : l[i]? = some c) (hb : isBlank c = true) : i + skipL (l.drop i) false = (i + 1) + skipL (l.drop (i + 1)) false := by
  rw [drop_cons h]
  have h59 : ¬ c = 59 := by
    intro e
    subst e
    exact absurd hb (by decide)
  have e1 : noted c false = false := by
    unfold noted
    rw [if_neg h59]
    split <;> rfl
  show i + (if noted c false || isBlank c then skipL (l.drop (i + 1)) (noted c false) + 1 else 0) = _
  rw [hb, Bool.or_true, if_pos rfl, e1]
  omega

theorem skip_semi {l : List UInt8} {i : Nat} (h : l[i]? = some 59) : i + skipL (l.drop i) false = (i + lineL (l.drop i)) + skipL (l.drop (i + lineL (l.drop i))) false := by
  have e := skipL_semi (l.drop (i + 1))
  rw [← drop_cons h, List.drop_drop] at e
  omega

theorem skip_stop {l : List UInt8} {i : Nat} {c : UInt8} (h : l[i]? = some c) (hb : isBlank c = false) (h59 : c ≠ 59) : skipL (l.drop i) false = 0 := by
  rw [drop_cons h]
  have e1 : noted c false = false := by
    unfold noted
    rw [if_neg h59]
    split <;> rfl
  show (if noted c false || isBlank c then skipL (l.drop (i + 1)) (noted c false) + 1 else 0) = 0
  rw [hb, e1]
  rfl

theorem skip_end {l : List UInt8} {i : Nat} (h : l.length ≤ i) : skipL (l.drop i) false = 0 := by
  rw [List.drop_of_length_le h]
  rfl

theorem skip_le (l : List UInt8) (i : Nat) (h : i ≤ l.length) : i + skipL (l.drop i) false ≤ l.length := by
  have := skipL_le (l.drop i) false
  simp at this
  omega

theorem line_le (l : List UInt8) : lineL l ≤ l.length := (List.takeWhile_prefix _).length_le

theorem line_index : ∀ (l : List UInt8), (Lib.indexByte l 10 = -1 → lineL l = l.length) ∧ (0 ≤ Lib.indexByte l 10 → Lib.indexByte l 10 = (lineL l : Int)) ∧ -1 ≤ Lib.indexByte l 10
  | [] => ⟨fun _ => rfl, fun h => absurd h (by decide), by decide⟩
  | c :: r => by
    obtain ⟨h1, h2, h3⟩ := line_index r
    unfold Lib.indexByte
    by_cases e : c = 10
    · subst e
      refine ⟨?_, ?_, ?_⟩
      · intro h; simp at h
      · intro _; simp [lineL]
      · simp
    · have e2 : lineL (c :: r) = lineL r + 1 := by simp [lineL, e]
      have e3 : (c == 10) = false := by simpa using e
      rw [e3, e2]
      by_cases g : Lib.indexByte r 10 = -1
      · have := h1 g
        rw [g]
        refine ⟨fun _ => by simp [this], fun h => absurd h (by decide), by decide⟩
      · have g' : (Lib.indexByte r 10 == -1) = false := by simpa using g
        have := h2 (by omega)
        rw [g']
        simp only [Bool.false_eq_true, if_false]
        refine ⟨fun h => by omega, fun _ => by omega, by omega⟩

end Go.Proofs.YtagpcafbeplccaaDoor
