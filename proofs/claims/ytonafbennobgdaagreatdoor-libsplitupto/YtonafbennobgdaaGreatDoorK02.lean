/- How a text is read: plain. How a text is read: what a reading moves on by. -/
import Derived.Lib.Bytealg
import Derived.Test.YtonafbennobgdaaGreatDoorK01
namespace Go.Proofs.YtonafbennobgdaaGreatDoor
section
set_option linter.unusedVariables false
set_option linter.unusedSimpArgs false

/-- Whether a byte is skipped, behind which a comment goes on or not. -/
def noted (c : UInt8) (note : Bool) : Bool := if c = 59 then true else if c = 10 then false else note
def isBlank (c : UInt8) : Bool := decide (c = 32) || decide (c = 9) || decide (c = 10)

/-- How many bytes are blanks, and comments. -/
def skipL : List UInt8 → Bool → Nat
  | [], _ => 0
  | c :: r, note => if noted c note || isBlank c then skipL r (noted c note) + 1 else 0

/-- How many bytes a line has from here. -/
def lineL (l : List UInt8) : Nat := (l.takeWhile fun c => c ≠ 10).length

def byteL (l : List UInt8) : List UInt8 := l.takeWhile fun c => letB (c.toNat : Int)

/-- The digits' number. -/
def digN (l : List UInt8) : Nat := l.foldl (fun n c => 10 * n + (c.toNat - 48)) 0
def numOf (l : List UInt8) : Int := if l.head? = some 45 then -((digN l.tail : Nat) : Int) else ((digN l : Nat) : Int)

def datNum (n : Int) : Dat := ⟨1, n, ⟨#[]⟩, 0, 0, []⟩
def datBool (n : Int) : Dat := ⟨2, n, ⟨#[]⟩, 0, 0, []⟩
def datSym (l : List UInt8) : Dat := ⟨3, 0, ⟨l.toArray⟩, 0, 0, []⟩
def datList (ks : List Dat) : Dat := ⟨4, 0, ⟨#[]⟩, 0, 0, ks⟩
def datQuote (d : Dat) : Dat := datList [datSym [113, 117, 111, 116, 101], d]

/-- What a reading comes to: a fault, or what was read, where it goes on, how many nodes there are. -/
abbrev Rd (α : Type) := Sum (Int × Int) (α × Nat × Nat)

/-- A word that begins at i. -/
def wordAt (w : List UInt8) (i n : Nat) : Rd Dat :=
  if looksB w then
    (if 17 < w.length then .inl (3, (i : Int)) else if rangeB (numOf w) then .inr (datNum (numOf w), i + w.length, n) else .inl (3, (i : Int)))
  else if 20 < w.length then .inl (7, (i : Int)) else .inr (datSym w, i + w.length, n)

/-- Data up to a bracket. -/
def items (g : Nat → Nat → Rd Dat) (l : List UInt8) : Nat → Nat → Nat → Rd (List Dat)
  | 0, i, n => .inl (2, (i : Int))
  | k + 1, i0, n =>
    let i := i0 + skipL (l.drop i0) false
    match l[i]? with
    | none => .inl (2, (i : Int))
    | some c =>
      if c = 41 then .inr ([], i + 1, n)
      else match g i n with
        | .inl e => .inl e
        | .inr (d, j, m) =>
          match items g l k j m with
          | .inl e => .inl e
          | .inr (ds, j', m') => .inr (d :: ds, j', m')

/-- A datum that begins at i, f levels left, behind n nodes. -/
def one (l : List UInt8) : Nat → Nat → Nat → Rd Dat
  | 0, i, n => .inl (4, (i : Int))
  | f + 1, i, n =>
    if 2000 < n + 1 then .inl (4, (i : Int))
    else match l[i]? with
      | none => .inl (2, (i : Int))
      | some c =>
        if c = 40 then
          match items (one l f) l (l.length + 1) (i + 1) (n + 1) with
          | .inl e => .inl e
          | .inr (ds, j, m) => .inr (datList ds, j, m)
        else if c = 39 then
          (if f = 0 ∨ 2000 < n + 2 then .inl (4, (i : Int))
          else match one l f (i + 1 + skipL (l.drop (i + 1)) false) (n + 2) with
            | .inl e => .inl e
            | .inr (d, j, m) => .inr (datQuote d, j, m))
        else if c = 35 then
          (if byteL (l.drop (i + 1)) = [116] then .inr (datBool 1, i + 2, n + 1)
          else if byteL (l.drop (i + 1)) = [102] then .inr (datBool 0, i + 2, n + 1)
          else .inl (2, (i : Int)))
        else if letB (c.toNat : Int) then wordAt (byteL (l.drop i)) i (n + 1)
        else .inl (2, (i : Int))

/-- All data from i on. -/
def alls (l : List UInt8) : Nat → Nat → Nat → Rd (List Dat)
  | 0, i, n => .inr ([], i, n)
  | k + 1, i0, n =>
    let i := i0 + skipL (l.drop i0) false
    if l.length ≤ i then .inr ([], i, n)
    else match one l 40 i n with
      | .inl e => .inl e
      | .inr (d, j, m) =>
        match alls l k j m with
        | .inl e => .inl e
        | .inr (ds, j', m') => .inr (d :: ds, j', m')

/-- What a text is. -/
def readL (l : List UInt8) : Sum (Int × Int) (List Dat) :=
  if 6000 < l.length then .inl (4, 0) else match alls l (l.length + 1) 0 0 with
    | .inl e => .inl e
    | .inr (ds, _, _) => .inr ds

theorem skipL_le : ∀ (l : List UInt8) (b : Bool), skipL l b ≤ l.length
  | [], _ => Nat.le_refl _
  | c :: r, b => by
    unfold skipL
    split
    · have := skipL_le r (noted c b); simp; omega
    · exact Nat.zero_le _

/-- A comment goes on to its line's end. -/
theorem skipL_note : ∀ (l : List UInt8), skipL l true = lineL l + skipL (l.drop (lineL l)) false
  | [] => rfl
  | c :: r => by
    by_cases h : c = 10
    · subst h
      simp [lineL, skipL, noted, isBlank]
    · have e1 : noted c true = true := by unfold noted; split <;> simp [h]
      have e2 : lineL (c :: r) = lineL r + 1 := by simp [lineL, h]
      rw [e2]
      show (if noted c true || isBlank c then skipL r (noted c true) + 1 else 0) = _
      rw [e1, Bool.true_or, if_pos rfl, skipL_note r]
      simp
      omega

theorem skipL_semi (r : List UInt8) : skipL (59 :: r) false = lineL (59 :: r) + skipL ((59 :: r).drop (lineL (59 :: r))) false := by
  have e : skipL (59 :: r) false = skipL (59 :: r) true := by simp [skipL, noted]
  rw [e]
  exact skipL_note (59 :: r)

theorem drop_cons {l : List UInt8} {i : Nat} {c : UInt8} (h : l[i]? = some c) : l.drop i = c :: l.drop (i + 1) := by
  obtain ⟨hi, e⟩ := List.getElem?_eq_some_iff.1 h
  rw [List.drop_eq_getElem_cons hi, e]

theorem skip_blank {l : List UInt8} {i : Nat} {c : UInt8} (h : l[i]? = some c) (hb : isBlank c = true) : i + skipL (l.drop i) false = (i + 1) + skipL (l.drop (i + 1)) false := by
  rw [drop_cons h]
  have h59 : ¬ c = 59 := by
    intro e
    subst e
    exact absurd hb (by decide)
  have e1 : noted c false = false := by
    unfold noted
    rw [if_neg h59]
    split <;> rfl
  show i + (if noted c false || isBlank c then skipL (l.drop (i + 1)) (noted c false) + 1 else 0) = _
  rw [hb, Bool.or_true, if_pos rfl, e1]
  omega

theorem skip_semi {l : List UInt8} {i : Nat} (h : l[i]? = some 59) : i + skipL (l.drop i) false = (i + lineL (l.drop i)) + skipL (l.drop (i + lineL (l.drop i))) false := by
  have e := skipL_semi (l.drop (i + 1))
  rw [← drop_cons h, List.drop_drop] at e
  omega

theorem skip_stop {l : List UInt8} {i : Nat} {c : UInt8} (h : l[i]? = some c) (hb : isBlank c = false) (h59 : c ≠ 59) : skipL (l.drop i) false = 0 := by
  rw [drop_cons h]
  have e1 : noted c false = false := by
    unfold noted
    rw [if_neg h59]
    split <;> rfl
  show (if noted c false || isBlank c then skipL (l.drop (i + 1)) (noted c false) + 1 else 0) = 0
  rw [hb, e1]
  rfl

theorem skip_end {l : List UInt8} {i : Nat} (h : l.length ≤ i) : skipL (l.drop i) false = 0 := by
  rw [List.drop_of_length_le h]
  rfl

theorem skip_le (l : List UInt8) (i : Nat) (h : i ≤ l.length) : i + skipL (l.drop i) false ≤ l.length := by
  have := skipL_le (l.drop i) false
  simp at this
  omega

theorem line_le (l : List UInt8) : lineL l ≤ l.length := (List.takeWhile_prefix _).length_le

theorem line_index : ∀ (l : List UInt8), (Lib.indexByte l 10 = -1 → lineL l = l.length) ∧ (0 ≤ Lib.indexByte l 10 → Lib.indexByte l 10 = (lineL l : Int)) ∧ -1 ≤ Lib.indexByte l 10
  | [] => ⟨fun _ => rfl, fun h => absurd h (by decide), by decide⟩
  | c :: r => by
    obtain ⟨h1, h2, h3⟩ := line_index r
    unfold Lib.indexByte
    by_cases e : c = 10
    · subst e
      refine ⟨?_, ?_, ?_⟩
      · intro h; simp at h
      · intro _; simp [lineL]
      · simp
    · have e2 : lineL (c :: r) = lineL r + 1 := by simp [lineL, e]
      have e3 : (c == 10) = false := by simpa using e
      rw [e3, e2]
      by_cases g : Lib.indexByte r 10 = -1
      · have := h1 g
        rw [g]
        refine ⟨fun _ => by simp [this], fun h => absurd h (by decide), by decide⟩
      · have g' : (Lib.indexByte r 10 == -1) = false := by simpa using g
        have := h2 (by omega)
        rw [g']
        simp only [Bool.false_eq_true, if_false]
        refine ⟨fun h => by omega, fun _ => by omega, by omega⟩
end
section
set_option linter.unusedVariables false
set_option linter.unusedSimpArgs false

theorem byteL_le (l : List UInt8) : (byteL l).length ≤ l.length := (List.takeWhile_prefix _).length_le

/-- What is right of a datum that was read. -/
structure Went (l : List UInt8) (i n j m : Nat) (d : Dat) : Prop where
  on : i < j
  upto : j ≤ l.length
  more : n + 1 ≤ m
  much : m ≤ 2000
  name : d.name.size ≤ 20

structure WentL (l : List UInt8) (i n j m : Nat) (ds : List Dat) : Prop where
  on : i < j
  upto : j ≤ l.length
  more : n + ds.length ≤ m
  much : m ≤ 2000

theorem items_went (g : Nat → Nat → Rd Dat) (l : List UInt8) (hg : ∀ i n d j m, i ≤ l.length → n ≤ 2000 → g i n = .inr (d, j, m) → Went l i n j m d) :
    ∀ (k i n : Nat) (ds : List Dat) (j m : Nat), i ≤ l.length → n ≤ 2000 → items g l k i n = .inr (ds, j, m) → WentL l i n j m ds
  | 0, i, n, ds, j, m, hi, hn, h => by simp [items] at h
  | k + 1, i, n, ds, j, m, hi, hn, h => by
    unfold items at h
    simp only at h
    have hs := skip_le l i hi
    generalize hp : i + skipL (l.drop i) false = p at h hs
    have hip : i ≤ p := by omega
    cases hc : l[p]? with
    | none => rw [hc] at h; simp at h
    | some c =>
      rw [hc] at h
      simp only at h
      have hlt := (List.getElem?_eq_some_iff.1 hc).1
      by_cases h41 : c = 41
      · rw [if_pos h41] at h
        simp at h
        obtain ⟨rfl, rfl, rfl⟩ := h
        exact ⟨by omega, by omega, by simp, hn⟩
      · rw [if_neg h41] at h
        cases hgg : g p n with
        | inl e => rw [hgg] at h; simp at h
        | inr x =>
          obtain ⟨d, j1, m1⟩ := x
          rw [hgg] at h
          simp only at h
          have hw := hg p n d j1 m1 hs hn hgg
          cases hii : items g l k j1 m1 with
          | inl e => rw [hii] at h; simp at h
          | inr y =>
            obtain ⟨ds2, j2, m2⟩ := y
            rw [hii] at h
            simp at h
            obtain ⟨rfl, rfl, rfl⟩ := h
            have hw2 := items_went g l hg k j1 m1 ds2 j2 m2 hw.upto hw.much hii
            have := hw.on
            have := hw.more
            have := hw2.on
            have := hw2.more
            exact ⟨by omega, hw2.upto, by simp; omega, hw2.much⟩

theorem word_went {l : List UInt8} {i n : Nat} {c : UInt8} {d : Dat} {j m : Nat} (hc : l[i]? = some c) (hl : letB (c.toNat : Int) = true) (hn : n + 1 ≤ 2000) (h : wordAt (byteL (l.drop i)) i (n + 1) = .inr (d, j, m)) : Went l i n j m d := by
  have hle := byteL_le (l.drop i)
  rw [List.length_drop] at hle
  have hlt := (List.getElem?_eq_some_iff.1 hc).1
  have hpos : 1 ≤ (byteL (l.drop i)).length := by
    rw [drop_cons hc]
    simp [byteL, hl]
  unfold wordAt at h
  split at h
  · split at h
    · simp at h
    · split at h
      · simp at h
        obtain ⟨rfl, rfl, rfl⟩ := h
        exact ⟨by omega, by omega, by omega, hn, by show (0 : Nat) ≤ 20; omega⟩
      · simp at h
  · split at h
    · simp at h
    · rename_i h20
      simp at h
      obtain ⟨rfl, rfl, rfl⟩ := h
      refine ⟨by omega, by omega, by omega, hn, ?_⟩
      show (byteL (l.drop i)).toArray.size ≤ 20
      rw [List.size_toArray]
      omega

theorem one_went (l : List UInt8) : ∀ (f i n : Nat) (d : Dat) (j m : Nat), i ≤ l.length → n ≤ 2000 → one l f i n = .inr (d, j, m) → Went l i n j m d
  | 0, i, n, d, j, m, _, _, h => by simp [one] at h
  | f + 1, i, n, d, j, m, hi, hn, h => by
    unfold one at h
    by_cases h2 : 2000 < n + 1
    · rw [if_pos h2] at h; simp at h
    · rw [if_neg h2] at h
      cases hc : l[i]? with
      | none => rw [hc] at h; simp at h
      | some c =>
        rw [hc] at h
        simp only at h
        have hlt := (List.getElem?_eq_some_iff.1 hc).1
        by_cases c40 : c = 40
        · rw [if_pos c40] at h
          cases hit : items (one l f) l (l.length + 1) (i + 1) (n + 1) with
          | inl e => rw [hit] at h; simp at h
          | inr y =>
            obtain ⟨ds, j2, m2⟩ := y
            rw [hit] at h
            simp at h
            obtain ⟨rfl, rfl, rfl⟩ := h
            have hw := items_went (one l f) l (one_went l f) _ _ _ ds j2 m2 (by omega) (by omega) hit
            have := hw.on
            have := hw.more
            exact ⟨by omega, hw.upto, by omega, hw.much, by show (0 : Nat) ≤ 20; omega⟩
        · rw [if_neg c40] at h
          by_cases c39 : c = 39
          · rw [if_pos c39] at h
            by_cases hq : f = 0 ∨ 2000 < n + 2
            · rw [if_pos hq] at h; simp at h
            · rw [if_neg hq] at h
              cases ho : one l f (i + 1 + skipL (l.drop (i + 1)) false) (n + 2) with
              | inl e => rw [ho] at h; simp at h
              | inr y =>
                obtain ⟨d2, j2, m2⟩ := y
                rw [ho] at h
                simp at h
                obtain ⟨rfl, rfl, rfl⟩ := h
                have hs := skip_le l (i + 1) (by omega)
                have hw := one_went l f _ _ d2 j2 m2 hs (by omega) ho
                have := hw.on
                have := hw.more
                exact ⟨by omega, hw.upto, by omega, hw.much, by show (0 : Nat) ≤ 20; omega⟩
          · rw [if_neg c39] at h
            by_cases c35 : c = 35
            · rw [if_pos c35] at h
              have hb : ∀ x, byteL (l.drop (i + 1)) = [x] → i + 2 ≤ l.length := by
                intro x hx
                have h1 := byteL_le (l.drop (i + 1))
                rw [hx, List.length_drop] at h1
                simp at h1
                omega
              by_cases t1 : byteL (l.drop (i + 1)) = [116]
              · rw [if_pos t1] at h
                simp at h
                obtain ⟨rfl, rfl, rfl⟩ := h
                exact ⟨by omega, hb _ t1, by omega, by omega, by show (0 : Nat) ≤ 20; omega⟩
              · rw [if_neg t1] at h
                by_cases t2 : byteL (l.drop (i + 1)) = [102]
                · rw [if_pos t2] at h
                  simp at h
                  obtain ⟨rfl, rfl, rfl⟩ := h
                  exact ⟨by omega, hb _ t2, by omega, by omega, by show (0 : Nat) ≤ 20; omega⟩
                · rw [if_neg t2] at h; simp at h
            · rw [if_neg c35] at h
              by_cases hl : letB (c.toNat : Int) = true
              · rw [if_pos hl] at h
                exact word_went hc hl (by omega) h
              · rw [if_neg hl] at h; simp at h
end
end Go.Proofs.YtonafbennobgdaaGreatDoor
