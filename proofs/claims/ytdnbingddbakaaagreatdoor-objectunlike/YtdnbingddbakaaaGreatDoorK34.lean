/- How a text is read: plain. How a text is read: what a reading moves on by. A text within another: what is read of it is read there. Two texts are one; blanks and notes say nothing: plain. -/
import Derived.Lib.Bytealg
import Derived.Test.YtdnbingddbakaaaGreatDoorK01
namespace Go.Proofs.YtdnbingddbakaaaGreatDoor
section
set_option linter.unusedVariables false
set_option linter.unusedSimpArgs false

/-- Whether a byte is skipped, behind which a comment goes on or not. -/
def noted (c : UInt8) (note : Bool) : Bool := if c = 59 then true else if c = 10 then false else note
def isBlank (c : UInt8) : Bool := decide (c = 32) || decide (c = 9) || decide (c = 10)

/-- How many bytes are blanks, and comments. -/
def skipL : List UInt8 → Bool → Nat
  | [], _ => 0
  | c :: r, note => if noted c note || isBlank c then skipL r (noted c note) + 1 else 0

/-- How many bytes a line has from here. -/
def lineL (l : List UInt8) : Nat := (l.takeWhile fun c => c ≠ 10).length

def byteL (l : List UInt8) : List UInt8 := l.takeWhile fun c => letB (c.toNat : Int)

/-- The digits' number. -/
def digN (l : List UInt8) : Nat := l.foldl (fun n c => 10 * n + (c.toNat - 48)) 0
def numOf (l : List UInt8) : Int := if l.head? = some 45 then -((digN l.tail : Nat) : Int) else ((digN l : Nat) : Int)

def datNum (n : Int) : Dat := ⟨1, n, ⟨#[]⟩, 0, 0, []⟩
def datBool (n : Int) : Dat := ⟨2, n, ⟨#[]⟩, 0, 0, []⟩
def datSym (l : List UInt8) : Dat := ⟨3, 0, ⟨l.toArray⟩, 0, 0, []⟩
def datList (ks : List Dat) : Dat := ⟨4, 0, ⟨#[]⟩, 0, 0, ks⟩
def datQuote (d : Dat) : Dat := datList [datSym [113, 117, 111, 116, 101], d]

/-- What a reading comes to: a fault, or what was read, where it goes on, how many nodes there are. -/
abbrev Rd (α : Type) := Sum (Int × Int) (α × Nat × Nat)

/-- A word that begins at i. -/
def wordAt (w : List UInt8) (i n : Nat) : Rd Dat :=
  if looksB w then
    (if 17 < w.length then .inl (3, (i : Int)) else if rangeB (numOf w) then .inr (datNum (numOf w), i + w.length, n) else .inl (3, (i : Int)))
  else if 20 < w.length then .inl (7, (i : Int)) else .inr (datSym w, i + w.length, n)

/-- Data up to a bracket. -/
def items (g : Nat → Nat → Rd Dat) (l : List UInt8) : Nat → Nat → Nat → Rd (List Dat)
  | 0, i, n => .inl (2, (i : Int))
  | k + 1, i0, n =>
    let i := i0 + skipL (l.drop i0) false
    match l[i]? with
    | none => .inl (2, (i : Int))
    | some c =>
      if c = 41 then .inr ([], i + 1, n)
      else match g i n with
        | .inl e => .inl e
        | .inr (d, j, m) =>
          match items g l k j m with
          | .inl e => .inl e
          | .inr (ds, j', m') => .inr (d :: ds, j', m')

/-- A datum that begins at i, f levels left, behind n nodes. -/
def one (l : List UInt8) : Nat → Nat → Nat → Rd Dat
  | 0, i, n => .inl (4, (i : Int))
  | f + 1, i, n =>
    if 2000 < n + 1 then .inl (4, (i : Int))
    else match l[i]? with
      | none => .inl (2, (i : Int))
      | some c =>
        if c = 40 then
          match items (one l f) l (l.length + 1) (i + 1) (n + 1) with
          | .inl e => .inl e
          | .inr (ds, j, m) => .inr (datList ds, j, m)
        else if c = 39 then
          (if f = 0 ∨ 2000 < n + 2 then .inl (4, (i : Int))
          else match one l f (i + 1 + skipL (l.drop (i + 1)) false) (n + 2) with
            | .inl e => .inl e
            | .inr (d, j, m) => .inr (datQuote d, j, m))
        else if c = 35 then
          (if byteL (l.drop (i + 1)) = [116] then .inr (datBool 1, i + 2, n + 1)
          else if byteL (l.drop (i + 1)) = [102] then .inr (datBool 0, i + 2, n + 1)
          else .inl (2, (i : Int)))
        else if letB (c.toNat : Int) then wordAt (byteL (l.drop i)) i (n + 1)
        else .inl (2, (i : Int))

/-- All data from i on. -/
def alls (l : List UInt8) : Nat → Nat → Nat → Rd (List Dat)
  | 0, i, n => .inr ([], i, n)
  | k + 1, i0, n =>
    let i := i0 + skipL (l.drop i0) false
    if l.length ≤ i then .inr ([], i, n)
    else match one l 40 i n with
      | .inl e => .inl e
      | .inr (d, j, m) =>
        match alls l k j m with
        | .inl e => .inl e
        | .inr (ds, j', m') => .inr (d :: ds, j', m')

/-- What a text is. -/
def readL (l : List UInt8) : Sum (Int × Int) (List Dat) :=
  if 6000 < l.length then .inl (4, 0) else match alls l (l.length + 1) 0 0 with
    | .inl e => .inl e
    | .inr (ds, _, _) => .inr ds

theorem skipL_le : ∀ (l : List UInt8) (b : Bool), skipL l b ≤ l.length
  | [], _ => Nat.le_refl _
  | c :: r, b => by
    unfold skipL
    split
    · have := skipL_le r (noted c b); simp; omega
    · exact Nat.zero_le _

/-- A comment goes on to its line's end. -/
theorem skipL_note : ∀ (l : List UInt8), skipL l true = lineL l + skipL (l.drop (lineL l)) false
  | [] => rfl
  | c :: r => by
    by_cases h : c = 10
    · subst h
      simp [lineL, skipL, noted, isBlank]
    · have e1 : noted c true = true := by unfold noted; split <;> simp [h]
      have e2 : lineL (c :: r) = lineL r + 1 := by simp [lineL, h]
      rw [e2]
      show (if noted c true || isBlank c then skipL r (noted c true) + 1 else 0) = _
      rw [e1, Bool.true_or, if_pos rfl, skipL_note r]
      simp
      omega

theorem skipL_semi (r : List UInt8) : skipL (59 :: r) false = lineL (59 :: r) + skipL ((59 :: r).drop (lineL (59 :: r))) false := by
  have e : skipL (59 :: r) false = skipL (59 :: r) true := by simp [skipL, noted]
  rw [e]
  exact skipL_note (59 :: r)

theorem drop_cons {l : List UInt8} {i : Nat} {c : UInt8} (h : l[i]? = some c) : l.drop i = c :: l.drop (i + 1) := by
  obtain ⟨hi, e⟩ := List.getElem?_eq_some_iff.1 h
  rw [List.drop_eq_getElem_cons hi, e]

theorem skip_blank {l : List UInt8} {i : Nat} {c : UInt8} (h : l[i]? = some c) (hb : isBlank c = true) : i + skipL (l.drop i) false = (i + 1) + skipL (l.drop (i + 1)) false := by
  rw [drop_cons h]
  have h59 : ¬ c = 59 := by
    intro e
    subst e
    exact absurd hb (by decide)
  have e1 : noted c false = false := by
    unfold noted
    rw [if_neg h59]
    split <;> rfl
  show i + (if noted c false || isBlank c then skipL (l.drop (i + 1)) (noted c false) + 1 else 0) = _
  rw [hb, Bool.or_true, if_pos rfl, e1]
  omega

theorem skip_semi {l : List UInt8} {i : Nat} (h : l[i]? = some 59) : i + skipL (l.drop i) false = (i + lineL (l.drop i)) + skipL (l.drop (i + lineL (l.drop i))) false := by
  have e := skipL_semi (l.drop (i + 1))
  rw [← drop_cons h, List.drop_drop] at e
  omega

theorem skip_stop {l : List UInt8} {i : Nat} {c : UInt8} (h : l[i]? = some c) (hb : isBlank c = false) (h59 : c ≠ 59) : skipL (l.drop i) false = 0 := by
  rw [drop_cons h]
  have e1 : noted c false = false := by
    unfold noted
    rw [if_neg h59]
    split <;> rfl
  show (if noted c false || isBlank c then skipL (l.drop (i + 1)) (noted c false) + 1 else 0) = 0
  rw [hb, e1]
  rfl

theorem skip_end {l : List UInt8} {i : Nat} (h : l.length ≤ i) : skipL (l.drop i) false = 0 := by
  rw [List.drop_of_length_le h]
  rfl

theorem skip_le (l : List UInt8) (i : Nat) (h : i ≤ l.length) : i + skipL (l.drop i) false ≤ l.length := by
  have := skipL_le (l.drop i) false
  simp at this
  omega

theorem line_le (l : List UInt8) : lineL l ≤ l.length := (List.takeWhile_prefix _).length_le

theorem line_index : ∀ (l : List UInt8), (Lib.indexByte l 10 = -1 → lineL l = l.length) ∧ (0 ≤ Lib.indexByte l 10 → Lib.indexByte l 10 = (lineL l : Int)) ∧ -1 ≤ Lib.indexByte l 10
  | [] => ⟨fun _ => rfl, fun h => absurd h (by decide), by decide⟩
  | c :: r => by
    obtain ⟨h1, h2, h3⟩ := line_index r
    unfold Lib.indexByte
    by_cases e : c = 10
    · subst e
      refine ⟨?_, ?_, ?_⟩
      · intro h; simp at h
      · intro _; simp [lineL]
      · simp
    · have e2 : lineL (c :: r) = lineL r + 1 := by simp [lineL, e]
      have e3 : (c == 10) = false := by simpa using e
      rw [e3, e2]
      by_cases g : Lib.indexByte r 10 = -1
      · have := h1 g
        rw [g]
        refine ⟨fun _ => by simp [this], fun h => absurd h (by decide), by decide⟩
      · have g' : (Lib.indexByte r 10 == -1) = false := by simpa using g
        have := h2 (by omega)
        rw [g']
        simp only [Bool.false_eq_true, if_false]
        refine ⟨fun h => by omega, fun _ => by omega, by omega⟩
end
section
set_option linter.unusedVariables false
set_option linter.unusedSimpArgs false

theorem byteL_le (l : List UInt8) : (byteL l).length ≤ l.length := (List.takeWhile_prefix _).length_le

/-- What is right of a datum that was read. -/
structure Went (l : List UInt8) (i n j m : Nat) (d : Dat) : Prop where
  on : i < j
  upto : j ≤ l.length
  more : n + 1 ≤ m
  much : m ≤ 2000
  name : d.name.size ≤ 20

structure WentL (l : List UInt8) (i n j m : Nat) (ds : List Dat) : Prop where
  on : i < j
  upto : j ≤ l.length
  more : n + ds.length ≤ m
  much : m ≤ 2000

theorem items_went (g : Nat → Nat → Rd Dat) (l : List UInt8) (hg : ∀ i n d j m, i ≤ l.length → n ≤ 2000 → g i n = .inr (d, j, m) → Went l i n j m d) :
    ∀ (k i n : Nat) (ds : List Dat) (j m : Nat), i ≤ l.length → n ≤ 2000 → items g l k i n = .inr (ds, j, m) → WentL l i n j m ds
  | 0, i, n, ds, j, m, hi, hn, h => by simp [items] at h
  | k + 1, i, n, ds, j, m, hi, hn, h => by
    unfold items at h
    simp only at h
    have hs := skip_le l i hi
    generalize hp : i + skipL (l.drop i) false = p at h hs
    have hip : i ≤ p := by omega
    cases hc : l[p]? with
    | none => rw [hc] at h; simp at h
    | some c =>
      rw [hc] at h
      simp only at h
      have hlt := (List.getElem?_eq_some_iff.1 hc).1
      by_cases h41 : c = 41
      · rw [if_pos h41] at h
        simp at h
        obtain ⟨rfl, rfl, rfl⟩ := h
        exact ⟨by omega, by omega, by simp, hn⟩
      · rw [if_neg h41] at h
        cases hgg : g p n with
        | inl e => rw [hgg] at h; simp at h
        | inr x =>
          obtain ⟨d, j1, m1⟩ := x
          rw [hgg] at h
          simp only at h
          have hw := hg p n d j1 m1 hs hn hgg
          cases hii : items g l k j1 m1 with
          | inl e => rw [hii] at h; simp at h
          | inr y =>
            obtain ⟨ds2, j2, m2⟩ := y
            rw [hii] at h
            simp at h
            obtain ⟨rfl, rfl, rfl⟩ := h
            have hw2 := items_went g l hg k j1 m1 ds2 j2 m2 hw.upto hw.much hii
            have := hw.on
            have := hw.more
            have := hw2.on
            have := hw2.more
            exact ⟨by omega, hw2.upto, by simp; omega, hw2.much⟩

theorem word_went {l : List UInt8} {i n : Nat} {c : UInt8} {d : Dat} {j m : Nat} (hc : l[i]? = some c) (hl : letB (c.toNat : Int) = true) (hn : n + 1 ≤ 2000) (h : wordAt (byteL (l.drop i)) i (n + 1) = .inr (d, j, m)) : Went l i n j m d := by
  have hle := byteL_le (l.drop i)
  rw [List.length_drop] at hle
  have hlt := (List.getElem?_eq_some_iff.1 hc).1
  have hpos : 1 ≤ (byteL (l.drop i)).length := by
    rw [drop_cons hc]
    simp [byteL, hl]
  unfold wordAt at h
  split at h
  · split at h
    · simp at h
    · split at h
      · simp at h
        obtain ⟨rfl, rfl, rfl⟩ := h
        exact ⟨by omega, by omega, by omega, hn, by show (0 : Nat) ≤ 20; omega⟩
      · simp at h
  · split at h
    · simp at h
    · rename_i h20
      simp at h
      obtain ⟨rfl, rfl, rfl⟩ := h
      refine ⟨by omega, by omega, by omega, hn, ?_⟩
      show (byteL (l.drop i)).toArray.size ≤ 20
      rw [List.size_toArray]
      omega

theorem one_went (l : List UInt8) : ∀ (f i n : Nat) (d : Dat) (j m : Nat), i ≤ l.length → n ≤ 2000 → one l f i n = .inr (d, j, m) → Went l i n j m d
  | 0, i, n, d, j, m, _, _, h => by simp [one] at h
  | f + 1, i, n, d, j, m, hi, hn, h => by
    unfold one at h
    by_cases h2 : 2000 < n + 1
    · rw [if_pos h2] at h; simp at h
    · rw [if_neg h2] at h
      cases hc : l[i]? with
      | none => rw [hc] at h; simp at h
      | some c =>
        rw [hc] at h
        simp only at h
        have hlt := (List.getElem?_eq_some_iff.1 hc).1
        by_cases c40 : c = 40
        · rw [if_pos c40] at h
          cases hit : items (one l f) l (l.length + 1) (i + 1) (n + 1) with
          | inl e => rw [hit] at h; simp at h
          | inr y =>
            obtain ⟨ds, j2, m2⟩ := y
            rw [hit] at h
            simp at h
            obtain ⟨rfl, rfl, rfl⟩ := h
            have hw := items_went (one l f) l (one_went l f) _ _ _ ds j2 m2 (by omega) (by omega) hit
            have := hw.on
            have := hw.more
            exact ⟨by omega, hw.upto, by omega, hw.much, by show (0 : Nat) ≤ 20; omega⟩
        · rw [if_neg c40] at h
          by_cases c39 : c = 39
          · rw [if_pos c39] at h
            by_cases hq : f = 0 ∨ 2000 < n + 2
            · rw [if_pos hq] at h; simp at h
            · rw [if_neg hq] at h
              cases ho : one l f (i + 1 + skipL (l.drop (i + 1)) false) (n + 2) with
              | inl e => rw [ho] at h; simp at h
              | inr y =>
                obtain ⟨d2, j2, m2⟩ := y
                rw [ho] at h
                simp at h
                obtain ⟨rfl, rfl, rfl⟩ := h
                have hs := skip_le l (i + 1) (by omega)
                have hw := one_went l f _ _ d2 j2 m2 hs (by omega) ho
                have := hw.on
                have := hw.more
                exact ⟨by omega, hw.upto, by omega, hw.much, by show (0 : Nat) ≤ 20; omega⟩
          · rw [if_neg c39] at h
            by_cases c35 : c = 35
            · rw [if_pos c35] at h
              have hb : ∀ x, byteL (l.drop (i + 1)) = [x] → i + 2 ≤ l.length := by
                intro x hx
                have h1 := byteL_le (l.drop (i + 1))
                rw [hx, List.length_drop] at h1
                simp at h1
                omega
              by_cases t1 : byteL (l.drop (i + 1)) = [116]
              · rw [if_pos t1] at h
                simp at h
                obtain ⟨rfl, rfl, rfl⟩ := h
                exact ⟨by omega, hb _ t1, by omega, by omega, by show (0 : Nat) ≤ 20; omega⟩
              · rw [if_neg t1] at h
                by_cases t2 : byteL (l.drop (i + 1)) = [102]
                · rw [if_pos t2] at h
                  simp at h
                  obtain ⟨rfl, rfl, rfl⟩ := h
                  exact ⟨by omega, hb _ t2, by omega, by omega, by show (0 : Nat) ≤ 20; omega⟩
                · rw [if_neg t2] at h; simp at h
            · rw [if_neg c35] at h
              by_cases hl : letB (c.toNat : Int) = true
              · rw [if_pos hl] at h
                exact word_went hc hl (by omega) h
              · rw [if_neg hl] at h; simp at h
end
section
set_option linter.unusedVariables false
set_option linter.unusedSimpArgs false

/-- What no word goes on into. -/
def Nolet (q : List UInt8) : Prop := q = [] ∨ ∃ c r, q = c :: r ∧ letB (c.toNat : Int) = false

theorem skipL_app : ∀ (l q : List UInt8) (b : Bool), skipL l b < l.length → skipL (l ++ q) b = skipL l b
  | [], q, b, h => absurd h (by simp [skipL])
  | c :: r, q, b, h => by
    have e1 : skipL (c :: r) b = if noted c b || isBlank c then skipL r (noted c b) + 1 else 0 := rfl
    have e2 : skipL (c :: r ++ q) b = if noted c b || isBlank c then skipL (r ++ q) (noted c b) + 1 else 0 := rfl
    rw [e1] at h ⊢
    rw [e2]
    by_cases hc : (noted c b || isBlank c) = true
    · rw [if_pos hc] at h ⊢
      rw [if_pos hc, skipL_app r q _ (by simp at h; exact h)]
    · rw [if_neg hc, if_neg hc]

theorem skipL_full (q : List UInt8) : ∀ (l : List UInt8) (b : Bool), skipL l b = l.length → skipL (l ++ 10 :: q) b = l.length + skipL (10 :: q) false
  | [], b, h => by
    show skipL (10 :: q) b = 0 + skipL (10 :: q) false
    have e : ∀ b, skipL (10 :: q) b = skipL q false + 1 := fun b => by simp [skipL, noted, isBlank]
    rw [e, e]
    omega
  | c :: r, b, h => by
    have e1 : skipL (c :: r) b = if noted c b || isBlank c then skipL r (noted c b) + 1 else 0 := rfl
    have e2 : skipL (c :: r ++ 10 :: q) b = if noted c b || isBlank c then skipL (r ++ 10 :: q) (noted c b) + 1 else 0 := rfl
    rw [e1] at h
    rw [e2]
    by_cases hc : (noted c b || isBlank c) = true
    · rw [if_pos hc] at h ⊢
      rw [skipL_full q r _ (by simp at h; exact h)]
      simp
      omega
    · rw [if_neg hc] at h
      simp at h

theorem byteL_cons (c : UInt8) (r : List UInt8) : byteL (c :: r) = if letB (c.toNat : Int) then c :: byteL r else [] := by
  simp [byteL, List.takeWhile_cons]

theorem byteL_app {q : List UInt8} (hq : Nolet q) : ∀ (l : List UInt8), byteL (l ++ q) = byteL l
  | [] => by
    rcases hq with rfl | ⟨c, r, rfl, h⟩
    · rfl
    · show byteL (c :: r) = []
      rw [byteL_cons, h]
      rfl
  | c :: r => by
    show byteL (c :: (r ++ q)) = _
    rw [byteL_cons, byteL_cons, byteL_app hq r]

/-- Text l stands in l' from place s on, q behind it. -/
def Inn (l l' q : List UInt8) (s : Nat) : Prop := ∀ i, i ≤ l.length → l'.drop (i + s) = l.drop i ++ q

theorem Inn.at {l l' q : List UInt8} {s : Nat} (h : Inn l l' q s) {i : Nat} {c : UInt8} (hc : l[i]? = some c) : l'[i + s]? = some c := by
  have hi := (List.getElem?_eq_some_iff.1 hc).1
  have e := h i (by omega)
  rw [drop_cons hc] at e
  have : (l'.drop (i + s))[0]? = some c := by rw [e]; rfl
  rw [List.getElem?_drop] at this
  exact this

theorem Inn.len {l l' q : List UInt8} {s : Nat} (h : Inn l l' q s) : l.length + q.length + s ≤ l'.length ∨ (l.length = 0 ∧ q.length = 0) := by
  have e := h 0 (Nat.zero_le _)
  have : (l'.drop (0 + s)).length = (l.drop 0 ++ q).length := by rw [e]
  simp at this
  omega

theorem Inn.le {l l' q : List UInt8} {s : Nat} (h : Inn l l' q s) : l.length ≤ l'.length := by
  have := h.len
  omega

theorem Inn.skip {l l' q : List UInt8} {s : Nat} (h : Inn l l' q s) {i : Nat} (hi : i ≤ l.length) (hlt : i + skipL (l.drop i) false < l.length) : (i + s) + skipL (l'.drop (i + s)) false = (i + skipL (l.drop i) false) + s := by
  rw [h i hi, skipL_app _ _ _ (by rw [List.length_drop]; omega)]
  omega

section
variable {l l' q : List UInt8} {s c : Nat}

theorem items_in (g g' : Nat → Nat → Rd Dat) (hin : Inn l l' q s)
    (hw : ∀ i n d j m, i ≤ l.length → n ≤ 2000 → g i n = .inr (d, j, m) → Went l i n j m d)
    (hg : ∀ i n d j m, i ≤ l.length → n ≤ 2000 → g i n = .inr (d, j, m) → g' (i + s) (n + c) = .inr (d, j + s, m + c) ∨ (0 < c ∧ ∃ x, g' (i + s) (n + c) = .inl (4, x))) :
    ∀ (k k' i n : Nat) (ds : List Dat) (j m : Nat), k ≤ k' → i ≤ l.length → n ≤ 2000 → items g l k i n = .inr (ds, j, m) →
      items g' l' k' (i + s) (n + c) = .inr (ds, j + s, m + c) ∨ (0 < c ∧ ∃ x, items g' l' k' (i + s) (n + c) = .inl (4, x))
  | 0, k', i, n, ds, j, m, hk, hi, hn, h => by simp [items] at h
  | k + 1, 0, i, n, ds, j, m, hk, hi, hn, h => by omega
  | k + 1, k' + 1, i, n, ds, j, m, hk, hi, hn, h => by
    unfold items at h ⊢
    simp only at h ⊢
    have hs := skip_le l i hi
    have hsk := fun hlt => hin.skip (i := i) hi hlt
    generalize hp : i + skipL (l.drop i) false = p at h hs hsk
    have hip : i ≤ p := by omega
    cases hc : l[p]? with
    | none => rw [hc] at h; simp at h
    | some c0 =>
      rw [hc] at h
      simp only at h
      have hlt := (List.getElem?_eq_some_iff.1 hc).1
      rw [hsk hlt, hin.at hc]
      simp only
      by_cases h41 : c0 = 41
      · rw [if_pos h41] at h ⊢
        simp at h
        obtain ⟨rfl, rfl, rfl⟩ := h
        left
        rw [show p + s + 1 = p + 1 + s from by omega]
      · rw [if_neg h41] at h ⊢
        cases hgg : g p n with
        | inl e => rw [hgg] at h; simp at h
        | inr x =>
          obtain ⟨d, j1, m1⟩ := x
          rw [hgg] at h
          simp only at h
          have hww := hw p n d j1 m1 hs hn hgg
          cases hii : items g l k j1 m1 with
          | inl e => rw [hii] at h; simp at h
          | inr y =>
            obtain ⟨ds2, j2, m2⟩ := y
            rw [hii] at h
            simp at h
            obtain ⟨rfl, rfl, rfl⟩ := h
            rcases hg p n d j1 m1 hs hn hgg with e | ⟨hc0, x, e⟩
            · rw [e]
              simp only
              rcases items_in g g' hin hw hg k k' j1 m1 ds2 j2 m2 (by omega) hww.upto hww.much hii with e2 | ⟨hc0, x, e2⟩
              · left; rw [e2]
              · right; rw [e2]; exact ⟨hc0, x, rfl⟩
            · right; rw [e]; exact ⟨hc0, x, rfl⟩

theorem word_in {w : List UInt8} {i n : Nat} {d : Dat} {j m : Nat} (h : wordAt w i n = .inr (d, j, m)) : wordAt w (i + s) (n + c) = .inr (d, j + s, m + c) := by
  unfold wordAt at h ⊢
  split at h
  · rename_i hl
    rw [if_pos hl]
    split at h
    · simp at h
    · rename_i h17
      rw [if_neg h17]
      split at h
      · rename_i hr
        rw [if_pos hr]
        simp at h
        obtain ⟨rfl, rfl, rfl⟩ := h
        simp
        omega
      · simp at h
  · rename_i hl
    rw [if_neg hl]
    split at h
    · simp at h
    · rename_i h20
      rw [if_neg h20]
      simp at h
      obtain ⟨rfl, rfl, rfl⟩ := h
      simp
      omega

theorem one_in (hin : Inn l l' q s) (hq : Nolet q) : ∀ (f i n : Nat) (d : Dat) (j m : Nat), i ≤ l.length → n ≤ 2000 → one l f i n = .inr (d, j, m) →
    one l' f (i + s) (n + c) = .inr (d, j + s, m + c) ∨ (0 < c ∧ ∃ x, one l' f (i + s) (n + c) = .inl (4, x))
  | 0, i, n, d, j, m, _, _, h => by simp [one] at h
  | f + 1, i, n, d, j, m, hi, hn, h => by
    unfold one at h ⊢
    by_cases h2 : 2000 < n + 1
    · rw [if_pos h2] at h; simp at h
    · rw [if_neg h2] at h
      by_cases h2' : 2000 < n + c + 1
      · rw [if_pos h2']
        right
        exact ⟨by omega, _, rfl⟩
      · rw [if_neg h2']
        cases hc : l[i]? with
        | none => rw [hc] at h; simp at h
        | some c0 =>
          rw [hc] at h
          rw [hin.at hc]
          simp only at h ⊢
          have hlt := (List.getElem?_eq_some_iff.1 hc).1
          by_cases c40 : c0 = 40
          · rw [if_pos c40] at h ⊢
            cases hit : items (one l f) l (l.length + 1) (i + 1) (n + 1) with
            | inl e => rw [hit] at h; simp at h
            | inr y =>
              obtain ⟨ds, j2, m2⟩ := y
              rw [hit] at h
              simp at h
              obtain ⟨rfl, rfl, rfl⟩ := h
              have hle := hin.le
              have := items_in (one l f) (one l' f) hin (one_went l f) (one_in hin hq f) (l.length + 1) (l'.length + 1) (i + 1) (n + 1) ds j2 m2 (by omega) (by omega) (by omega) hit
              rw [show i + s + 1 = i + 1 + s from by omega, show n + c + 1 = n + 1 + c from by omega]
              rcases this with e | ⟨hc0, x, e⟩
              · left; rw [e]
              · right; rw [e]; exact ⟨hc0, x, rfl⟩
          · rw [if_neg c40] at h ⊢
            by_cases c39 : c0 = 39
            · rw [if_pos c39] at h ⊢
              by_cases hqq : f = 0 ∨ 2000 < n + 2
              · rw [if_pos hqq] at h; simp at h
              · rw [if_neg hqq] at h
                cases ho : one l f (i + 1 + skipL (l.drop (i + 1)) false) (n + 2) with
                | inl e => rw [ho] at h; simp at h
                | inr y =>
                  obtain ⟨d2, j2, m2⟩ := y
                  rw [ho] at h
                  simp at h
                  obtain ⟨rfl, rfl, rfl⟩ := h
                  have hs := skip_le l (i + 1) (by omega)
                  have hw := one_went l f _ _ d2 j2 m2 hs (by omega) ho
                  have := hw.on
                  have := hw.upto
                  have hsk := hin.skip (i := i + 1) (by omega) (by omega)
                  by_cases hq2 : f = 0 ∨ 2000 < n + c + 2
                  · rw [if_pos hq2]
                    right
                    exact ⟨by omega, _, rfl⟩
                  · rw [if_neg hq2, show i + s + 1 = i + 1 + s from by omega, hsk, show n + c + 2 = n + 2 + c from by omega]
                    rcases one_in hin hq f _ _ d2 j2 m2 hs (by omega) ho with e | ⟨hc0, x, e⟩
                    · left; rw [e]
                    · right; rw [e]; exact ⟨hc0, x, rfl⟩
            · rw [if_neg c39] at h ⊢
              have hby : byteL (l'.drop (i + s + 1)) = byteL (l.drop (i + 1)) := by
                rw [show i + s + 1 = i + 1 + s from by omega, hin (i + 1) (by omega), byteL_app hq]
              have hby0 : byteL (l'.drop (i + s)) = byteL (l.drop i) := by
                rw [hin i hi, byteL_app hq]
              by_cases c35 : c0 = 35
              · rw [if_pos c35] at h ⊢
                rw [hby]
                left
                by_cases t1 : byteL (l.drop (i + 1)) = [116]
                · rw [if_pos t1] at h ⊢
                  simp at h
                  obtain ⟨rfl, rfl, rfl⟩ := h
                  simp
                  omega
                · rw [if_neg t1] at h ⊢
                  by_cases t2 : byteL (l.drop (i + 1)) = [102]
                  · rw [if_pos t2] at h ⊢
                    simp at h
                    obtain ⟨rfl, rfl, rfl⟩ := h
                    simp
                    omega
                  · rw [if_neg t2] at h; simp at h
              · rw [if_neg c35] at h ⊢
                by_cases hl : letB (c0.toNat : Int) = true
                · rw [if_pos hl] at h ⊢
                  left
                  rw [hby0, show n + c + 1 = n + 1 + c from by omega]
                  exact word_in h
                · rw [if_neg hl] at h; simp at h
end

def cat (ds : List Dat) : Rd (List Dat) → Rd (List Dat)
  | .inl e => .inl e
  | .inr (es, j, m) => .inr (ds ++ es, j, m)

theorem alls_same (l : List UInt8) (k i i2 n : Nat) (h : i + skipL (l.drop i) false = i2 + skipL (l.drop i2) false) : alls l (k + 1) i n = alls l (k + 1) i2 n := by
  unfold alls
  simp only
  rw [h]

theorem alls_in {l l' q : List UInt8} {s c : Nat} (hin : Inn l l' q s) (hq : q = [] ∨ ∃ r, q = 10 :: r) : ∀ (k k' i n : Nat) (ds : List Dat) (j m : Nat), k ≤ k' → i ≤ l.length → n ≤ 2000 → l.length - i < k → alls l k i n = .inr (ds, j, m) →
    (∃ k'', k' ≤ k'' + ds.length ∧ 1 ≤ k'' ∧ m ≤ 2000 ∧ ds.length ≤ l.length - i ∧ alls l' k' (i + s) (n + c) = cat ds (alls l' k'' (l.length + s) (m + c))) ∨ (0 < c ∧ ∃ x, alls l' k' (i + s) (n + c) = .inl (4, x))
  | 0, k', i, n, ds, j, m, hk, hi, hn, hf, h => by omega
  | k + 1, 0, i, n, ds, j, m, hk, hi, hn, hf, h => by omega
  | k + 1, k' + 1, i, n, ds, j, m, hk, hi, hn, hf, h => by
    have hnl : Nolet q := by
      rcases hq with rfl | ⟨r, rfl⟩
      · exact Or.inl rfl
      · exact Or.inr ⟨10, r, rfl, by decide⟩
    have hs := skip_le l i hi
    unfold alls at h
    simp only at h
    by_cases hend : l.length ≤ i + skipL (l.drop i) false
    · rw [if_pos hend] at h
      simp at h
      obtain ⟨rfl, _, rfl⟩ := h
      left
      refine ⟨k' + 1, by simp, by omega, hn, by simp, ?_⟩
      have hfull : skipL (l.drop i) false = (l.drop i).length := by rw [List.length_drop]; omega
      have hlen : (l.drop i).length = l.length - i := List.length_drop
      have e : (i + s) + skipL (l'.drop (i + s)) false = (l.length + s) + skipL (l'.drop (l.length + s)) false := by
        rw [hin i hi, hin l.length (Nat.le_refl _), List.drop_length, List.nil_append]
        rcases hq with rfl | ⟨r, rfl⟩
        · rw [List.append_nil, hfull]
          simp [skipL]
          omega
        · rw [skipL_full r _ _ hfull]
          omega
      rw [alls_same l' k' _ _ _ e]
      cases alls l' (k' + 1) (l.length + s) (n + c) with
      | inl e => rfl
      | inr x => rfl
    · rw [if_neg hend] at h
      have hsk := hin.skip (i := i) hi (by omega)
      generalize hp : i + skipL (l.drop i) false = p at h hs hsk hend
      cases ho : one l 40 p n with
      | inl e => rw [ho] at h; simp at h
      | inr y =>
        obtain ⟨d, j1, m1⟩ := y
        rw [ho] at h
        simp only at h
        have hw := one_went l 40 p n d j1 m1 hs hn ho
        have w1 := hw.on
        have w2 := hw.upto
        have w3 := hw.more
        have w4 := hw.much
        cases ha : alls l k j1 m1 with
        | inl e => rw [ha] at h; simp at h
        | inr y =>
          obtain ⟨ds2, j2, m2⟩ := y
          rw [ha] at h
          simp at h
          obtain ⟨rfl, rfl, rfl⟩ := h
          have hu : alls l' (k' + 1) (i + s) (n + c) = match one l' 40 (p + s) (n + c) with
              | .inl e => .inl e
              | .inr (d, j, m) => match alls l' k' j m with
                | .inl e => .inl e
                | .inr (ds, j', m') => .inr (d :: ds, j', m') := by
            rw [show alls l' (k' + 1) (i + s) (n + c) = (let p := i + s + skipL (l'.drop (i + s)) false; if l'.length ≤ p then .inr ([], p, n + c) else match one l' 40 p (n + c) with
              | .inl e => .inl e
              | .inr (d, j, m) => match alls l' k' j m with
                | .inl e => .inl e
                | .inr (ds, j', m') => .inr (d :: ds, j', m')) from rfl]
            simp only
            have hlen := hin.len
            rw [hsk, if_neg (by omega)]
          rw [hu]
          rcases one_in (c := c) hin hnl 40 p n d j1 m1 hs hn ho with e | ⟨hc0, x, e⟩
          · rw [e]
            simp only
            rcases alls_in hin hq k k' j1 m1 ds2 j2 m2 (by omega) w2 w4 (by omega) ha with ⟨k'', g1, g2, g3, g4, g5⟩ | ⟨hc0, x, e2⟩
            · left
              refine ⟨k'', by simp; omega, g2, g3, by simp; omega, ?_⟩
              rw [g5]
              cases alls l' k'' (l.length + s) (m2 + c) with
              | inl e => rfl
              | inr x => rfl
            · right; rw [e2]; exact ⟨hc0, x, rfl⟩
          · right; rw [e]; exact ⟨hc0, x, rfl⟩
end
section
set_option linter.unusedVariables false
set_option linter.unusedSimpArgs false

theorem readL_ok {l : List UInt8} {ds : List Dat} (h : readL l = .inr ds) : l.length ≤ 6000 ∧ ∃ j m, alls l (l.length + 1) 0 0 = .inr (ds, j, m) := by
  unfold readL at h
  split at h
  · simp at h
  · rename_i hl
    refine ⟨by omega, ?_⟩
    cases ha : alls l (l.length + 1) 0 0 with
    | inl e => rw [ha] at h; simp at h
    | inr x =>
      obtain ⟨es, j, m⟩ := x
      rw [ha] at h
      simp at h
      subst h
      exact ⟨j, m, rfl⟩

theorem readL_of {l : List UInt8} {ds : List Dat} {j m : Nat} (hl : l.length ≤ 6000) (h : alls l (l.length + 1) 0 0 = .inr (ds, j, m)) : readL l = .inr ds := by
  unfold readL
  rw [if_neg (by omega), h]

theorem readL_bad {l : List UInt8} {x : Int × Int} (hl : l.length ≤ 6000) (h : alls l (l.length + 1) 0 0 = .inl x) : readL l = .inl x := by
  unfold readL
  rw [if_neg (by omega), h]

theorem in_mid (p l q : List UInt8) : Inn l (p ++ (l ++ q)) q p.length := by
  intro i hi
  rw [List.drop_append, List.drop_of_length_le (by omega), List.nil_append, show i + p.length - p.length = i from by omega, List.drop_append, show i - l.length = 0 from by omega, List.drop_zero]

theorem skipL_note_all : ∀ (l : List UInt8), (∀ c, c ∈ l → c ≠ 10) → skipL l true = l.length
  | [], _ => rfl
  | c :: r, h => by
    have hc := h c (by simp)
    have e1 : noted c true = true := by unfold noted; split <;> simp [hc]
    show (if noted c true || isBlank c then skipL r (noted c true) + 1 else 0) = _
    rw [e1, Bool.true_or, if_pos rfl, skipL_note_all r (fun x hx => h x (by simp [hx]))]
    rfl

theorem skipL_app_full : ∀ (l q : List UInt8) (b b' : Bool), skipL l b = l.length → (l.foldl (fun b c => noted c b) b) = b' → skipL (l ++ q) b = l.length + skipL q b'
  | [], q, b, b', h, e => by simp at e; subst e; simp
  | c :: r, q, b, b', h, e => by
    have e1 : skipL (c :: r) b = if noted c b || isBlank c then skipL r (noted c b) + 1 else 0 := rfl
    have e2 : skipL (c :: r ++ q) b = if noted c b || isBlank c then skipL (r ++ q) (noted c b) + 1 else 0 := rfl
    rw [e1] at h
    rw [e2]
    by_cases hc : (noted c b || isBlank c) = true
    · rw [if_pos hc] at h ⊢
      rw [skipL_app_full r q _ b' (by simp at h; exact h) e]
      simp
      omega
    · rw [if_neg hc] at h
      simp at h

theorem noted_all : ∀ (l : List UInt8), (∀ c, c ∈ l → c ≠ 10) → l.foldl (fun b c => noted c b) true = true
  | [], _ => rfl
  | c :: r, h => by
    have hc := h c (by simp)
    have e1 : noted c true = true := by unfold noted; split <;> simp [hc]
    show r.foldl (fun b c => noted c b) (noted c true) = true
    rw [e1]
    exact noted_all r (fun x hx => h x (by simp [hx]))

/-- A note ahead, on a line. -/
theorem skip_ahead (note rest : List UInt8) (h : ∀ c, c ∈ note → c ≠ 10) : skipL (59 :: (note ++ (10 :: 32 :: 9 :: rest))) false = (note.length + 4) + skipL rest false := by
  show (if noted 59 false || isBlank 59 then skipL (note ++ (10 :: 32 :: 9 :: rest)) (noted 59 false) + 1 else 0) = _
  rw [show noted 59 false = true from rfl, Bool.true_or, if_pos rfl, skipL_app_full note _ true true (skipL_note_all note h) (noted_all note h)]
  have : skipL (10 :: 32 :: 9 :: rest) true = skipL rest false + 3 := by simp [skipL, noted, isBlank]
  rw [this]
  omega

theorem skip_behind (note : List UInt8) (h : ∀ c, c ∈ note → c ≠ 10) : skipL (10 :: 59 :: note) false = note.length + 2 := by
  have : skipL (10 :: 59 :: note) false = skipL note true + 2 := by simp [skipL, noted, isBlank]
  rw [this, skipL_note_all note h]

theorem alls_stop (l : List UInt8) (k i n : Nat) (hk : 1 ≤ k) (h : l.length ≤ i + skipL (l.drop i) false) : ∃ j, alls l k i n = .inr ([], j, n) := by
  cases k with
  | zero => omega
  | succ k =>
    unfold alls
    simp only
    rw [if_pos h]
    exact ⟨_, rfl⟩

/-- BLANKS AND NOTES SAY NOTHING. -/
theorem read_blank (l note : List UInt8) (ds : List Dat) (h : readL l = .inr ds) (hn : ∀ c, c ∈ note → c ≠ 10) (hlen : l.length + 2 * note.length + 6 ≤ 6000) :
    readL (59 :: (note ++ (10 :: 32 :: 9 :: (l ++ (10 :: 59 :: note))))) = .inr ds := by
  obtain ⟨hl, j, m, ha⟩ := readL_ok h
  have hin := in_mid (59 :: (note ++ [10, 32, 9])) l (10 :: 59 :: note)
  have e : (59 :: (note ++ [10, 32, 9])) ++ (l ++ (10 :: 59 :: note)) = 59 :: (note ++ (10 :: 32 :: 9 :: (l ++ (10 :: 59 :: note)))) := by simp
  rw [e] at hin
  have e2 : (59 :: (note ++ [10, 32, 9])).length = note.length + 4 := by simp
  rw [e2] at hin
  have hs := skip_ahead note (l ++ (10 :: 59 :: note)) hn
  have e3 : (59 :: (note ++ (10 :: 32 :: 9 :: (l ++ (10 :: 59 :: note))))).length = l.length + 2 * note.length + 6 := by simp; omega
  generalize 59 :: (note ++ (10 :: 32 :: 9 :: (l ++ (10 :: 59 :: note)))) = L at *
  have hst : alls L (L.length + 1) 0 0 = alls L (L.length + 1) (0 + (note.length + 4)) (0 + 0) := by
    refine alls_same L L.length 0 _ _ ?_
    rw [hin 0 (Nat.zero_le _), List.drop_zero, List.drop_zero, hs]
    omega
  rcases alls_in (c := 0) hin (Or.inr ⟨59 :: note, rfl⟩) (l.length + 1) (L.length + 1) 0 0 ds j m (by omega) (Nat.zero_le _) (by omega) (by omega) ha with ⟨k'', g1, g2, g3, g4, g5⟩ | ⟨hc, _⟩
  · obtain ⟨j', e4⟩ := alls_stop L k'' (l.length + (note.length + 4)) (m + 0) g2 (by rw [hin l.length (Nat.le_refl _), List.drop_length, List.nil_append, skip_behind note hn]; omega)
    rw [e4] at g5
    refine readL_of (j := j') (m := m + 0) (by omega) ?_
    rw [hst, g5]
    simp [cat]
  · omega

/-- TWO TEXTS ARE ONE. -/
theorem read_joined (a b : List UInt8) (xs ys : List Dat) (ha : readL a = .inr xs) (hb : readL b = .inr ys) (hlen : a.length + b.length + 1 ≤ 6000) :
    readL (a ++ (10 :: b)) = .inr (xs ++ ys) ∨ ∃ x, readL (a ++ (10 :: b)) = .inl (4, x) := by
  obtain ⟨_, j1, m1, h1⟩ := readL_ok ha
  obtain ⟨_, j2, m2, h2⟩ := readL_ok hb
  have hin1 := in_mid [] a (10 :: b)
  have hin2 := in_mid (a ++ [10]) b []
  have e1 : [] ++ (a ++ (10 :: b)) = a ++ (10 :: b) := rfl
  have e2 : (a ++ [10]) ++ (b ++ []) = a ++ (10 :: b) := by simp
  have e3 : (a ++ [10]).length = a.length + 1 := by simp
  have e4 : (a ++ (10 :: b)).length = a.length + b.length + 1 := by simp; omega
  rw [e1, List.length_nil] at hin1
  rw [e2, e3] at hin2
  generalize a ++ (10 :: b) = L at *
  rcases alls_in (c := 0) hin1 (Or.inr ⟨b, rfl⟩) (a.length + 1) (L.length + 1) 0 0 xs j1 m1 (by omega) (Nat.zero_le _) (by omega) (by omega) h1 with ⟨k'', g1, g2, g3, g4, g5⟩ | ⟨hc, _⟩
  · have hst : alls L k'' (a.length + 0) (m1 + 0) = alls L k'' (0 + (a.length + 1)) (0 + m1) := by
      obtain ⟨k3, rfl⟩ : ∃ k3, k'' = k3 + 1 := ⟨k'' - 1, by omega⟩
      rw [show m1 + 0 = 0 + m1 from by omega]
      refine alls_same L k3 _ _ _ ?_
      rw [hin1 a.length (Nat.le_refl _), hin2 0 (Nat.zero_le _)]
      simp [skipL, noted, isBlank]
      omega
    rw [hst] at g5
    rcases alls_in (c := m1) hin2 (Or.inl rfl) (b.length + 1) k'' 0 0 ys j2 m2 (by omega) (Nat.zero_le _) (by omega) (by omega) h2 with ⟨k4, f1, f2, f3, f4, f5⟩ | ⟨hc, x, f5⟩
    · obtain ⟨j', e5⟩ := alls_stop L k4 (b.length + (a.length + 1)) (m2 + m1) f2 (by omega)
      rw [e5] at f5
      rw [f5] at g5
      left
      exact readL_of (by omega) (by rw [show alls L (L.length + 1) 0 0 = _ from g5]; simp [cat]; exact ⟨rfl, rfl⟩)
    · right
      rw [f5] at g5
      exact ⟨x, readL_bad (by omega) (by rw [show alls L (L.length + 1) 0 0 = _ from g5]; rfl)⟩
  · omega
end
end Go.Proofs.YtdnbingddbakaaaGreatDoor
