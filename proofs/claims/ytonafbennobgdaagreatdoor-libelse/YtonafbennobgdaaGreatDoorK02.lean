/- How a text is read: plain. How a text is read: what a reading moves on by. Chapter 3, plainly: WHAT Parse TELLS. Chapter 3, plainly: LibSplit, LibElse, LibFiles. Chapter 3, plainly: LibElse, LibFiles. -/
import Derived.Lib.Bytealg
import Derived.Test.YtonafbennobgdaaGreatDoorK01
namespace Go.Proofs.YtonafbennobgdaaGreatDoor
section
set_option linter.unusedVariables false
set_option linter.unusedSimpArgs false

def noted (c : UInt8) (note : Bool) : Bool := if c = 59 then true else if c = 10 then false else note
def isBlank (c : UInt8) : Bool := decide (c = 32) || decide (c = 9) || decide (c = 10)

def skipL : List UInt8 → Bool → Nat
  | [], _ => 0
  | c :: r, note => if noted c note || isBlank c then skipL r (noted c note) + 1 else 0

def lineL (l : List UInt8) : Nat := (l.takeWhile fun c => c ≠ 10).length

def byteL (l : List UInt8) : List UInt8 := l.takeWhile fun c => letB (c.toNat : Int)

def digN (l : List UInt8) : Nat := l.foldl (fun n c => 10 * n + (c.toNat - 48)) 0
def numOf (l : List UInt8) : Int := if l.head? = some 45 then -((digN l.tail : Nat) : Int) else ((digN l : Nat) : Int)

def datNum (n : Int) : Dat := ⟨1, n, ⟨#[]⟩, 0, 0, []⟩
def datBool (n : Int) : Dat := ⟨2, n, ⟨#[]⟩, 0, 0, []⟩
def datSym (l : List UInt8) : Dat := ⟨3, 0, ⟨l.toArray⟩, 0, 0, []⟩
def datList (ks : List Dat) : Dat := ⟨4, 0, ⟨#[]⟩, 0, 0, ks⟩
def datQuote (d : Dat) : Dat := datList [datSym [113, 117, 111, 116, 101], d]

abbrev Rd (α : Type) := Sum (Int × Int) (α × Nat × Nat)

def wordAt (w : List UInt8) (i n : Nat) : Rd Dat :=
  if looksB w then
    (if 17 < w.length then .inl (3, (i : Int)) else if rangeB (numOf w) then .inr (datNum (numOf w), i + w.length, n) else .inl (3, (i : Int)))
  else if 20 < w.length then .inl (7, (i : Int)) else .inr (datSym w, i + w.length, n)

def items (g : Nat → Nat → Rd Dat) (l : List UInt8) : Nat → Nat → Nat → Rd (List Dat)
  | 0, i, n => .inl (2, (i : Int))
  | k + 1, i0, n =>
    let i := i0 + skipL (l.drop i0) false
    match l[i]? with
    | none => .inl (2, (i : Int))
    | some c =>
      if c = 41 then .inr ([], i + 1, n)
      else match g i n with
        | .inl e => .inl e
        | .inr (d, j, m) =>
          match items g l k j m with
          | .inl e => .inl e
          | .inr (ds, j', m') => .inr (d :: ds, j', m')

def one (l : List UInt8) : Nat → Nat → Nat → Rd Dat
  | 0, i, n => .inl (4, (i : Int))
  | f + 1, i, n =>
    if 2000 < n + 1 then .inl (4, (i : Int))
    else match l[i]? with
      | none => .inl (2, (i : Int))
      | some c =>
        if c = 40 then
          match items (one l f) l (l.length + 1) (i + 1) (n + 1) with
          | .inl e => .inl e
          | .inr (ds, j, m) => .inr (datList ds, j, m)
        else if c = 39 then
          (if f = 0 ∨ 2000 < n + 2 then .inl (4, (i : Int))
          else match one l f (i + 1 + skipL (l.drop (i + 1)) false) (n + 2) with
            | .inl e => .inl e
            | .inr (d, j, m) => .inr (datQuote d, j, m))
        else if c = 35 then
          (if byteL (l.drop (i + 1)) = [116] then .inr (datBool 1, i + 2, n + 1)
          else if byteL (l.drop (i + 1)) = [102] then .inr (datBool 0, i + 2, n + 1)
          else .inl (2, (i : Int)))
        else if letB (c.toNat : Int) then wordAt (byteL (l.drop i)) i (n + 1)
        else .inl (2, (i : Int))

def alls (l : List UInt8) : Nat → Nat → Nat → Rd (List Dat)
  | 0, i, n => .inr ([], i, n)
  | k + 1, i0, n =>
    let i := i0 + skipL (l.drop i0) false
    if l.length ≤ i then .inr ([], i, n)
    else match one l 40 i n with
      | .inl e => .inl e
      | .inr (d, j, m) =>
        match alls l k j m with
        | .inl e => .inl e
        | .inr (ds, j', m') => .inr (d :: ds, j', m')

def readL (l : List UInt8) : Sum (Int × Int) (List Dat) :=
  if 6000 < l.length then .inl (4, 0) else match alls l (l.length + 1) 0 0 with
    | .inl e => .inl e
    | .inr (ds, _, _) => .inr ds

theorem skipL_le : ∀ (l : List UInt8) (b : Bool), skipL l b ≤ l.length
  | [], _ => Nat.le_refl _
  | c :: r, b => by
    unfold skipL
    split
    · have := skipL_le r (noted c b); simp; omega
    · exact Nat.zero_le _

theorem skipL_note : ∀ (l : List UInt8), skipL l true = lineL l + skipL (l.drop (lineL l)) false
  | [] => rfl
  | c :: r => by
    by_cases h : c = 10
    · subst h
      simp [lineL, skipL, noted, isBlank]
    · have e1 : noted c true = true := by unfold noted; split <;> simp [h]
      have e2 : lineL (c :: r) = lineL r + 1 := by simp [lineL, h]
      rw [e2]
      show (if noted c true || isBlank c then skipL r (noted c true) + 1 else 0) = _
      rw [e1, Bool.true_or, if_pos rfl, skipL_note r]
      simp
      omega

theorem skipL_semi (r : List UInt8) : skipL (59 :: r) false = lineL (59 :: r) + skipL ((59 :: r).drop (lineL (59 :: r))) false := by
  have e : skipL (59 :: r) false = skipL (59 :: r) true := by simp [skipL, noted]
  rw [e]
  exact skipL_note (59 :: r)

theorem drop_cons {l : List UInt8} {i : Nat} {c : UInt8} (h : l[i]? = some c) : l.drop i = c :: l.drop (i + 1) := by
  obtain ⟨hi, e⟩ := List.getElem?_eq_some_iff.1 h
  rw [List.drop_eq_getElem_cons hi, e]

theorem skip_blank {l : List UInt8} {i : Nat} {c : UInt8} (h : l[i]? = some c) (hb : isBlank c = true) : i + skipL (l.drop i) false = (i + 1) + skipL (l.drop (i + 1)) false := by
  rw [drop_cons h]
  have h59 : ¬ c = 59 := by
    intro e
    subst e
    exact absurd hb (by decide)
  have e1 : noted c false = false := by
    unfold noted
    rw [if_neg h59]
    split <;> rfl
  show i + (if noted c false || isBlank c then skipL (l.drop (i + 1)) (noted c false) + 1 else 0) = _
  rw [hb, Bool.or_true, if_pos rfl, e1]
  omega

theorem skip_semi {l : List UInt8} {i : Nat} (h : l[i]? = some 59) : i + skipL (l.drop i) false = (i + lineL (l.drop i)) + skipL (l.drop (i + lineL (l.drop i))) false := by
  have e := skipL_semi (l.drop (i + 1))
  rw [← drop_cons h, List.drop_drop] at e
  omega

theorem skip_stop {l : List UInt8} {i : Nat} {c : UInt8} (h : l[i]? = some c) (hb : isBlank c = false) (h59 : c ≠ 59) : skipL (l.drop i) false = 0 := by
  rw [drop_cons h]
  have e1 : noted c false = false := by
    unfold noted
    rw [if_neg h59]
    split <;> rfl
  show (if noted c false || isBlank c then skipL (l.drop (i + 1)) (noted c false) + 1 else 0) = 0
  rw [hb, e1]
  rfl

theorem skip_end {l : List UInt8} {i : Nat} (h : l.length ≤ i) : skipL (l.drop i) false = 0 := by
  rw [List.drop_of_length_le h]
  rfl

theorem skip_le (l : List UInt8) (i : Nat) (h : i ≤ l.length) : i + skipL (l.drop i) false ≤ l.length := by
  have := skipL_le (l.drop i) false
  simp at this
  omega

theorem line_le (l : List UInt8) : lineL l ≤ l.length := (List.takeWhile_prefix _).length_le

theorem line_index : ∀ (l : List UInt8), (Lib.indexByte l 10 = -1 → lineL l = l.length) ∧ (0 ≤ Lib.indexByte l 10 → Lib.indexByte l 10 = (lineL l : Int)) ∧ -1 ≤ Lib.indexByte l 10
  | [] => ⟨fun _ => rfl, fun h => absurd h (by decide), by decide⟩
  | c :: r => by
    obtain ⟨h1, h2, h3⟩ := line_index r
    unfold Lib.indexByte
    by_cases e : c = 10
    · subst e
      refine ⟨?_, ?_, ?_⟩
      · intro h; simp at h
      · intro _; simp [lineL]
      · simp
    · have e2 : lineL (c :: r) = lineL r + 1 := by simp [lineL, e]
      have e3 : (c == 10) = false := by simpa using e
      rw [e3, e2]
      by_cases g : Lib.indexByte r 10 = -1
      · have := h1 g
        rw [g]
        refine ⟨fun _ => by simp [this], fun h => absurd h (by decide), by decide⟩
      · have g' : (Lib.indexByte r 10 == -1) = false := by simpa using g
        have := h2 (by omega)
        rw [g']
        simp only [Bool.false_eq_true, if_false]
        refine ⟨fun h => by omega, fun _ => by omega, by omega⟩
end
section
set_option linter.unusedVariables false
set_option linter.unusedSimpArgs false

theorem byteL_le (l : List UInt8) : (byteL l).length ≤ l.length := (List.takeWhile_prefix _).length_le

structure Went (l : List UInt8) (i n j m : Nat) (d : Dat) : Prop where
  on : i < j
  upto : j ≤ l.length
  more : n + 1 ≤ m
  much : m ≤ 2000
  name : d.name.size ≤ 20

structure WentL (l : List UInt8) (i n j m : Nat) (ds : List Dat) : Prop where
  on : i < j
  upto : j ≤ l.length
  more : n + ds.length ≤ m
  much : m ≤ 2000

theorem items_went (g : Nat → Nat → Rd Dat) (l : List UInt8) (hg : ∀ i n d j m, i ≤ l.length → n ≤ 2000 → g i n = .inr (d, j, m) → Went l i n j m d) :
    ∀ (k i n : Nat) (ds : List Dat) (j m : Nat), i ≤ l.length → n ≤ 2000 → items g l k i n = .inr (ds, j, m) → WentL l i n j m ds
  | 0, i, n, ds, j, m, hi, hn, h => by simp [items] at h
  | k + 1, i, n, ds, j, m, hi, hn, h => by
    unfold items at h
    simp only at h
    have hs := skip_le l i hi
    generalize hp : i + skipL (l.drop i) false = p at h hs
    have hip : i ≤ p := by omega
    cases hc : l[p]? with
    | none => rw [hc] at h; simp at h
    | some c =>
      rw [hc] at h
      simp only at h
      have hlt := (List.getElem?_eq_some_iff.1 hc).1
      by_cases h41 : c = 41
      · rw [if_pos h41] at h
        simp at h
        obtain ⟨rfl, rfl, rfl⟩ := h
        exact ⟨by omega, by omega, by simp, hn⟩
      · rw [if_neg h41] at h
        cases hgg : g p n with
        | inl e => rw [hgg] at h; simp at h
        | inr x =>
          obtain ⟨d, j1, m1⟩ := x
          rw [hgg] at h
          simp only at h
          have hw := hg p n d j1 m1 hs hn hgg
          cases hii : items g l k j1 m1 with
          | inl e => rw [hii] at h; simp at h
          | inr y =>
            obtain ⟨ds2, j2, m2⟩ := y
            rw [hii] at h
            simp at h
            obtain ⟨rfl, rfl, rfl⟩ := h
            have hw2 := items_went g l hg k j1 m1 ds2 j2 m2 hw.upto hw.much hii
            have := hw.on
            have := hw.more
            have := hw2.on
            have := hw2.more
            exact ⟨by omega, hw2.upto, by simp; omega, hw2.much⟩

theorem word_went {l : List UInt8} {i n : Nat} {c : UInt8} {d : Dat} {j m : Nat} (hc : l[i]? = some c) (hl : letB (c.toNat : Int) = true) (hn : n + 1 ≤ 2000) (h : wordAt (byteL (l.drop i)) i (n + 1) = .inr (d, j, m)) : Went l i n j m d := by
  have hle := byteL_le (l.drop i)
  rw [List.length_drop] at hle
  have hlt := (List.getElem?_eq_some_iff.1 hc).1
  have hpos : 1 ≤ (byteL (l.drop i)).length := by
    rw [drop_cons hc]
    simp [byteL, hl]
  unfold wordAt at h
  split at h
  · split at h
    · simp at h
    · split at h
      · simp at h
        obtain ⟨rfl, rfl, rfl⟩ := h
        exact ⟨by omega, by omega, by omega, hn, by show (0 : Nat) ≤ 20; omega⟩
      · simp at h
  · split at h
    · simp at h
    · rename_i h20
      simp at h
      obtain ⟨rfl, rfl, rfl⟩ := h
      refine ⟨by omega, by omega, by omega, hn, ?_⟩
      show (byteL (l.drop i)).toArray.size ≤ 20
      rw [List.size_toArray]
      omega

theorem one_went (l : List UInt8) : ∀ (f i n : Nat) (d : Dat) (j m : Nat), i ≤ l.length → n ≤ 2000 → one l f i n = .inr (d, j, m) → Went l i n j m d
  | 0, i, n, d, j, m, _, _, h => by simp [one] at h
  | f + 1, i, n, d, j, m, hi, hn, h => by
    unfold one at h
    by_cases h2 : 2000 < n + 1
    · rw [if_pos h2] at h; simp at h
    · rw [if_neg h2] at h
      cases hc : l[i]? with
      | none => rw [hc] at h; simp at h
      | some c =>
        rw [hc] at h
        simp only at h
        have hlt := (List.getElem?_eq_some_iff.1 hc).1
        by_cases c40 : c = 40
        · rw [if_pos c40] at h
          cases hit : items (one l f) l (l.length + 1) (i + 1) (n + 1) with
          | inl e => rw [hit] at h; simp at h
          | inr y =>
            obtain ⟨ds, j2, m2⟩ := y
            rw [hit] at h
            simp at h
            obtain ⟨rfl, rfl, rfl⟩ := h
            have hw := items_went (one l f) l (one_went l f) _ _ _ ds j2 m2 (by omega) (by omega) hit
            have := hw.on
            have := hw.more
            exact ⟨by omega, hw.upto, by omega, hw.much, by show (0 : Nat) ≤ 20; omega⟩
        · rw [if_neg c40] at h
          by_cases c39 : c = 39
          · rw [if_pos c39] at h
            by_cases hq : f = 0 ∨ 2000 < n + 2
            · rw [if_pos hq] at h; simp at h
            · rw [if_neg hq] at h
              cases ho : one l f (i + 1 + skipL (l.drop (i + 1)) false) (n + 2) with
              | inl e => rw [ho] at h; simp at h
              | inr y =>
                obtain ⟨d2, j2, m2⟩ := y
                rw [ho] at h
                simp at h
                obtain ⟨rfl, rfl, rfl⟩ := h
                have hs := skip_le l (i + 1) (by omega)
                have hw := one_went l f _ _ d2 j2 m2 hs (by omega) ho
                have := hw.on
                have := hw.more
                exact ⟨by omega, hw.upto, by omega, hw.much, by show (0 : Nat) ≤ 20; omega⟩
          · rw [if_neg c39] at h
            by_cases c35 : c = 35
            · rw [if_pos c35] at h
              have hb : ∀ x, byteL (l.drop (i + 1)) = [x] → i + 2 ≤ l.length := by
                intro x hx
                have h1 := byteL_le (l.drop (i + 1))
                rw [hx, List.length_drop] at h1
                simp at h1
                omega
              by_cases t1 : byteL (l.drop (i + 1)) = [116]
              · rw [if_pos t1] at h
                simp at h
                obtain ⟨rfl, rfl, rfl⟩ := h
                exact ⟨by omega, hb _ t1, by omega, by omega, by show (0 : Nat) ≤ 20; omega⟩
              · rw [if_neg t1] at h
                by_cases t2 : byteL (l.drop (i + 1)) = [102]
                · rw [if_pos t2] at h
                  simp at h
                  obtain ⟨rfl, rfl, rfl⟩ := h
                  exact ⟨by omega, hb _ t2, by omega, by omega, by show (0 : Nat) ≤ 20; omega⟩
                · rw [if_neg t2] at h; simp at h
            · rw [if_neg c35] at h
              by_cases hl : letB (c.toNat : Int) = true
              · rw [if_pos hl] at h
                exact word_went hc hl (by omega) h
              · rw [if_neg hl] at h; simp at h
end
section
set_option linter.unusedVariables false
set_option linter.unusedSimpArgs false

inductive Er (α : Type) where
  | ok (a : α)
  | no (e : Int)
def Er.bind {α β : Type} (x : Er α) (k : α → Er β) : Er β :=
  match x with
  | .ok a => k a
  | .no e => .no e
mutual
def bareQ : Dat → Dat
  | ⟨k, n, nm, st, lb, ks⟩ => ⟨k, if k = 1 ∨ k = 2 then n else 0, if k = 3 then nm else ⟨#[]⟩, 0, 0, if k = 4 then bareQL ks else []⟩
def bareQL : List Dat → List Dat
  | [] => []
  | d :: r => bareQ d :: bareQL r
end
def thingsF (d : Dat) : Er (List Dat) := if d.kind = 4 ∧ d.kids ≠ [] then .ok d.kids else .no 2
def nameF (d : Dat) : Er ByteArray := if d.kind = 3 then .ok d.name else .no 2
def headF : List Dat → Er (ByteArray × List Dat)
  | [] => .no 2
  | x :: r => (nameF x).bind fun n => .ok (n, r)
def formF (d : Dat) : Er (ByteArray × List Dat) := (thingsF d).bind headF
def oneF : List Dat → Er Dat
  | [x] => .ok x
  | _ => .no 2
def namesF : List Dat → Er (List ByteArray)
  | [] => .ok []
  | d :: r => (nameF d).bind fun n => (namesF r).bind fun l => .ok (n :: l)
def justF (d : Dat) (n : Nat) : Er (List ByteArray) := if d.kind = 4 ∧ d.kids.length = n then namesF d.kids else .no 2
def joinL : List ByteArray → List UInt8
  | [] => []
  | [x] => x.data.toList
  | x :: y :: r => x.data.toList ++ 32 :: joinL (y :: r)
def joinB (l : List ByteArray) : ByteArray := ⟨(joinL l).toArray⟩
def calledF (d : Dat) : Er ByteArray := (thingsF d).bind fun l => (namesF l).bind fun ns => if (joinB ns).size ≤ 60 then .ok (joinB ns) else .no 4
inductive Se where
  | mk (kind : Int) (name : ByteArray) (names as_ : List ByteArray) (pre : ByteArray) (kids : List Se)
def bOnly : ByteArray := ⟨#[111, 110, 108, 121]⟩
def bExcept : ByteArray := ⟨#[101, 120, 99, 101, 112, 116]⟩
def bPrefix : ByteArray := ⟨#[112, 114, 101, 102, 105, 120]⟩
def bRename : ByteArray := ⟨#[114, 101, 110, 97, 109, 101]⟩
def setWordsB : List ByteArray := [⟨#[]⟩, ⟨#[]⟩, bOnly, bExcept, bPrefix, bRename]
def placeB (x : ByteArray) : Nat → List ByteArray → Option Nat
  | _, [] => none
  | i, y :: r => if y = x then some i else placeB x (i + 1) r
def kindF : List Dat → Int
  | x :: y :: _ => if x.kind = 3 ∧ y.kind = 4 then (match placeB x.name 0 setWordsB with | some i => (i : Int) | none => 1) else 1
  | _ => 1
def renamesF : List Dat → Er (List ByteArray × List ByteArray)
  | [] => .ok ([], [])
  | d :: r => (justF d 2).bind fun p => (renamesF r).bind fun q => .ok (p.getD 0 ⟨#[]⟩ :: q.1, p.getD 1 ⟨#[]⟩ :: q.2)
def setF : Nat → Dat → Er Se
  | 0, _ => .no 4
  | n + 1, d => (thingsF d).bind fun l =>
    if kindF l = 1 then (calledF d).bind fun nm => .ok (.mk 1 nm [] [] ⟨#[]⟩ [])
    else (setF n (l.getD 1 d)).bind fun k =>
      if kindF l = 2 ∨ kindF l = 3 then (namesF (l.drop 2)).bind fun ns => .ok (.mk (kindF l) ⟨#[]⟩ ns [] ⟨#[]⟩ [k])
      else if kindF l = 4 then (oneF (l.drop 2)).bind fun x => (nameF x).bind fun p => .ok (.mk 4 ⟨#[]⟩ [] [] p [k])
      else if kindF l = 5 then (renamesF (l.drop 2)).bind fun q => .ok (.mk 5 ⟨#[]⟩ q.1 q.2 ⟨#[]⟩ [k])
      else .ok (.mk (kindF l) ⟨#[]⟩ [] [] ⟨#[]⟩ [k])
structure LibS where
  name : ByteArray
  exports : List (ByteArray × ByteArray)
  imports : List Se
  body : List Dat
structure Env where
  files : List (ByteArray × ByteArray)
  features : List ByteArray
  libs : List ByteArray
def hasB (x : ByteArray) (l : List ByteArray) : Bool := l.any fun y => decide (y = x)
def bLibrary : ByteArray := ⟨#[108, 105, 98, 114, 97, 114, 121]⟩
def bProgram : ByteArray := ⟨#[112, 114, 111, 103, 114, 97, 109]⟩
def bNot : ByteArray := ⟨#[110, 111, 116]⟩
def bAnd : ByteArray := ⟨#[97, 110, 100]⟩
def bOr : ByteArray := ⟨#[111, 114]⟩
def bElse : ByteArray := ⟨#[101, 108, 115, 101]⟩
def bExport : ByteArray := ⟨#[101, 120, 112, 111, 114, 116]⟩
def bImport : ByteArray := ⟨#[105, 109, 112, 111, 114, 116]⟩
def bBegin : ByteArray := ⟨#[98, 101, 103, 105, 110]⟩
def bInclude : ByteArray := ⟨#[105, 110, 99, 108, 117, 100, 101]⟩
def bCond : ByteArray := ⟨#[99, 111, 110, 100, 45, 101, 120, 112, 97, 110, 100]⟩
mutual
def holdsD (E : Env) : Dat → Er Bool
  | ⟨k, _, nm, _, _, ks⟩ => if k = 3 then .ok (hasB nm E.features) else if k = 4 then holdsK E ks else .no 2
def holdsK (E : Env) : List Dat → Er Bool
  | [] => .no 2
  | h :: r =>
    if h.kind = 3 then
      if h.name = bLibrary then (oneF r).bind fun x => (calledF x).bind fun n => .ok (hasB n E.libs)
      else if h.name = bNot then holdsN E r
      else if h.name = bAnd then holdsA E r
      else if h.name = bOr then holdsO E r
      else .no 2
    else .no 2
def holdsN (E : Env) : List Dat → Er Bool
  | [] => .no 2
  | x :: r => match r with
    | [] => (holdsD E x).bind fun b => .ok (!b)
    | _ :: _ => .no 2
def holdsA (E : Env) : List Dat → Er Bool
  | [] => .ok true
  | x :: r => (holdsD E x).bind fun b => if b then holdsA E r else .ok false
def holdsO (E : Env) : List Dat → Er Bool
  | [] => .ok false
  | x :: r => (holdsD E x).bind fun b => if b then .ok true else holdsO E r
end
def clauseF (E : Env) (h : Dat) : Er Bool := if h.kind = 3 ∧ h.name = bElse then .ok true else holdsD E h
def exportF (d : Dat) : Er (ByteArray × ByteArray) :=
  if d.kind = 3 then .ok (d.name, d.name)
  else (justF d 3).bind fun l => if l.getD 0 ⟨#[]⟩ = bRename then .ok (l.getD 2 ⟨#[]⟩, l.getD 1 ⟨#[]⟩) else .no 2
def exportsF : List Dat → LibS → Er LibS
  | [], s => .ok s
  | d :: r, s => (exportF d).bind fun e =>
    if s.exports.any (fun x => decide (x.1 = e.1)) then .no 8
    else if s.exports.length < 200 then exportsF r { s with exports := s.exports ++ [e] }
    else .no 5
def importsF : List Dat → LibS → Er LibS
  | [], s => .ok s
  | d :: r, s => if s.imports.length < 20 then (setF 12 d).bind fun x => importsF r { s with imports := s.imports ++ [x] } else .no 5
def addF (l : List Dat) (s : LibS) : Er LibS := if s.body.length + l.length ≤ 200 then .ok { s with body := s.body ++ l } else .no 5
def fileF (n : ByteArray) : List (ByteArray × ByteArray) → Option ByteArray
  | [] => none
  | f :: r => if f.1 = n then some f.2 else fileF n r
def includeF (E : Env) : List Dat → LibS → Er LibS
  | [], s => .ok s
  | d :: r, s => (nameF d).bind fun n =>
    match fileF n E.files with
    | none => .no 6
    | some t => match readL t.data.toList with
      | .inl x => .no x.1
      | .inr ds => (addF ds s).bind fun s' => includeF E r s'
mutual
def declD (E : Env) : Dat → LibS → Er LibS
  | ⟨k, _, _, _, _, ks⟩, s => if k = 4 then declK E ks s else .no 2
def declK (E : Env) : List Dat → LibS → Er LibS
  | [], _ => .no 2
  | h :: r, s =>
    if h.kind = 3 then
      if h.name = bExport then (if s.name = ⟨#[]⟩ then .no 2 else exportsF r s)
      else if h.name = bImport then importsF r s
      else if h.name = bBegin then addF (bareQL r) s
      else if h.name = bInclude then includeF E r s
      else if h.name = bCond then declC E r s
      else .no 2
    else .no 2
def declL (E : Env) : List Dat → LibS → Er LibS
  | [], s => .ok s
  | d :: r, s => (declD E d s).bind fun s' => declL E r s'
def declC (E : Env) : List Dat → LibS → Er LibS
  | [], s => .ok s
  | c :: r, s => declB E c (fun s' => declC E r s') s
def declB (E : Env) : Dat → (LibS → Er LibS) → LibS → Er LibS
  | ⟨k, _, _, _, _, ks⟩, cont, s => if k = 4 then declT E ks cont s else .no 2
def declT (E : Env) : List Dat → (LibS → Er LibS) → LibS → Er LibS
  | [], _, _ => .no 2
  | h :: t, cont, s => (clauseF E h).bind fun b => if b then declL E t s else cont s
end
def lib0 : LibS := ⟨⟨#[]⟩, [], [], []⟩
def allF (E : Env) (d : Dat) : Er LibS :=
  (formF d).bind fun f =>
    if f.1 = bLibrary then (match f.2 with | [] => .no 2 | x :: r => (calledF x).bind fun n => declL E r { lib0 with name := n })
    else if f.1 = bProgram then declL E f.2 lib0
    else .no 2
def parseF (E : Env) (d : Dat) : Er LibS :=
  if (wrong [d]).1 = 0 then (if E.files.length ≤ 30 then allF E d else .no 5) else .no (wrong [d]).1
end
section
set_option linter.unusedVariables false
set_option linter.unusedSimpArgs false

theorem wrong_one (d : Dat) : (wrong [d]).1 = (chk 40 d 0).1 := by
  unfold wrong wrongFrom
  by_cases h : (chk 40 d 0).1 = 0
  · rw [if_pos h, h]; rfl
  · rw [if_neg h]
theorem chkL_append (g : Dat → Nat → Int × Nat) : ∀ (a b : List Dat) (n : Nat), chkL g (a ++ b) n = if (chkL g a n).1 = 0 then chkL g b (chkL g a n).2 else chkL g a n
  | [], b, n => by simp [chkL]
  | d :: r, b, n => by
    rw [List.cons_append]
    show (if (g d n).1 = 0 then chkL g (r ++ b) (g d n).2 else g d n) = _
    by_cases h : (g d n).1 = 0
    · have e : chkL g (d :: r) n = chkL g r (g d n).2 := by show (if (g d n).1 = 0 then _ else _) = _; rw [if_pos h]
      rw [if_pos h, e, chkL_append g r b]
    · have e : chkL g (d :: r) n = g d n := by show (if (g d n).1 = 0 then _ else _) = _; rw [if_neg h]
      rw [if_neg h, e, if_neg h]
theorem chkL_shift (g : Dat → Nat → Int × Nat) (hg : ∀ d n k, (g d n).1 ≠ 4 → (g d (n + k)).1 ≠ 4 → g d (n + k) = ((g d n).1, (g d n).2 + k)) : ∀ (l : List Dat) (n k : Nat), (chkL g l n).1 ≠ 4 → (chkL g l (n + k)).1 ≠ 4 → chkL g l (n + k) = ((chkL g l n).1, (chkL g l n).2 + k)
  | [], n, k, _, _ => rfl
  | d :: r, n, k, h1, h2 => by
    unfold chkL at h1 h2 ⊢
    have a2 : (g d (n + k)).1 ≠ 4 := by
      intro e
      rw [if_neg (by rw [e]; decide)] at h2
      exact h2 e
    have a1 : (g d n).1 ≠ 4 := by
      intro e
      rw [if_neg (by rw [e]; decide)] at h1
      exact h1 e
    have e := hg d n k a1 a2
    rw [e] at h2 ⊢
    by_cases h : (g d n).1 = 0
    · rw [if_pos h] at h1 h2 ⊢
      rw [if_pos h]
      exact chkL_shift g hg r _ k h1 h2
    · rw [if_neg h, if_neg h]
theorem chk_shift : ∀ (f : Nat) (d : Dat) (n k : Nat), (chk f d n).1 ≠ 4 → (chk f d (n + k)).1 ≠ 4 → chk f d (n + k) = ((chk f d n).1, (chk f d n).2 + k)
  | 0, d, n, k, h, _ => absurd rfl h
  | f + 1, d, n, k, h1, h2 => by
    unfold chk at h1 h2 ⊢
    by_cases c1 : 2000 < n + 1
    · rw [if_pos c1] at h1; exact absurd rfl h1
    by_cases c2 : 2000 < n + k + 1
    · rw [if_pos c2] at h2; exact absurd rfl h2
    rw [if_neg c1] at h1 ⊢
    rw [if_neg c2] at h2 ⊢
    have e : n + k + 1 = n + 1 + k := by omega
    by_cases ha : alone d = 0
    · rw [if_pos ha] at h1 h2 ⊢
      rw [if_pos ha]
      by_cases hk : d.kind = 4
      · rw [if_pos hk] at h1 h2 ⊢
        rw [if_pos hk, e]
        rw [e] at h2
        exact chkL_shift _ (chk_shift f) _ _ _ h1 h2
      · rw [if_neg hk, if_neg hk, e]
    · rw [if_neg ha, if_neg ha, e]

def liD (ks : List Dat) : Dat := ⟨4, 0, ⟨#[]⟩, 0, 0, ks⟩
def syD (s : ByteArray) : Dat := ⟨3, 0, s, 0, 0, []⟩
theorem chk_li (f : Nat) (ks : List Dat) (n : Nat) : chk (f + 1) (liD ks) n = if 2000 < n + 1 then (4, n + 1) else chkL (chk f) ks (n + 1) := by
  unfold chk
  by_cases c : 2000 < n + 1
  · rw [if_pos c, if_pos c]
  · rw [if_neg c, if_neg c]; rfl
theorem alone_sy {s : ByteArray} (h : namedB s = true) : alone (syD s) = 0 := by
  unfold alone syD
  simp [h]
theorem chk_sy (f : Nat) {s : ByteArray} (h : namedB s = true) (n : Nat) : chk (f + 1) (syD s) n = if 2000 < n + 1 then (4, n + 1) else (0, n + 1) := by
  unfold chk
  by_cases c : 2000 < n + 1
  · rw [if_pos c, if_pos c]
  · rw [if_neg c, if_neg c, if_pos (alone_sy h)]
    rfl
theorem chkL_cons (g : Dat → Nat → Int × Nat) (d : Dat) (r : List Dat) (n : Nat) : chkL g (d :: r) n = if (g d n).1 = 0 then chkL g r (g d n).2 else g d n := rfl
theorem chk_word (f : Nat) {s : ByteArray} (h : namedB s = true) (a : List Dat) (n : Nat) : chk (f + 2) (liD (syD s :: a)) n = if 2000 < n + 2 then (4, min (n + 2) (max (n + 1) 2001)) else chkL (chk (f + 1)) a (n + 2) := by
  rw [chk_li]
  by_cases c : 2000 < n + 1
  · rw [if_pos c, if_pos (by omega)]
    congr 1
    omega
  · rw [if_neg c, chkL_cons, chk_sy f h]
    by_cases c2 : 2000 < n + 1 + 1
    · rw [if_pos c2, if_neg (show ¬ ((4 : Int) = 0) by decide), if_pos (by omega)]
      congr 1
      omega
    · rw [if_neg c2, if_pos rfl, if_neg (by omega)]
theorem split_chk (f : Nat) {s : ByteArray} (h : namedB s = true) (a b : List Dat) (n : Nat) :
    (chkL (chk (f + 2)) [liD (syD s :: (a ++ b))] n).1 = 4 ∨ (chkL (chk (f + 2)) [liD (syD s :: a), liD (syD s :: b)] n).1 = 4 ∨
    (chkL (chk (f + 2)) [liD (syD s :: (a ++ b))] n).1 = (chkL (chk (f + 2)) [liD (syD s :: a), liD (syD s :: b)] n).1 := by
  have one : ∀ x : Int × Nat, (if x.1 = 0 then chkL (chk (f + 2)) [] x.2 else x).1 = x.1 := fun x => by
    by_cases e : x.1 = 0
    · rw [if_pos e, e]; rfl
    · rw [if_neg e]
  rw [chkL_cons, one, chkL_cons, chkL_cons, chk_word f h, chk_word f h]
  by_cases c : 2000 < n + 2
  · rw [if_pos c, if_pos c]; exact Or.inl rfl
  rw [if_neg c, if_neg c, chkL_append]
  by_cases ha : (chkL (chk (f + 1)) a (n + 2)).1 = 0
  · rw [if_pos ha, if_pos ha, one, chk_word f h]
    generalize (chkL (chk (f + 1)) a (n + 2)).2 = m
    by_cases c2 : 2000 < m + 2
    · rw [if_pos c2]; exact Or.inr (Or.inl rfl)
    · rw [if_neg c2]
      by_cases d1 : (chkL (chk (f + 1)) b m).1 = 4
      · exact Or.inl d1
      by_cases d2 : (chkL (chk (f + 1)) b (m + 2)).1 = 4
      · exact Or.inr (Or.inl d2)
      exact Or.inr (Or.inr (by rw [chkL_shift _ (chk_shift (f + 1)) b m 2 d1 d2]))
  · rw [if_neg ha, if_neg ha]
    exact Or.inr (Or.inr rfl)
def bM : ByteArray := ⟨#[109]⟩
def libM (l : List Dat) : Dat := liD (syD bLibrary :: liD [syD bM] :: l)
theorem named_lib : namedB bLibrary = true := by decide
theorem named_m : namedB bM = true := by decide
theorem libM_wrong (l : List Dat) : (wrong [libM l]).1 = (chkL (chk 39) l 4).1 := by
  rw [wrong_one]
  unfold libM
  have e1 : chk 39 (syD bLibrary) 1 = (0, 2) := by rw [chk_sy 38 named_lib]; rfl
  have e3 : chk 38 (syD bM) 3 = (0, 4) := by rw [chk_sy 37 named_m]; rfl
  have e2 : chk 39 (liD [syD bM]) 2 = (0, 4) := by
    rw [chk_li, if_neg (by decide), chkL_cons, e3, if_pos rfl]; rfl
  rw [chk_li, if_neg (by decide), chkL_cons, e1, if_pos rfl, chkL_cons, e2, if_pos rfl]
theorem Er.bind_assoc {α β γ : Type} (x : Er α) (f : α → Er β) (g : β → Er γ) : (x.bind f).bind g = x.bind fun a => (f a).bind g := by cases x <;> rfl
theorem Er.bind_ok {α : Type} (x : Er α) : (x.bind fun a => .ok a) = x := by cases x <;> rfl
theorem exportsF_append : ∀ (a b : List Dat) (s : LibS), exportsF (a ++ b) s = (exportsF a s).bind fun s' => exportsF b s'
  | [], b, s => by rw [exportsF]; rfl
  | d :: r, b, s => by
    rw [List.cons_append, exportsF, exportsF, Er.bind_assoc]
    congr 1
    funext e
    by_cases h : s.exports.any (fun x => decide (x.1 = e.1)) = true
    · rw [if_pos h, if_pos h]; rfl
    · rw [if_neg h, if_neg h]
      by_cases h2 : s.exports.length < 200
      · rw [if_pos h2, if_pos h2]
        exact exportsF_append r b _
      · rw [if_neg h2, if_neg h2]; rfl
theorem exportsF_name : ∀ (a : List Dat) (s s' : LibS), exportsF a s = .ok s' → s'.name = s.name
  | [], s, s', h => by rw [exportsF] at h; cases h; rfl
  | d :: r, s, s', h => by
    rw [exportsF] at h
    cases he : exportF d with
    | no x => rw [he] at h; cases h
    | ok e =>
      rw [he] at h
      simp only [Er.bind] at h
      split at h
      · cases h
      · split at h
        · exact (exportsF_name r _ s' h).trans rfl
        · cases h
theorem importsF_append : ∀ (a b : List Dat) (s : LibS), importsF (a ++ b) s = (importsF a s).bind fun s' => importsF b s'
  | [], b, s => by rw [importsF]; rfl
  | d :: r, b, s => by
    rw [List.cons_append, importsF, importsF]
    by_cases h : s.imports.length < 20
    · rw [if_pos h, if_pos h, Er.bind_assoc]
      congr 1
      funext x
      exact importsF_append r b _
    · rw [if_neg h, if_neg h]; rfl
theorem includeF_append (E : Env) : ∀ (a b : List Dat) (s : LibS), includeF E (a ++ b) s = (includeF E a s).bind fun s' => includeF E b s'
  | [], b, s => by rw [includeF]; rfl
  | d :: r, b, s => by
    rw [List.cons_append, includeF, includeF, Er.bind_assoc]
    congr 1
    funext n
    cases fileF n E.files with
    | none => rfl
    | some t =>
      show (match readL t.data.toList with | .inl x => Er.no x.1 | .inr ds => (addF ds s).bind fun s' => includeF E (r ++ b) s') = Er.bind (match readL t.data.toList with | .inl x => Er.no x.1 | .inr ds => (addF ds s).bind fun s' => includeF E r s') _
      cases readL t.data.toList with
      | inl x => rfl
      | inr ds =>
        show ((addF ds s).bind fun s' => includeF E (r ++ b) s') = ((addF ds s).bind fun s' => includeF E r s').bind fun s' => includeF E b s'
        rw [Er.bind_assoc]
        congr 1
        funext s'
        exact includeF_append E r b s'
theorem bareQL_append : ∀ (a b : List Dat), bareQL (a ++ b) = bareQL a ++ bareQL b
  | [], b => by rw [bareQL]; rfl
  | d :: r, b => by rw [List.cons_append, bareQL, bareQL, bareQL_append r b]; rfl
theorem addF_append (a b : List Dat) (s : LibS) : addF (a ++ b) s = (addF a s).bind fun s' => addF b s' := by
  unfold addF
  rw [List.length_append]
  by_cases h : s.body.length + a.length ≤ 200
  · rw [if_pos h]
    show _ = (if (s.body ++ a).length + b.length ≤ 200 then _ else _)
    rw [List.length_append]
    by_cases h2 : s.body.length + a.length + b.length ≤ 200
    · rw [if_pos (by omega), if_pos h2, List.append_assoc]
    · rw [if_neg (by omega), if_neg h2]
  · rw [if_neg h, if_neg (by omega)]; rfl
theorem declD_li (E : Env) (ks : List Dat) (s : LibS) : declD E (liD ks) s = declK E ks s := by
  unfold liD
  rw [declD, if_pos rfl]
theorem declL_one (E : Env) (d : Dat) (s : LibS) : declL E [d] s = declD E d s := by
  rw [declL]
  cases declD E d s with
  | no x => rfl
  | ok s' => show declL E [] s' = _; rw [declL]
theorem declL_append (E : Env) : ∀ (a b : List Dat) (s : LibS), declL E (a ++ b) s = (declL E a s).bind fun s' => declL E b s'
  | [], b, s => by rw [declL]; rfl
  | d :: r, b, s => by
    rw [List.cons_append, declL, declL, Er.bind_assoc]
    congr 1
    funext s'
    exact declL_append E r b s'
def splitW (w : ByteArray) : Prop := w = bBegin ∨ w = bImport ∨ w = bInclude ∨ w = bExport
theorem split_decl (E : Env) {w : ByteArray} (hw : splitW w) (a b : List Dat) (s : LibS) (hs : s.name ≠ ⟨#[]⟩) :
    declL E [liD (syD w :: (a ++ b))] s = declL E [liD (syD w :: a), liD (syD w :: b)] s := by
  rw [declL_one, declL, declD_li, declD_li, show (declL E [liD (syD w :: b)]) = fun s' => declD E (liD (syD w :: b)) s' from funext fun s' => declL_one E _ s']
  have e : ∀ s', declD E (liD (syD w :: b)) s' = declK E (syD w :: b) s' := fun s' => declD_li E _ s'
  rw [show (fun s' => declD E (liD (syD w :: b)) s') = fun s' => declK E (syD w :: b) s' from funext e]
  have kd : ∀ l s', declK E (syD w :: l) s' = (if w = bExport then (if s'.name = ⟨#[]⟩ then .no 2 else exportsF l s') else if w = bImport then importsF l s' else if w = bBegin then addF (bareQL l) s' else if w = bInclude then includeF E l s' else if w = bCond then declC E l s' else .no 2) := fun l s' => by
    rw [declK]; rfl
  rw [kd, kd, show (fun s' => declK E (syD w :: b) s') = _ from funext (kd b)]
  rcases hw with rfl | rfl | rfl | rfl
  · simp only [show ¬ bBegin = bExport from by decide, show ¬ bBegin = bImport from by decide, if_true, if_false]
    rw [bareQL_append, addF_append]
  · simp only [show ¬ bImport = bExport from by decide, if_true, if_false]
    rw [importsF_append]
  · simp only [show ¬ bInclude = bExport from by decide, show ¬ bInclude = bImport from by decide, show ¬ bInclude = bBegin from by decide, if_true, if_false]
    rw [includeF_append]
  · simp only [if_true]
    rw [if_neg hs, exportsF_append]
    rw [if_neg hs]
    cases hx : exportsF a s with
    | no x => rfl
    | ok s' =>
      show exportsF b s' = if s'.name = ⟨#[]⟩ then _ else _
      rw [if_neg (by rw [exportsF_name a s s' hx]; exact hs)]
theorem called_m : calledF (liD [syD bM]) = .ok bM := rfl
theorem allF_libM (E : Env) (l : List Dat) : allF E (libM l) = declL E l { lib0 with name := bM } := by
  have e : formF (libM l) = .ok (bLibrary, liD [syD bM] :: l) := rfl
  unfold allF
  rw [e]
  show (if bLibrary = bLibrary then (calledF (liD [syD bM])).bind (fun n => declL E l { lib0 with name := n }) else (if bLibrary = bProgram then declL E (liD [syD bM] :: l) lib0 else .no 2)) = _
  rw [if_pos rfl, called_m]
  rfl
theorem split_plain (E : Env) {w : ByteArray} (hw : splitW w) (a b : List Dat) :
    parseF E (libM [liD (syD w :: (a ++ b))]) = .no 4 ∨ parseF E (libM [liD (syD w :: a), liD (syD w :: b)]) = .no 4 ∨ parseF E (libM [liD (syD w :: (a ++ b))]) = parseF E (libM [liD (syD w :: a), liD (syD w :: b)]) := by
  have hn : namedB w = true := by rcases hw with rfl | rfl | rfl | rfl <;> decide
  unfold parseF
  rw [libM_wrong, libM_wrong]
  rcases split_chk 37 hn a b 4 with h | h | h
  · refine Or.inl ?_
    rw [h, if_neg (by decide)]
  · refine Or.inr (Or.inl ?_)
    rw [h, if_neg (by decide)]
  · refine Or.inr (Or.inr ?_)
    rw [h, allF_libM, allF_libM, split_decl E hw a b _ (by decide)]
end
section
set_option linter.unusedVariables false
set_option linter.unusedSimpArgs false

def progD (l : List Dat) : Dat := liD (syD bProgram :: l)
def condD (r : Dat) (x y : List Dat) : Dat := progD [liD [syD bCond, liD (r :: x), liD (syD bElse :: y)]]
def notD (r : Dat) : Dat := liD [syD bNot, r]
theorem allF_prog (E : Env) (l : List Dat) : allF E (progD l) = declL E l lib0 := by
  have e : formF (progD l) = .ok (bProgram, l) := rfl
  unfold allF
  rw [e]
  show (if bProgram = bLibrary then (match l with | [] => .no 2 | x :: r => (calledF x).bind fun n => declL E r { lib0 with name := n }) else (if bProgram = bProgram then declL E l lib0 else .no 2)) = _
  rw [if_neg (by decide), if_pos rfl]
theorem parse_ok {E : Env} {d : Dat} {l : LibS} (h : parseF E d = .ok l) : allF E d = .ok l := by
  unfold parseF at h
  split at h
  · split at h
    · exact h
    · cases h
  · cases h
theorem decl_condQ (E : Env) (r : Dat) (x y : List Dat) (s : LibS) : declD E (liD [syD bCond, liD (r :: x), liD (syD bElse :: y)]) s = (clauseF E r).bind fun b => if b then declL E x s else declL E y s := by
  rw [declD_li, declK]
  have k : ∀ l s', (if (syD bCond).kind = 3 then (if (syD bCond).name = bExport then (if s'.name = ⟨#[]⟩ then .no 2 else exportsF l s') else if (syD bCond).name = bImport then importsF l s' else if (syD bCond).name = bBegin then addF (bareQL l) s' else if (syD bCond).name = bInclude then includeF E l s' else if (syD bCond).name = bCond then declC E l s' else .no 2) else .no 2) = declC E l s' := fun l s' => rfl
  rw [k, declC]
  show declB E (liD (r :: x)) (fun s' => declC E [liD (syD bElse :: y)] s') s = _
  unfold liD
  rw [declB, if_pos rfl, declT]
  congr 1
theorem clause_not (E : Env) {r : Dat} (hr : ¬ (r.kind = 3 ∧ r.name = bElse)) : clauseF E (notD r) = (clauseF E r).bind fun b => .ok (!b) := by
  unfold clauseF
  rw [if_neg hr, if_neg (show ¬ ((notD r).kind = 3 ∧ (notD r).name = bElse) from fun h => absurd (show (4 : Int) = 3 from h.1) (by decide))]
  unfold notD liD
  rw [holdsD, if_neg (by decide), if_pos rfl, holdsK, if_pos (show (syD bNot).kind = 3 from rfl), if_neg (show ¬ (syD bNot).name = bLibrary by decide), if_pos (show (syD bNot).name = bNot from rfl), holdsN]
theorem else_plain (E : Env) {r : Dat} (hr : ¬ (r.kind = 3 ∧ r.name = bElse)) (a b : List Dat) {x y p q : LibS} (hx : parseF E (condD r a b) = .ok x) (hy : parseF E (condD (notD r) b a) = .ok y) (hp : parseF E (progD a) = .ok p) (hq : parseF E (progD b) = .ok q) : x = y ∧ (x = p ∨ x = q) := by
  have hx := parse_ok hx
  have hy := parse_ok hy
  have hp := parse_ok hp
  have hq := parse_ok hq
  unfold condD at hx hy
  rw [allF_prog, declL_one, decl_condQ] at hx hy
  rw [allF_prog] at hp hq
  rw [clause_not E hr, Er.bind_assoc] at hy
  cases hc : clauseF E r with
  | no z => rw [hc] at hx; cases hx
  | ok t =>
    rw [hc] at hx hy
    cases t with
    | true =>
      have h1 : declL E a lib0 = .ok x := hx
      have h2 : declL E a lib0 = .ok y := hy
      rw [h1] at h2 hp
      cases h2
      cases hp
      exact ⟨rfl, Or.inl rfl⟩
    | false =>
      have h1 : declL E b lib0 = .ok x := hx
      have h2 : declL E b lib0 = .ok y := hy
      rw [h1] at h2 hq
      cases h2
      cases hq
      exact ⟨rfl, Or.inr rfl⟩
end
end Go.Proofs.YtonafbennobgdaaGreatDoor
