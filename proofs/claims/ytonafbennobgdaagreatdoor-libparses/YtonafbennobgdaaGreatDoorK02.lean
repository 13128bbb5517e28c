/- How a text is read: plain. -/
import Derived.Lib.Bytealg
import Derived.Test.YtonafbennobgdaaGreatDoorK01
namespace Go.Proofs.YtonafbennobgdaaGreatDoor
set_option linter.unusedVariables false
set_option linter.unusedSimpArgs false
def noted (c : UInt8) (note : Bool) : Bool := if c = 59 then true else if c = 10 then false else note
def isBlank (c : UInt8) : Bool := decide (c = 32) || decide (c = 9) || decide (c = 10)
def skipL : List UInt8 → Bool → Nat
 | [], _ => 0
 | c :: r, note => if noted c note || isBlank c then skipL r (noted c note) + 1 else 0
def lineL (l : List UInt8) : Nat := (l.takeWhile fun c => c ≠ 10).length
def byteL (l : List UInt8) : List UInt8 := l.takeWhile fun c => letB (c.toNat : Int)
def digN (l : List UInt8) : Nat := l.foldl (fun n c => 10 * n + (c.toNat - 48)) 0
def numOf (l : List UInt8) : Int := if l.head? = some 45 then -((digN l.tail : Nat) : Int) else ((digN l : Nat) : Int)
def datNum (n : Int) : Dat := ⟨1, n, ⟨#[]⟩, 0, 0, []⟩
def datBool (n : Int) : Dat := ⟨2, n, ⟨#[]⟩, 0, 0, []⟩
def datSym (l : List UInt8) : Dat := ⟨3, 0, ⟨l.toArray⟩, 0, 0, []⟩
def datList (ks : List Dat) : Dat := ⟨4, 0, ⟨#[]⟩, 0, 0, ks⟩
def datQuote (d : Dat) : Dat := datList [datSym [113, 117, 111, 116, 101], d]
abbrev Rd (α : Type) := Sum (Int × Int) (α × Nat × Nat)
def wordAt (w : List UInt8) (i n : Nat) : Rd Dat :=
 if looksB w then
  (if 17 < w.length then .inl (3, (i : Int)) else if rangeB (numOf w) then .inr (datNum (numOf w), i + w.length, n) else .inl (3, (i : Int)))
 else if 20 < w.length then .inl (7, (i : Int)) else .inr (datSym w, i + w.length, n)
def items (g : Nat → Nat → Rd Dat) (l : List UInt8) : Nat → Nat → Nat → Rd (List Dat)
 | 0, i, n => .inl (2, (i : Int))
 | k + 1, i0, n =>
  let i := i0 + skipL (l.drop i0) false
  match l[i]? with
  | none => .inl (2, (i : Int))
  | some c =>
   if c = 41 then .inr ([], i + 1, n)
   else match g i n with
    | .inl e => .inl e
    | .inr (d, j, m) =>
     match items g l k j m with
     | .inl e => .inl e
     | .inr (ds, j', m') => .inr (d :: ds, j', m')
def one (l : List UInt8) : Nat → Nat → Nat → Rd Dat
 | 0, i, n => .inl (4, (i : Int))
 | f + 1, i, n =>
  if 2000 < n + 1 then .inl (4, (i : Int))
  else match l[i]? with
   | none => .inl (2, (i : Int))
   | some c =>
    if c = 40 then
     match items (one l f) l (l.length + 1) (i + 1) (n + 1) with
     | .inl e => .inl e
     | .inr (ds, j, m) => .inr (datList ds, j, m)
    else if c = 39 then
     (if f = 0 ∨ 2000 < n + 2 then .inl (4, (i : Int))
     else match one l f (i + 1 + skipL (l.drop (i + 1)) false) (n + 2) with
      | .inl e => .inl e
      | .inr (d, j, m) => .inr (datQuote d, j, m))
    else if c = 35 then
     (if byteL (l.drop (i + 1)) = [116] then .inr (datBool 1, i + 2, n + 1)
     else if byteL (l.drop (i + 1)) = [102] then .inr (datBool 0, i + 2, n + 1)
     else .inl (2, (i : Int)))
    else if letB (c.toNat : Int) then wordAt (byteL (l.drop i)) i (n + 1)
    else .inl (2, (i : Int))
def alls (l : List UInt8) : Nat → Nat → Nat → Rd (List Dat)
 | 0, i, n => .inr ([], i, n)
 | k + 1, i0, n =>
  let i := i0 + skipL (l.drop i0) false
  if l.length ≤ i then .inr ([], i, n)
  else match one l 40 i n with
   | .inl e => .inl e
   | .inr (d, j, m) =>
    match alls l k j m with
    | .inl e => .inl e
    | .inr (ds, j', m') => .inr (d :: ds, j', m')
def readL (l : List UInt8) : Sum (Int × Int) (List Dat) :=
 if 6000 < l.length then .inl (4, 0) else match alls l (l.length + 1) 0 0 with
  | .inl e => .inl e
  | .inr (ds, _, _) => .inr ds
theorem skipL_le : ∀ (l : List UInt8) (b : Bool), skipL l b ≤ l.length
 | [], _ => Nat.le_refl _
 | c :: r, b => by
  unfold skipL
  split
  ·have := skipL_le r (noted c b); simp; omega
  exact Nat.zero_le _
theorem skipL_note : ∀ (l : List UInt8), skipL l true = lineL l + skipL (l.drop (lineL l)) false
 | [] => rfl
 | c :: r => by
  by_cases h : c = 10
  ·subst h
   simp [lineL, skipL, noted, isBlank]
  have e1 : noted c true = true := by unfold noted; split <;> simp [h]
  have e2 : lineL (c :: r) = lineL r + 1 := by simp [lineL, h]
  rw [e2]
  show (if noted c true || isBlank c then skipL r (noted c true) + 1 else 0) = _
  rw [e1, Bool.true_or, if_pos rfl, skipL_note r]
  simp
  omega
theorem skipL_semi (r : List UInt8) : skipL (59 :: r) false = lineL (59 :: r) + skipL ((59 :: r).drop (lineL (59 :: r))) false := by
 have e : skipL (59 :: r) false = skipL (59 :: r) true := by simp [skipL, noted]
 rw [e]
 exact skipL_note (59 :: r)
theorem drop_cons {l : List UInt8} {i : Nat} {c : UInt8} (h : l[i]? = some c) : l.drop i = c :: l.drop (i + 1) := by
 obtain ⟨hi, e⟩ := List.getElem?_eq_some_iff.1 h
 rw [List.drop_eq_getElem_cons hi, e]
theorem skip_blank {l : List UInt8} {i : Nat} {c : UInt8} (h : l[i]? = some c) (hb : isBlank c = true) : i + skipL (l.drop i) false = (i + 1) + skipL (l.drop (i + 1)) false := by
 rw [drop_cons h]
 have h59 : ¬ c = 59 := by
  intro e
  subst e
  exact absurd hb (by decide)
 have e1 : noted c false = false := by
  unfold noted
  rw [if_neg h59]
  split <;> rfl
 show i + (if noted c false || isBlank c then skipL (l.drop (i + 1)) (noted c false) + 1 else 0) = _
 rw [hb, Bool.or_true, if_pos rfl, e1]
 omega
theorem skip_semi {l : List UInt8} {i : Nat} (h : l[i]? = some 59) : i + skipL (l.drop i) false = (i + lineL (l.drop i)) + skipL (l.drop (i + lineL (l.drop i))) false := by
 have e := skipL_semi (l.drop (i + 1))
 rw [← drop_cons h, List.drop_drop] at e
 omega
theorem skip_stop {l : List UInt8} {i : Nat} {c : UInt8} (h : l[i]? = some c) (hb : isBlank c = false) (h59 : c ≠ 59) : skipL (l.drop i) false = 0 := by
 rw [drop_cons h]
 have e1 : noted c false = false := by
  unfold noted
  rw [if_neg h59]
  split <;> rfl
 show (if noted c false || isBlank c then skipL (l.drop (i + 1)) (noted c false) + 1 else 0) = 0
 rw [hb, e1]
 rfl
theorem skip_end {l : List UInt8} {i : Nat} (h : l.length ≤ i) : skipL (l.drop i) false = 0 := by
 rw [List.drop_of_length_le h]
 rfl
theorem skip_le (l : List UInt8) (i : Nat) (h : i ≤ l.length) : i + skipL (l.drop i) false ≤ l.length := by
 have := skipL_le (l.drop i) false
 simp at this
 omega
theorem line_le (l : List UInt8) : lineL l ≤ l.length := (List.takeWhile_prefix _).length_le
theorem line_index : ∀ (l : List UInt8), (Lib.indexByte l 10 = -1 → lineL l = l.length) ∧ (0 ≤ Lib.indexByte l 10 → Lib.indexByte l 10 = (lineL l : Int)) ∧ -1 ≤ Lib.indexByte l 10
 | [] => ⟨fun _ => rfl, fun h => absurd h (by decide), by decide⟩
 | c :: r => by
  obtain ⟨h1, h2, h3⟩ := line_index r
  unfold Lib.indexByte
  by_cases e : c = 10
  ·subst e
   refine ⟨?_, ?_, ?_⟩
   ·intro h; simp at h
   ·intro _; simp [lineL]
   simp
  have e2 : lineL (c :: r) = lineL r + 1 := by simp [lineL, e]
  have e3 : (c == 10) = false := by simpa using e
  rw [e3, e2]
  by_cases g : Lib.indexByte r 10 = -1
  ·have := h1 g
   rw [g]
   refine ⟨fun _ => by simp [this], fun h => absurd h (by decide), by decide⟩
  have g' : (Lib.indexByte r 10 == -1) = false := by simpa using g
  have := h2 (by omega)
  rw [g']
  simp only [Bool.false_eq_true, if_false]
  refine ⟨fun h => by omega, fun _ => by omega, by omega⟩
theorem byteL_le (l : List UInt8) : (byteL l).length ≤ l.length := (List.takeWhile_prefix _).length_le
structure Went (l : List UInt8) (i n j m : Nat) (d : Dat) : Prop where
 on : i < j
 upto : j ≤ l.length
 more : n + 1 ≤ m
 much : m ≤ 2000
 name : d.name.size ≤ 20
structure WentL (l : List UInt8) (i n j m : Nat) (ds : List Dat) : Prop where
 on : i < j
 upto : j ≤ l.length
 more : n + ds.length ≤ m
 much : m ≤ 2000
theorem items_went (g : Nat → Nat → Rd Dat) (l : List UInt8) (hg : ∀ i n d j m, i ≤ l.length → n ≤ 2000 → g i n = .inr (d, j, m) → Went l i n j m d) :
 ∀ (k i n : Nat) (ds : List Dat) (j m : Nat), i ≤ l.length → n ≤ 2000 → items g l k i n = .inr (ds, j, m) → WentL l i n j m ds
 | 0, i, n, ds, j, m, hi, hn, h => by simp [items] at h
 | k + 1, i, n, ds, j, m, hi, hn, h => by
  unfold items at h
  simp only at h
  have hs := skip_le l i hi
  generalize hp : i + skipL (l.drop i) false = p at h hs
  have hip : i ≤ p := by omega
  cases hc : l[p]? with
  | none => rw [hc] at h; simp at h
  | some c =>
   rw [hc] at h
   simp only at h
   have hlt := (List.getElem?_eq_some_iff.1 hc).1
   by_cases h41 : c = 41
   ·rw [if_pos h41] at h
    simp at h
    obtain ⟨rfl, rfl, rfl⟩ := h
    exact ⟨by omega, by omega, by simp, hn⟩
   rw [if_neg h41] at h
   cases hgg : g p n with
   | inl e => rw [hgg] at h; simp at h
   | inr x =>
    obtain ⟨d, j1, m1⟩ := x
    rw [hgg] at h
    simp only at h
    have hw := hg p n d j1 m1 hs hn hgg
    cases hii : items g l k j1 m1 with
    | inl e => rw [hii] at h; simp at h
    | inr y =>
     obtain ⟨ds2, j2, m2⟩ := y
     rw [hii] at h
     simp at h
     obtain ⟨rfl, rfl, rfl⟩ := h
     have hw2 := items_went g l hg k j1 m1 ds2 j2 m2 hw.upto hw.much hii
     have := hw.on
     have := hw.more
     have := hw2.on
     have := hw2.more
     exact ⟨by omega, hw2.upto, by simp; omega, hw2.much⟩
theorem word_went {l : List UInt8} {i n : Nat} {c : UInt8} {d : Dat} {j m : Nat} (hc : l[i]? = some c) (hl : letB (c.toNat : Int) = true) (hn : n + 1 ≤ 2000) (h : wordAt (byteL (l.drop i)) i (n + 1) = .inr (d, j, m)) : Went l i n j m d := by
 have hle := byteL_le (l.drop i)
 rw [List.length_drop] at hle
 have hlt := (List.getElem?_eq_some_iff.1 hc).1
 have hpos : 1 ≤ (byteL (l.drop i)).length := by
  rw [drop_cons hc]
  simp [byteL, hl]
 unfold wordAt at h
 split at h
 ·split at h
  ·simp at h
  split at h
  ·simp at h
   obtain ⟨rfl, rfl, rfl⟩ := h
   exact ⟨by omega, by omega, by omega, hn, by show (0 : Nat) ≤ 20; omega⟩
  simp at h
 split at h
 ·simp at h
 rename_i h20
 simp at h
 obtain ⟨rfl, rfl, rfl⟩ := h
 refine ⟨by omega, by omega, by omega, hn, ?_⟩
 show (byteL (l.drop i)).toArray.size ≤ 20
 rw [List.size_toArray]
 omega
theorem one_went (l : List UInt8) : ∀ (f i n : Nat) (d : Dat) (j m : Nat), i ≤ l.length → n ≤ 2000 → one l f i n = .inr (d, j, m) → Went l i n j m d
 | 0, i, n, d, j, m, _, _, h => by simp [one] at h
 | f + 1, i, n, d, j, m, hi, hn, h => by
  unfold one at h
  by_cases h2 : 2000 < n + 1
  ·rw [if_pos h2] at h; simp at h
  rw [if_neg h2] at h
  cases hc : l[i]? with
  | none => rw [hc] at h; simp at h
  | some c =>
   rw [hc] at h
   simp only at h
   have hlt := (List.getElem?_eq_some_iff.1 hc).1
   by_cases c40 : c = 40
   ·rw [if_pos c40] at h
    cases hit : items (one l f) l (l.length + 1) (i + 1) (n + 1) with
    | inl e => rw [hit] at h; simp at h
    | inr y =>
     obtain ⟨ds, j2, m2⟩ := y
     rw [hit] at h
     simp at h
     obtain ⟨rfl, rfl, rfl⟩ := h
     have hw := items_went (one l f) l (one_went l f) _ _ _ ds j2 m2 (by omega) (by omega) hit
     have := hw.on
     have := hw.more
     exact ⟨by omega, hw.upto, by omega, hw.much, by show (0 : Nat) ≤ 20; omega⟩
   rw [if_neg c40] at h
   by_cases c39 : c = 39
   ·rw [if_pos c39] at h
    by_cases hq : f = 0 ∨ 2000 < n + 2
    ·rw [if_pos hq] at h; simp at h
    rw [if_neg hq] at h
    cases ho : one l f (i + 1 + skipL (l.drop (i + 1)) false) (n + 2) with
    | inl e => rw [ho] at h; simp at h
    | inr y =>
     obtain ⟨d2, j2, m2⟩ := y
     rw [ho] at h
     simp at h
     obtain ⟨rfl, rfl, rfl⟩ := h
     have hs := skip_le l (i + 1) (by omega)
     have hw := one_went l f _ _ d2 j2 m2 hs (by omega) ho
     have := hw.on
     have := hw.more
     exact ⟨by omega, hw.upto, by omega, hw.much, by show (0 : Nat) ≤ 20; omega⟩
   rw [if_neg c39] at h
   by_cases c35 : c = 35
   ·rw [if_pos c35] at h
    have hb : ∀ x, byteL (l.drop (i + 1)) = [x] → i + 2 ≤ l.length := by
     intro x hx
     have h1 := byteL_le (l.drop (i + 1))
     rw [hx, List.length_drop] at h1
     simp at h1
     omega
    by_cases t1 : byteL (l.drop (i + 1)) = [116]
    ·rw [if_pos t1] at h
     simp at h
     obtain ⟨rfl, rfl, rfl⟩ := h
     exact ⟨by omega, hb _ t1, by omega, by omega, by show (0 : Nat) ≤ 20; omega⟩
    rw [if_neg t1] at h
    by_cases t2 : byteL (l.drop (i + 1)) = [102]
    ·rw [if_pos t2] at h
     simp at h
     obtain ⟨rfl, rfl, rfl⟩ := h
     exact ⟨by omega, hb _ t2, by omega, by omega, by show (0 : Nat) ≤ 20; omega⟩
    rw [if_neg t2] at h; simp at h
   rw [if_neg c35] at h
   by_cases hl : letB (c.toNat : Int) = true
   ·rw [if_pos hl] at h
    exact word_went hc hl (by omega) h
   rw [if_neg hl] at h; simp at h
inductive Er (α : Type) where
 | ok (a : α)
 | no (e : Int)
def Er.bind {α β : Type} (x : Er α) (k : α → Er β) : Er β :=
 match x with
 | .ok a => k a
 | .no e => .no e
mutual
def bareQ : Dat → Dat
 | ⟨k, n, nm, st, lb, ks⟩ => ⟨k, if k = 1 ∨ k = 2 then n else 0, if k = 3 then nm else ⟨#[]⟩, 0, 0, if k = 4 then bareQL ks else []⟩
def bareQL : List Dat → List Dat
 | [] => []
 | d :: r => bareQ d :: bareQL r
end
def thingsF (d : Dat) : Er (List Dat) := if d.kind = 4 ∧ d.kids ≠ [] then .ok d.kids else .no 2
def nameF (d : Dat) : Er ByteArray := if d.kind = 3 then .ok d.name else .no 2
def headF : List Dat → Er (ByteArray × List Dat)
 | [] => .no 2
 | x :: r => (nameF x).bind fun n => .ok (n, r)
def formF (d : Dat) : Er (ByteArray × List Dat) := (thingsF d).bind headF
def oneF : List Dat → Er Dat
 | [x] => .ok x
 | _ => .no 2
def namesF : List Dat → Er (List ByteArray)
 | [] => .ok []
 | d :: r => (nameF d).bind fun n => (namesF r).bind fun l => .ok (n :: l)
def justF (d : Dat) (n : Nat) : Er (List ByteArray) := if d.kind = 4 ∧ d.kids.length = n then namesF d.kids else .no 2
def joinL : List ByteArray → List UInt8
 | [] => []
 | [x] => x.data.toList
 | x :: y :: r => x.data.toList ++ 32 :: joinL (y :: r)
def joinB (l : List ByteArray) : ByteArray := ⟨(joinL l).toArray⟩
def calledF (d : Dat) : Er ByteArray := (thingsF d).bind fun l => (namesF l).bind fun ns => if (joinB ns).size ≤ 60 then .ok (joinB ns) else .no 4
inductive Se where
 | mk (kind : Int) (name : ByteArray) (names as_ : List ByteArray) (pre : ByteArray) (kids : List Se)
def bOnly : ByteArray := ⟨#[111, 110, 108, 121]⟩
def bExcept : ByteArray := ⟨#[101, 120, 99, 101, 112, 116]⟩
def bPrefix : ByteArray := ⟨#[112, 114, 101, 102, 105, 120]⟩
def bRename : ByteArray := ⟨#[114, 101, 110, 97, 109, 101]⟩
def setWordsB : List ByteArray := [⟨#[]⟩, ⟨#[]⟩, bOnly, bExcept, bPrefix, bRename]
def placeB (x : ByteArray) : Nat → List ByteArray → Option Nat
 | _, [] => none
 | i, y :: r => if y = x then some i else placeB x (i + 1) r
def kindF : List Dat → Int
 | x :: y :: _ => if x.kind = 3 ∧ y.kind = 4 then (match placeB x.name 0 setWordsB with | some i => (i : Int) | none => 1) else 1
 | _ => 1
def renamesF : List Dat → Er (List ByteArray × List ByteArray)
 | [] => .ok ([], [])
 | d :: r => (justF d 2).bind fun p => (renamesF r).bind fun q => .ok (p.getD 0 ⟨#[]⟩ :: q.1, p.getD 1 ⟨#[]⟩ :: q.2)
def setF : Nat → Dat → Er Se
 | 0, _ => .no 4
 | n + 1, d => (thingsF d).bind fun l =>
  if kindF l = 1 then (calledF d).bind fun nm => .ok (.mk 1 nm [] [] ⟨#[]⟩ [])
  else (setF n (l.getD 1 d)).bind fun k =>
   if kindF l = 2 ∨ kindF l = 3 then (namesF (l.drop 2)).bind fun ns => .ok (.mk (kindF l) ⟨#[]⟩ ns [] ⟨#[]⟩ [k])
   else if kindF l = 4 then (oneF (l.drop 2)).bind fun x => (nameF x).bind fun p => .ok (.mk 4 ⟨#[]⟩ [] [] p [k])
   else if kindF l = 5 then (renamesF (l.drop 2)).bind fun q => .ok (.mk 5 ⟨#[]⟩ q.1 q.2 ⟨#[]⟩ [k])
   else .ok (.mk (kindF l) ⟨#[]⟩ [] [] ⟨#[]⟩ [k])
structure LibS where
 name : ByteArray
 exports : List (ByteArray × ByteArray)
 imports : List Se
 body : List Dat
structure Env where
 files : List (ByteArray × ByteArray)
 features : List ByteArray
 libs : List ByteArray
def hasB (x : ByteArray) (l : List ByteArray) : Bool := l.any fun y => decide (y = x)
def bLibrary : ByteArray := ⟨#[108, 105, 98, 114, 97, 114, 121]⟩
def bProgram : ByteArray := ⟨#[112, 114, 111, 103, 114, 97, 109]⟩
def bNot : ByteArray := ⟨#[110, 111, 116]⟩
def bAnd : ByteArray := ⟨#[97, 110, 100]⟩
def bOr : ByteArray := ⟨#[111, 114]⟩
def bElse : ByteArray := ⟨#[101, 108, 115, 101]⟩
def bExport : ByteArray := ⟨#[101, 120, 112, 111, 114, 116]⟩
def bImport : ByteArray := ⟨#[105, 109, 112, 111, 114, 116]⟩
def bBegin : ByteArray := ⟨#[98, 101, 103, 105, 110]⟩
def bInclude : ByteArray := ⟨#[105, 110, 99, 108, 117, 100, 101]⟩
def bCond : ByteArray := ⟨#[99, 111, 110, 100, 45, 101, 120, 112, 97, 110, 100]⟩
mutual
def holdsD (E : Env) : Dat → Er Bool
 | ⟨k, _, nm, _, _, ks⟩ => if k = 3 then .ok (hasB nm E.features) else if k = 4 then holdsK E ks else .no 2
def holdsK (E : Env) : List Dat → Er Bool
 | [] => .no 2
 | h :: r =>
  if h.kind = 3 then
   if h.name = bLibrary then (oneF r).bind fun x => (calledF x).bind fun n => .ok (hasB n E.libs)
   else if h.name = bNot then holdsN E r
   else if h.name = bAnd then holdsA E r
   else if h.name = bOr then holdsO E r
   else .no 2
  else .no 2
def holdsN (E : Env) : List Dat → Er Bool
 | [] => .no 2
 | x :: r => match r with
  | [] => (holdsD E x).bind fun b => .ok (!b)
  | _ :: _ => .no 2
def holdsA (E : Env) : List Dat → Er Bool
 | [] => .ok true
 | x :: r => (holdsD E x).bind fun b => if b then holdsA E r else .ok false
def holdsO (E : Env) : List Dat → Er Bool
 | [] => .ok false
 | x :: r => (holdsD E x).bind fun b => if b then .ok true else holdsO E r
end
def clauseF (E : Env) (h : Dat) : Er Bool := if h.kind = 3 ∧ h.name = bElse then .ok true else holdsD E h
def exportF (d : Dat) : Er (ByteArray × ByteArray) :=
 if d.kind = 3 then .ok (d.name, d.name)
 else (justF d 3).bind fun l => if l.getD 0 ⟨#[]⟩ = bRename then .ok (l.getD 2 ⟨#[]⟩, l.getD 1 ⟨#[]⟩) else .no 2
def exportsF : List Dat → LibS → Er LibS
 | [], s => .ok s
 | d :: r, s => (exportF d).bind fun e =>
  if s.exports.any (fun x => decide (x.1 = e.1)) then .no 8
  else if s.exports.length < 200 then exportsF r { s with exports := s.exports ++ [e] }
  else .no 5
def importsF : List Dat → LibS → Er LibS
 | [], s => .ok s
 | d :: r, s => if s.imports.length < 20 then (setF 12 d).bind fun x => importsF r { s with imports := s.imports ++ [x] } else .no 5
def addF (l : List Dat) (s : LibS) : Er LibS := if s.body.length + l.length ≤ 200 then .ok { s with body := s.body ++ l } else .no 5
def fileF (n : ByteArray) : List (ByteArray × ByteArray) → Option ByteArray
 | [] => none
 | f :: r => if f.1 = n then some f.2 else fileF n r
def includeF (E : Env) : List Dat → LibS → Er LibS
 | [], s => .ok s
 | d :: r, s => (nameF d).bind fun n =>
  match fileF n E.files with
  | none => .no 6
  | some t => match readL t.data.toList with
   | .inl x => .no x.1
   | .inr ds => (addF ds s).bind fun s' => includeF E r s'
mutual
def declD (E : Env) : Dat → LibS → Er LibS
 | ⟨k, _, _, _, _, ks⟩, s => if k = 4 then declK E ks s else .no 2
def declK (E : Env) : List Dat → LibS → Er LibS
 | [], _ => .no 2
 | h :: r, s =>
  if h.kind = 3 then
   if h.name = bExport then (if s.name = ⟨#[]⟩ then .no 2 else exportsF r s)
   else if h.name = bImport then importsF r s
   else if h.name = bBegin then addF (bareQL r) s
   else if h.name = bInclude then includeF E r s
   else if h.name = bCond then declC E r s
   else .no 2
  else .no 2
def declL (E : Env) : List Dat → LibS → Er LibS
 | [], s => .ok s
 | d :: r, s => (declD E d s).bind fun s' => declL E r s'
def declC (E : Env) : List Dat → LibS → Er LibS
 | [], s => .ok s
 | c :: r, s => declB E c (fun s' => declC E r s') s
def declB (E : Env) : Dat → (LibS → Er LibS) → LibS → Er LibS
 | ⟨k, _, _, _, _, ks⟩, cont, s => if k = 4 then declT E ks cont s else .no 2
def declT (E : Env) : List Dat → (LibS → Er LibS) → LibS → Er LibS
 | [], _, _ => .no 2
 | h :: t, cont, s => (clauseF E h).bind fun b => if b then declL E t s else cont s
end
def lib0 : LibS := ⟨⟨#[]⟩, [], [], []⟩
def allF (E : Env) (d : Dat) : Er LibS :=
 (formF d).bind fun f =>
  if f.1 = bLibrary then (match f.2 with | [] => .no 2 | x :: r => (calledF x).bind fun n => declL E r { lib0 with name := n })
  else if f.1 = bProgram then declL E f.2 lib0
  else .no 2
def parseF (E : Env) (d : Dat) : Er LibS :=
 if (wrong [d]).1 = 0 then (if E.files.length ≤ 30 then allF E d else .no 5) else .no (wrong [d]).1
def liD (ks : List Dat) : Dat := ⟨4, 0, ⟨#[]⟩, 0, 0, ks⟩
def syD (s : ByteArray) : Dat := ⟨3, 0, s, 0, 0, []⟩
def bM : ByteArray := ⟨#[109]⟩
def libM (l : List Dat) : Dat := liD (syD bLibrary :: liD [syD bM] :: l)
theorem Er.bind_ok {α : Type} (x : Er α) : (x.bind fun a => .ok a) = x := by cases x <;> rfl
def splitW (w : ByteArray) : Prop := w = bBegin ∨ w = bImport ∨ w = bInclude ∨ w = bExport
def progD (l : List Dat) : Dat := liD (syD bProgram :: l)
def condD (r : Dat) (x y : List Dat) : Dat := progD [liD [syD bCond, liD (r :: x), liD (syD bElse :: y)]]
def notD (r : Dat) : Dat := liD [syD bNot, r]
theorem bareQ_li {ks : List Dat} (h : bareQL ks = ks) : bareQ (datList ks) = datList ks := by
 unfold datList
 rw [bareQ]
 simp [h]
theorem bareQ_sym (l : List UInt8) : bareQ (datSym l) = datSym l := by
 unfold datSym
 rw [bareQ]
 simp
theorem items_bare (g : Nat → Nat → Rd Dat) (l : List UInt8) (hg : ∀ i n d j m, g i n = .inr (d, j, m) → bareQ d = d) : ∀ (k i n : Nat) (ds : List Dat) (j m : Nat), items g l k i n = .inr (ds, j, m) → bareQL ds = ds
 | 0, i, n, ds, j, m, h => by simp [items] at h
 | k + 1, i, n, ds, j, m, h => by
  unfold items at h
  simp only at h
  cases hc : l[i + skipL (l.drop i) false]? with
  | none => rw [hc] at h; simp at h
  | some c =>
   rw [hc] at h
   simp only at h
   by_cases h41 : c = 41
   ·rw [if_pos h41] at h
    simp at h
    obtain ⟨rfl, rfl, rfl⟩ := h
    rw [bareQL]
   rw [if_neg h41] at h
   cases hgg : g (i + skipL (l.drop i) false) n with
   | inl e => rw [hgg] at h; simp at h
   | inr x =>
    obtain ⟨d, j1, m1⟩ := x
    rw [hgg] at h
    simp only at h
    cases hii : items g l k j1 m1 with
    | inl e => rw [hii] at h; simp at h
    | inr y =>
     obtain ⟨ds2, j2, m2⟩ := y
     rw [hii] at h
     simp at h
     obtain ⟨rfl, rfl, rfl⟩ := h
     rw [bareQL, hg _ _ _ _ _ hgg, items_bare g l hg k _ _ _ _ _ hii]
theorem one_bare (l : List UInt8) : ∀ (f i n : Nat) (d : Dat) (j m : Nat), one l f i n = .inr (d, j, m) → bareQ d = d
 | 0, i, n, d, j, m, h => by simp [one] at h
 | f + 1, i, n, d, j, m, h => by
  unfold one at h
  by_cases h2 : 2000 < n + 1
  ·rw [if_pos h2] at h; simp at h
  rw [if_neg h2] at h
  cases hc : l[i]? with
  | none => rw [hc] at h; simp at h
  | some c =>
   rw [hc] at h
   simp only at h
   by_cases c40 : c = 40
   ·rw [if_pos c40] at h
    cases hit : items (one l f) l (l.length + 1) (i + 1) (n + 1) with
    | inl e => rw [hit] at h; simp at h
    | inr y =>
     obtain ⟨ds, j2, m2⟩ := y
     rw [hit] at h
     simp at h
     obtain ⟨rfl, rfl, rfl⟩ := h
     exact bareQ_li (items_bare _ l (one_bare l f) _ _ _ _ _ _ hit)
   rw [if_neg c40] at h
   by_cases c39 : c = 39
   ·rw [if_pos c39] at h
    by_cases hq : f = 0 ∨ 2000 < n + 2
    ·rw [if_pos hq] at h; simp at h
    rw [if_neg hq] at h
    cases ho : one l f (i + 1 + skipL (l.drop (i + 1)) false) (n + 2) with
    | inl e => rw [ho] at h; simp at h
    | inr y =>
     obtain ⟨d2, j2, m2⟩ := y
     rw [ho] at h
     simp at h
     obtain ⟨rfl, rfl, rfl⟩ := h
     refine bareQ_li ?_
     rw [bareQL, bareQL, bareQL, bareQ_sym, one_bare l f _ _ _ _ _ ho]
   rw [if_neg c39] at h
   by_cases c35 : c = 35
   ·rw [if_pos c35] at h
    by_cases t1 : byteL (l.drop (i + 1)) = [116]
    ·rw [if_pos t1] at h
     simp at h
     obtain ⟨rfl, rfl, rfl⟩ := h
     unfold datBool
     rw [bareQ]
     simp
    rw [if_neg t1] at h
    by_cases t2 : byteL (l.drop (i + 1)) = [102]
    ·rw [if_pos t2] at h
     simp at h
     obtain ⟨rfl, rfl, rfl⟩ := h
     unfold datBool
     rw [bareQ]
     simp
    rw [if_neg t2] at h; simp at h
   rw [if_neg c35] at h
   by_cases hl : letB (c.toNat : Int) = true
   ·rw [if_pos hl] at h
    unfold wordAt at h
    split at h
    ·split at h
     ·simp at h
     split at h
     ·simp at h
      obtain ⟨rfl, rfl, rfl⟩ := h
      unfold datNum
      rw [bareQ]
      simp
     simp at h
    split at h
    ·simp at h
    simp at h
    obtain ⟨rfl, rfl, rfl⟩ := h
    exact bareQ_sym _
   rw [if_neg hl] at h; simp at h
theorem alls_bare (l : List UInt8) : ∀ (k i n : Nat) (ds : List Dat) (j m : Nat), alls l k i n = .inr (ds, j, m) → bareQL ds = ds
 | 0, i, n, ds, j, m, h => by
  simp [alls] at h
  obtain ⟨rfl, _, _⟩ := h
  rw [bareQL]
 | k + 1, i, n, ds, j, m, h => by
  unfold alls at h
  simp only at h
  by_cases h1 : l.length ≤ i + skipL (l.drop i) false
  ·rw [if_pos h1] at h
   simp at h
   obtain ⟨rfl, _, _⟩ := h
   rw [bareQL]
  rw [if_neg h1] at h
  cases hgg : one l 40 (i + skipL (l.drop i) false) n with
  | inl e => rw [hgg] at h; simp at h
  | inr x =>
   obtain ⟨d, j1, m1⟩ := x
   rw [hgg] at h
   simp only at h
   cases hii : alls l k j1 m1 with
   | inl e => rw [hii] at h; simp at h
   | inr y =>
    obtain ⟨ds2, j2, m2⟩ := y
    rw [hii] at h
    simp at h
    obtain ⟨rfl, rfl, rfl⟩ := h
    rw [bareQL, one_bare l _ _ _ _ _ _ hgg, alls_bare l k _ _ _ _ _ hii]
theorem read_bare {l : List UInt8} {ds : List Dat} (h : readL l = .inr ds) : bareQL ds = ds := by
 unfold readL at h
 split at h
 ·simp at h
 cases ha : alls l (l.length + 1) 0 0 with
 | inl e => rw [ha] at h; simp at h
 | inr x =>
  obtain ⟨ds2, j, m⟩ := x
  rw [ha] at h
  simp at h
  subst h
  exact alls_bare l _ _ _ _ _ _ ha
def symErrR (d : Dat) : Int := if namedB d.name then (if d.stamp = 0 ∧ d.lib = 0 then 0 else 8) else 7
theorem alone_numR {d : Dat} (h : d.kind = 1) : alone d = if rangeB d.n then 0 else 3 := by unfold alone; rw [if_pos h]
theorem alone_boolR {d : Dat} (h : d.kind = 2) : alone d = if d.n = 0 ∨ d.n = 1 then 0 else 3 := by unfold alone; rw [if_neg (by omega), if_pos h]
theorem alone_symR {d : Dat} (h : d.kind = 3) : alone d = symErrR d := by unfold alone symErrR; rw [if_neg (by omega), if_neg (by omega), if_pos h]
theorem alone_listR {d : Dat} (h : d.kind = 4) : alone d = 0 := by unfold alone; rw [if_neg (by omega), if_neg (by omega), if_neg (by omega), if_pos h]
theorem readL_ok {l : List UInt8} {ds : List Dat} (h : readL l = .inr ds) : l.length ≤ 6000 ∧ ∃ j m, alls l (l.length + 1) 0 0 = .inr (ds, j, m) := by
 unfold readL at h
 split at h
 ·simp at h
 rename_i hl
 refine ⟨by omega, ?_⟩
 cases ha : alls l (l.length + 1) 0 0 with
 | inl e => rw [ha] at h; simp at h
 | inr x =>
  obtain ⟨es, j, m⟩ := x
  rw [ha] at h
  simp at h
  subst h
  exact ⟨j, m, rfl⟩
theorem chk_of {f : Nat} {d : Dat} {n : Nat} (hn : n + 1 ≤ 2000) (ha : alone d = 0) (hk : d.kind ≠ 4) : chk (f + 1) d n = (0, n + 1) := by
 unfold chk
 rw [if_neg (by omega), if_pos ha, if_neg hk]
theorem chk_list {f : Nat} {ks : List Dat} {n : Nat} (hn : n + 1 ≤ 2000) : chk (f + 1) (datList ks) n = chkL (chk f) ks (n + 1) := by
 unfold chk
 rw [if_neg (by omega), if_pos (alone_listR rfl), if_pos (show (datList ks).kind = 4 from rfl)]
 rfl
theorem chkL_consR {g : Dat → Nat → Int × Nat} {d : Dat} {r : List Dat} {n m : Nat} (h : g d n = (0, m)) : chkL g (d :: r) n = chkL g r m := by
 show (if (g d n).1 = 0 then chkL g r (g d n).2 else g d n) = _
 rw [h, if_pos rfl]
theorem items_right (g : Nat → Nat → Rd Dat) (ck : Dat → Nat → Int × Nat) (l : List UInt8) (hw : ∀ i n d j m, i ≤ l.length → n ≤ 2000 → g i n = .inr (d, j, m) → Went l i n j m d)
 (hg : ∀ i n d j m, i ≤ l.length → n ≤ 2000 → g i n = .inr (d, j, m) → ck d n = (0, m)) :
 ∀ (k i n : Nat) (ds : List Dat) (j m : Nat), i ≤ l.length → n ≤ 2000 → items g l k i n = .inr (ds, j, m) → chkL ck ds n = (0, m)
 | 0, i, n, ds, j, m, hi, hn, h => by simp [items] at h
 | k + 1, i, n, ds, j, m, hi, hn, h => by
  unfold items at h
  simp only at h
  have hs := skip_le l i hi
  generalize hp : i + skipL (l.drop i) false = p at h hs
  cases hc : l[p]? with
  | none => rw [hc] at h; simp at h
  | some c =>
   rw [hc] at h
   simp only at h
   by_cases h41 : c = 41
   ·rw [if_pos h41] at h
    simp at h
    obtain ⟨rfl, rfl, rfl⟩ := h
    rfl
   rw [if_neg h41] at h
   cases hgg : g p n with
   | inl e => rw [hgg] at h; simp at h
   | inr x =>
    obtain ⟨d, j1, m1⟩ := x
    rw [hgg] at h
    simp only at h
    have hww := hw p n d j1 m1 hs hn hgg
    cases hii : items g l k j1 m1 with
    | inl e => rw [hii] at h; simp at h
    | inr y =>
     obtain ⟨ds2, j2, m2⟩ := y
     rw [hii] at h
     simp at h
     obtain ⟨rfl, rfl, rfl⟩ := h
     rw [chkL_consR (hg p n d j1 m1 hs hn hgg)]
     exact items_right g ck l hw hg k j1 m1 ds2 j2 m2 hww.upto hww.much hii
theorem quote_right : alone (datSym [113, 117, 111, 116, 101]) = 0 := by
 rw [alone_symR rfl]
 unfold symErrR
 rw [show namedB (datSym [113, 117, 111, 116, 101]).name = true from by decide, if_pos rfl]
 rfl
theorem byteL_lets (l : List UInt8) : allLet (byteL l) = true := by
 unfold allLet byteL
 rw [List.all_eq_true]
 intro x hx
 exact (List.all_eq_true.1 (List.all_takeWhile (p := fun c : UInt8 => letB (c.toNat : Int)) (l := l))) x hx
theorem word_right {l : List UInt8} {i n : Nat} {c : UInt8} {d : Dat} {f j m : Nat} (hc : l[i]? = some c) (hl : letB (c.toNat : Int) = true) (hn : n + 1 ≤ 2000) (h : wordAt (byteL (l.drop i)) i (n + 1) = .inr (d, j, m)) : chk (f + 1) d n = (0, m) := by
 have hlet := byteL_lets (l.drop i)
 have hpos : 1 ≤ (byteL (l.drop i)).length := by
  rw [drop_cons hc]
  simp [byteL, hl]
 generalize byteL (l.drop i) = w at *
 unfold wordAt at h
 split at h
 ·split at h
  ·simp at h
  split at h
  ·rename_i hr
   simp at h
   obtain ⟨rfl, rfl, rfl⟩ := h
   refine chk_of hn ?_ (by show ¬ (1 : Int) = 4; decide)
   rw [alone_numR rfl]
   show (if rangeB (numOf w) = true then (0 : Int) else 3) = 0
   rw [hr, if_pos rfl]
  simp at h
 rename_i hlk
 split at h
 ·simp at h
 rename_i h20
 simp at h
 obtain ⟨rfl, rfl, rfl⟩ := h
 refine chk_of hn ?_ (by show ¬ (3 : Int) = 4; decide)
 rw [alone_symR rfl]
 unfold symErrR
 have hs : (datSym w).name.size = w.length := by
  show w.toArray.size = _
  simp
 have hd : (datSym w).name.data.toList = w := by
  show w.toArray.toList = w
  simp
 have : namedB (datSym w).name = true := by
  unfold namedB
  rw [hs, hd, hlet]
  simp
  exact ⟨⟨by omega, by omega⟩, by simpa using hlk⟩
 rw [this, if_pos rfl]
 rfl
theorem one_right (l : List UInt8) : ∀ (f i n : Nat) (d : Dat) (j m : Nat), i ≤ l.length → n ≤ 2000 → one l f i n = .inr (d, j, m) → chk f d n = (0, m)
 | 0, i, n, d, j, m, _, _, h => by simp [one] at h
 | f + 1, i, n, d, j, m, hi, hn, h => by
  unfold one at h
  by_cases h2 : 2000 < n + 1
  ·rw [if_pos h2] at h; simp at h
  rw [if_neg h2] at h
  cases hc : l[i]? with
  | none => rw [hc] at h; simp at h
  | some c =>
   rw [hc] at h
   simp only at h
   have hlt := (List.getElem?_eq_some_iff.1 hc).1
   by_cases c40 : c = 40
   ·rw [if_pos c40] at h
    cases hit : items (one l f) l (l.length + 1) (i + 1) (n + 1) with
    | inl e => rw [hit] at h; simp at h
    | inr y =>
     obtain ⟨ds, j2, m2⟩ := y
     rw [hit] at h
     simp at h
     obtain ⟨rfl, rfl, rfl⟩ := h
     rw [chk_list (by omega)]
     exact items_right (one l f) (chk f) l (one_went l f) (one_right l f) _ _ _ ds j2 m2 (by omega) (by omega) hit
   rw [if_neg c40] at h
   by_cases c39 : c = 39
   ·rw [if_pos c39] at h
    by_cases hq : f = 0 ∨ 2000 < n + 2
    ·rw [if_pos hq] at h; simp at h
    rw [if_neg hq] at h
    cases ho : one l f (i + 1 + skipL (l.drop (i + 1)) false) (n + 2) with
    | inl e => rw [ho] at h; simp at h
    | inr y =>
     obtain ⟨d2, j2, m2⟩ := y
     rw [ho] at h
     simp at h
     obtain ⟨rfl, rfl, rfl⟩ := h
     have hs := skip_le l (i + 1) (by omega)
     have hr := one_right l f _ _ d2 j2 m2 hs (by omega) ho
     unfold datQuote
     rw [chk_list (by omega)]
     obtain ⟨f', rfl⟩ : ∃ f', f = f' + 1 := ⟨f - 1, by omega⟩
     rw [chkL_consR (m := n + 2) (chk_of (by omega) quote_right (by show ¬ (3 : Int) = 4; decide)), chkL_consR hr]
     rfl
   rw [if_neg c39] at h
   by_cases c35 : c = 35
   ·rw [if_pos c35] at h
    by_cases t1 : byteL (l.drop (i + 1)) = [116]
    ·rw [if_pos t1] at h
     simp at h
     obtain ⟨rfl, rfl, rfl⟩ := h
     exact chk_of (by omega) (by rw [alone_boolR rfl]; rfl) (by show ¬ (2 : Int) = 4; decide)
    rw [if_neg t1] at h
    by_cases t2 : byteL (l.drop (i + 1)) = [102]
    ·rw [if_pos t2] at h
     simp at h
     obtain ⟨rfl, rfl, rfl⟩ := h
     exact chk_of (by omega) (by rw [alone_boolR rfl]; rfl) (by show ¬ (2 : Int) = 4; decide)
    rw [if_neg t2] at h; simp at h
   rw [if_neg c35] at h
   by_cases hl : letB (c.toNat : Int) = true
   ·rw [if_pos hl] at h
    exact word_right hc hl (by omega) h
   rw [if_neg hl] at h; simp at h
theorem alls_right (l : List UInt8) : ∀ (k i n i0 : Nat) (ds : List Dat) (j m : Nat), i ≤ l.length → n ≤ 2000 → alls l k i n = .inr (ds, j, m) → wrongFrom ds i0 n = (0, 0)
 | 0, i, n, i0, ds, j, m, hi, hn, h => by
  simp [alls] at h
  obtain ⟨rfl, _⟩ := h
  rfl
 | k + 1, i, n, i0, ds, j, m, hi, hn, h => by
  have hs := skip_le l i hi
  unfold alls at h
  simp only at h
  generalize i + skipL (l.drop i) false = p at *
  by_cases hend : l.length ≤ p
  ·rw [if_pos hend] at h
   simp at h
   obtain ⟨rfl, _, rfl⟩ := h
   rfl
  rw [if_neg hend] at h
  cases ho : one l 40 p n with
  | inl e => rw [ho] at h; simp at h
  | inr y =>
   obtain ⟨d, j1, m1⟩ := y
   rw [ho] at h
   simp only at h
   have hw := one_went l 40 p n d j1 m1 hs hn ho
   have hr := one_right l 40 p n d j1 m1 hs hn ho
   cases ha : alls l k j1 m1 with
   | inl e => rw [ha] at h; simp at h
   | inr y =>
    obtain ⟨ds2, j2, m2⟩ := y
    rw [ha] at h
    simp at h
    obtain ⟨rfl, rfl, rfl⟩ := h
    show (if (chk 40 d n).1 = 0 then wrongFrom ds2 (i0 + 1) (chk 40 d n).2 else ((chk 40 d n).1, (i0 : Int))) = (0, 0)
    rw [hr, if_pos rfl]
    exact alls_right l k j1 m1 (i0 + 1) ds2 j2 m2 hw.upto hw.much ha
theorem read_right {l : List UInt8} {ds : List Dat} (h : readL l = .inr ds) : wrong ds = (0, 0) := by
 obtain ⟨_, j, m, ha⟩ := readL_ok h
 exact alls_right l _ 0 0 0 ds j m (Nat.zero_le _) (by omega) ha
end Go.Proofs.YtonafbennobgdaaGreatDoor
