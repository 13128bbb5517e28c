/- What sets bring: the plain mathematics of chapter 2. -/
import Derived.Test.YtckiihbnjfeplaaPlain
import Derived.Lib.Bytealg
namespace Go.Proofs.Ytckiihbnjfeplaa
set_option linter.unusedVariables false
set_option linter.unusedSimpArgs false
open Go.RowKit

instance lawfulBytes : LawfulBEq ByteArray where
  eq_of_beq {a b} h := by
    obtain ⟨a⟩ := a
    obtain ⟨b⟩ := b
    have h' : (a == b) = true := h
    rw [eq_of_beq h']
  rfl {a} := by
    show (a.data == a.data) = true
    simp

abbrev Pr := ByteArray × ByteArray

/-- What a set is by itself. -/
structure Ly where
  kind : Int
  name : ByteArray
  names : List ByteArray
  asn : List ByteArray
  pre : ByteArray

/-- A set: without kids, or with a first one, and n behind it. -/
inductive St where
  | last (l : Ly)
  | more (l : Ly) (n : Nat) (k : St)

def St.ly : St → Ly
  | .last l => l
  | .more l _ _ => l
def St.nk : St → Nat
  | .last _ => 0
  | .more _ n _ => n + 1

/-- What is wrong with a set of another, whatever that is. -/
def aloneS (l : Ly) (nk : Nat) : Int :=
  if nk ≠ 1 ∨ (l.kind = 5 ∧ l.asn.length ≠ l.names.length) then 5
  else if l.kind = 4 ∧ namedB l.pre = false then 7
  else if l.kind = 5 ∧ l.asn.all namedB = false then 7 else 0

/-- What is wrong with a set, f levels being left. -/
def form : Nat → St → Int
  | 0, _ => 4
  | f + 1, s =>
    if s.ly.kind = 1 then 0 else if s.ly.kind < 2 ∨ 5 < s.ly.kind then 1 else if aloneS s.ly s.nk ≠ 0 then aloneS s.ly s.nk else
    match s with
    | .last _ => 0
    | .more _ _ k => form f k

def wexFrom : List ByteArray → List ByteArray → Int
  | _, [] => 0
  | a, s :: r => if namedB s = false then 7 else if s ∈ a then 8 else wexFrom (a ++ [s]) r
def wex (l : List ByteArray) : Int := if 200 < l.length then 5 else wexFrom [] l

/-- What a name is called, that may stand among ns. -/
def callD : List ByteArray → List ByteArray → ByteArray → ByteArray
  | n :: ns, a :: asn, h => if h = n then a else callD ns asn h
  | _, _, h => h

def pref (l : Ly) (ps : List Pr) : Sum Int (List Pr) :=
  if ps.all (fun p => namedB (l.pre ++ p.1)) = true then .inr (ps.map fun p => (l.pre ++ p.1, p.2)) else .inl 7
def rena (l : Ly) (ps : List Pr) : Sum Int (List Pr) :=
  if (ps.map fun p => callD l.names l.asn p.1).Nodup then .inr (ps.map fun p => (callD l.names l.asn p.1, p.2)) else .inl 8

/-- What a set brings of what its kid does. -/
def step (l : Ly) (ps : List Pr) : Sum Int (List Pr) :=
  if l.kind = 4 then pref l ps
  else if (∀ n ∈ l.names, n ∈ ps.map (·.1)) then
    (if l.kind = 2 then .inr (ps.filter fun p => decide (p.1 ∈ l.names))
    else if l.kind = 3 then .inr (ps.filter fun p => !decide (p.1 ∈ l.names))
    else rena l ps)
  else .inl 6

def br (ex : List ByteArray) : St → Sum Int (List Pr)
  | .last _ => .inr (ex.map fun x => (x, x))
  | .more l _ k => if l.kind = 1 then .inr (ex.map fun x => (x, x)) else
    match br ex k with
    | .inl e => .inl e
    | .inr ps => step l ps

/-! ### The order of texts. -/
def cmpB (a b : ByteArray) : Int := Lib.compareBytes a.data.toList b.data.toList
def ltB (a b : ByteArray) : Bool := decide (cmpB a b < 0)

theorem cb_refl : ∀ a : List UInt8, Lib.compareBytes a a = 0
  | [] => rfl
  | c :: r => by simp [Lib.compareBytes, cb_refl r]
theorem cb_eq : ∀ a b : List UInt8, Lib.compareBytes a b = 0 → a = b
  | [], [], _ => rfl
  | [], _ :: _, h => by simp [Lib.compareBytes] at h
  | _ :: _, [], h => by simp [Lib.compareBytes] at h
  | x :: a, y :: b, h => by
    unfold Lib.compareBytes at h
    by_cases h1 : x < y
    · simp [h1] at h
    · by_cases h2 : y < x
      · simp [h1, h2] at h
      · simp [h1, h2] at h
        have e : x = y := UInt8.le_antisymm (UInt8.not_lt.1 h2) (UInt8.not_lt.1 h1)
        rw [e, cb_eq a b h]
theorem cb_anti : ∀ a b : List UInt8, Lib.compareBytes a b = - Lib.compareBytes b a
  | [], [] => rfl
  | [], _ :: _ => rfl
  | _ :: _, [] => rfl
  | x :: a, y :: b => by
    unfold Lib.compareBytes
    by_cases h1 : x < y
    · have h2 : ¬ y < x := fun h => UInt8.lt_irrefl x (UInt8.lt_trans h1 h)
      simp [h1, h2]
    · by_cases h2 : y < x
      · simp [h1, h2]
      · simp [h1, h2]
        exact cb_anti a b
theorem cb_trans : ∀ a b c : List UInt8, Lib.compareBytes a b < 0 → Lib.compareBytes b c < 0 → Lib.compareBytes a c < 0
  | [], [], _, h, _ => by simp [Lib.compareBytes] at h
  | [], _ :: _, [], _, h => by simp [Lib.compareBytes] at h
  | [], _ :: _, _ :: _, _, _ => by simp [Lib.compareBytes]
  | _ :: _, [], _, h, _ => by simp [Lib.compareBytes] at h
  | _ :: _, _ :: _, [], _, h => by simp [Lib.compareBytes] at h
  | x :: a, y :: b, z :: c, h, h' => by
    unfold Lib.compareBytes at h h' ⊢
    by_cases h1 : x < y
    · by_cases h2 : y < z
      · simp [UInt8.lt_trans h1 h2]
      · by_cases h3 : z < y
        · simp [h2, h3] at h'
        · have e : y = z := UInt8.le_antisymm (UInt8.not_lt.1 h3) (UInt8.not_lt.1 h2)
          subst e
          simp [h1]
    · by_cases h1' : y < x
      · simp [h1, h1'] at h
      · have e : x = y := UInt8.le_antisymm (UInt8.not_lt.1 h1') (UInt8.not_lt.1 h1)
        subst e
        simp only [h1, if_false] at h
        by_cases h2 : x < z
        · simp [h2]
        · by_cases h3 : z < x
          · simp [h2, h3] at h'
          · simp only [h2, h3, if_false] at h' ⊢
            exact cb_trans a b c h h'

theorem ba_eq {a b : ByteArray} (h : a.data.toList = b.data.toList) : a = b := by
  obtain ⟨⟨a⟩⟩ := a
  obtain ⟨⟨b⟩⟩ := b
  simp at h
  rw [h]
theorem cmpB_refl (a : ByteArray) : cmpB a a = 0 := cb_refl _
theorem cmpB_eq {a b : ByteArray} (h : cmpB a b = 0) : a = b := ba_eq (cb_eq _ _ h)
theorem cmpB_anti (a b : ByteArray) : cmpB a b = - cmpB b a := cb_anti _ _
theorem ltB_irrefl (a : ByteArray) : ltB a a = false := by simp [ltB, cmpB_refl]
theorem ltB_trans {a b c : ByteArray} (h : ltB a b = true) (h' : ltB b c = true) : ltB a c = true := by
  simp only [ltB, decide_eq_true_eq] at *
  exact cb_trans _ _ _ h h'
theorem ltB_total {a b : ByteArray} (h : ltB a b = false) (h' : ltB b a = false) : a = b := by
  simp only [ltB, decide_eq_false_iff_not] at *
  have := cmpB_anti a b
  exact cmpB_eq (by omega)
theorem ltB_asymm {a b : ByteArray} (h : ltB a b = true) : ltB b a = false := by
  cases h' : ltB b a with
  | false => rfl
  | true => exact absurd (ltB_irrefl a) (by rw [ltB_trans h h']; simp)
theorem ltB_ntrans {a b c : ByteArray} (h : ltB a b = false) (h' : ltB b c = false) : ltB a c = false := by
  cases h2 : ltB a c with
  | false => rfl
  | true =>
    by_cases e : b = a
    · subst e; rw [h'] at h2; cases h2
    · cases h3 : ltB b a with
      | false => exact absurd (ltB_total h3 h) e
      | true => rw [ltB_trans h3 h2] at h'; cases h'

/-! ### Sorted by a key. -/
section
variable {α : Type} (key : α → ByteArray)

/-- Put in, ahead of the first that is not less. -/
def ins (p : α) : List α → List α
  | [] => [p]
  | x :: r => if ltB (key x) (key p) = true then x :: ins p r else p :: x :: r

def srt (l : List α) : List α := l.foldl (fun a p => ins key p a) []

def Asc (l : List α) : Prop := l.Pairwise fun x y => ltB (key x) (key y) = true

theorem ins_perm (p : α) : ∀ l : List α, (ins key p l).Perm (p :: l)
  | [] => List.Perm.refl _
  | x :: r => by
    unfold ins
    split
    · exact ((ins_perm p r).cons x).trans (List.Perm.swap _ _ _)
    · exact List.Perm.refl _

theorem mem_ins {p x : α} {l : List α} : x ∈ ins key p l ↔ x = p ∨ x ∈ l := by
  rw [(ins_perm key p l).mem_iff]; simp

theorem ins_asc (p : α) : ∀ l : List α, Asc key l → (∀ x ∈ l, key x ≠ key p) → Asc key (ins key p l)
  | [], _, _ => by simp [ins, Asc]
  | x :: r, h, hn => by
    obtain ⟨h1, h2⟩ := List.pairwise_cons.1 h
    unfold ins
    split
    · rename_i hlt
      refine List.pairwise_cons.2 ⟨?_, ins_asc p r h2 (fun y hy => hn y (List.mem_cons_of_mem _ hy))⟩
      intro y hy
      rcases (mem_ins key).1 hy with rfl | hy
      · exact hlt
      · exact h1 y hy
    · rename_i hlt
      have hpx : ltB (key p) (key x) = true := by
        cases e : ltB (key p) (key x) with
        | true => rfl
        | false => exact absurd (ltB_total (by simpa using hlt) e) (hn x (by simp))
      refine List.pairwise_cons.2 ⟨?_, h⟩
      intro y hy
      rcases List.mem_cons.1 hy with rfl | hy
      · exact hpx
      · exact ltB_trans hpx (h1 y hy)

theorem foldl_ins_perm : ∀ (l a : List α), (l.foldl (fun a p => ins key p a) a).Perm (a ++ l)
  | [], a => by simp
  | p :: r, a => by
    refine (foldl_ins_perm r (ins key p a)).trans ?_
    refine ((ins_perm key p a).append_right r).trans ?_
    exact List.perm_middle.symm
theorem srt_perm (l : List α) : (srt key l).Perm l := foldl_ins_perm key l []

theorem foldl_ins_asc : ∀ (l a : List α), Asc key a → ((a ++ l).map key).Nodup → Asc key (l.foldl (fun a p => ins key p a) a)
  | [], a, h, _ => h
  | p :: r, a, h, hn => by
    refine foldl_ins_asc r (ins key p a) ?_ ?_
    · refine ins_asc key p a h ?_
      intro x hx e
      rw [List.map_append, List.nodup_append] at hn
      exact hn.2.2 _ (List.mem_map_of_mem hx) _ (List.mem_map_of_mem (List.mem_cons_self ..)) e
    · refine (List.Perm.nodup_iff ?_).2 hn
      exact (((ins_perm key p a).append_right r).trans List.perm_middle.symm).map key
theorem srt_asc {l : List α} (h : (l.map key).Nodup) : Asc key (srt key l) := foldl_ins_asc key l [] (by simp [Asc]) (by simpa using h)

theorem asc_unique {a b : List α} (ha : Asc key a) (hb : Asc key b) (h : a.Perm b) : a = b := by
  refine List.Perm.eq_of_pairwise (le := fun x y => ltB (key x) (key y) = true) ?_ ha hb h
  intro x y _ _ h1 h2
  exact absurd (ltB_asymm h1) (by rw [h2]; simp)

theorem asc_nodup {a : List α} (ha : Asc key a) : (a.map key).Nodup := by
  refine List.pairwise_map.2 (ha.imp ?_)
  intro x y h e
  rw [e, ltB_irrefl] at h
  cases h

/-- Sorted, no matter how. -/
theorem srt_unique {l a : List α} (hn : (l.map key).Nodup) (hp : a.Perm l) (ha : a.Pairwise fun x y => ltB (key y) (key x) = false) : a = srt key l := by
  have hn' : (a.map key).Nodup := (hp.map key).nodup_iff.2 hn
  refine asc_unique key ?_ (srt_asc key hn) (hp.trans (srt_perm key l).symm)
  unfold Asc
  rw [List.nodup_iff_pairwise_ne, List.pairwise_map] at hn'
  refine (ha.and hn').imp ?_
  intro x y ⟨h1, h2⟩
  cases e : ltB (key x) (key y) with
  | true => rfl
  | false => exact absurd (ltB_total e h1) h2

theorem srt_eq {l m : List α} (hn : (l.map key).Nodup) (hp : m.Perm l) : srt key m = srt key l :=
  asc_unique key (srt_asc key ((hp.map key).nodup_iff.2 hn)) (srt_asc key hn) ((srt_perm key m).trans (hp.trans (srt_perm key l).symm))
end
end Go.Proofs.Ytckiihbnjfeplaa
