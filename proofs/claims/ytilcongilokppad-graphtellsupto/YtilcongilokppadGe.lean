/- Plain mathematics: names that need each other, by numbers. -/
import Derived.Test.YtilcongilokppadGd
import Derived.Test.YtilcongilokppadPa
namespace Go.Proofs.Ytilcongilokppad
set_option linter.unusedVariables false
set_option linter.unusedSimpArgs false

/-- A name, and what it needs. -/
structure Nd where
  name : ByteArray
  needs : List ByteArray

def row (R : List (List Nat)) (a : Nat) : List Nat := R.getD a []
def add (R : List (List Nat)) (a b : Nat) : List (List Nat) := R.set a (row R a ++ [b])

theorem add_length (R : List (List Nat)) (a b : Nat) : (add R a b).length = R.length := by simp [add]
theorem row_add {R : List (List Nat)} {a b : Nat} (ha : a < R.length) (k : Nat) : row (add R a b) k = if k = a then row R a ++ [b] else row R k := by
  by_cases h : k = a
  · subst h
    simp [row, add, List.getD, ha]
  · rw [if_neg h]
    unfold row add
    rw [List.getD_eq_getElem?_getD, List.getElem?_set_ne (fun e => h e.symm), ← List.getD_eq_getElem?_getD]
theorem row_none {R : List (List Nat)} {a : Nat} (h : R.length ≤ a) : row R a = [] := by simp [row, List.getD, h]

/-- Who needs whom is noted on both sides. -/
structure Two (n : Nat) (Nn Uu : List (List Nat)) : Prop where
  ln : Nn.length = n
  lu : Uu.length = n
  nlt : ∀ k, ∀ m ∈ row Nn k, m < n
  ult : ∀ k, ∀ m ∈ row Uu k, m < n
  both : ∀ i k, (row Uu i).count k = (row Nn k).count i

theorem row_start (n k : Nat) : row (List.replicate n []) k = [] := by
  by_cases h : k < n
  · simp [row, List.getD, h]
  · exact row_none (by simp; omega)
theorem Two.start (n : Nat) : Two n (List.replicate n []) (List.replicate n []) :=
  ⟨by simp, by simp, fun k m h => by rw [row_start] at h; simp at h, fun k m h => by rw [row_start] at h; simp at h, fun i k => by rw [row_start, row_start]; rfl⟩
theorem Two.add {n : Nat} {Nn Uu : List (List Nat)} (h : Two n Nn Uu) {i k : Nat} (hi : i < n) (hk : k < n) : Two n (add Nn i k) (add Uu k i) := by
  have l1 := h.ln
  have l2 := h.lu
  refine ⟨by rw [add_length]; exact l1, by rw [add_length]; exact l2, fun a m hm => ?_, fun a m hm => ?_, fun a b => ?_⟩
  · rw [row_add (by omega)] at hm
    split at hm
    · rcases List.mem_append.1 hm with q | q
      · exact h.nlt _ m q
      · simp at q
        omega
    · exact h.nlt a m hm
  · rw [row_add (by omega)] at hm
    split at hm
    · rcases List.mem_append.1 hm with q | q
      · exact h.ult _ m q
      · simp at q
        omega
    · exact h.ult a m hm
  · have hb := h.both a b
    rw [row_add (by omega), row_add (by omega)]
    by_cases e1 : a = k
    · by_cases e2 : b = i
      · subst e1 e2
        rw [if_pos rfl, if_pos rfl, List.count_append, List.count_append, hb]
        simp
      · subst e1
        rw [if_pos rfl, if_neg e2, List.count_append, hb]
        have : ¬ i = b := fun q => e2 q.symm
        simp [this]
    · by_cases e2 : b = i
      · subst e2
        rw [if_neg e1, if_pos rfl, List.count_append, hb]
        have : ¬ k = a := fun q => e1 q.symm
        simp [this]
      · rw [if_neg e1, if_neg e2, hb]
theorem Two.web {n : Nat} {Nn Uu : List (List Nat)} (h : Two n Nn Uu) : Web n (row Nn) (row Uu) :=
  ⟨fun k _ => h.nlt k, fun k _ => h.ult k, fun i k _ _ => h.both i k⟩

/-- All that i needs is noted, one by one. -/
def adds (i : Nat) : List Nat → List (List Nat) × List (List Nat) → List (List Nat) × List (List Nat)
  | [], p => p
  | k :: r, p => adds i r (add p.1 i k, add p.2 k i)
theorem adds_snoc (i k : Nat) : ∀ (r : List Nat) (p : List (List Nat) × List (List Nat)), adds i (r ++ [k]) p = (add (adds i r p).1 i k, add (adds i r p).2 k i)
  | [], p => rfl
  | x :: r, p => adds_snoc i k r _
theorem adds_two {n i : Nat} (hi : i < n) : ∀ (r : List Nat) (p : List (List Nat) × List (List Nat)), (∀ k ∈ r, k < n) → Two n p.1 p.2 → Two n (adds i r p).1 (adds i r p).2
  | [], p, _, h => h
  | x :: r, p, hr, h => adds_two hi r _ (fun k hk => hr k (by simp [hk])) (h.add hi (hr x (by simp)))
theorem adds_row {n i : Nat} (hi : i < n) : ∀ (r : List Nat) (p : List (List Nat) × List (List Nat)), p.1.length = n → ∀ k, row (adds i r p).1 k = if k = i then row p.1 i ++ r else row p.1 k
  | [], p, _, k => by
    by_cases e : k = i
    · subst e
      simp [adds]
    · simp [adds, e]
  | x :: r, p, hl, k => by
    show row (adds i r _).1 k = _
    rw [adds_row hi r _ (by simpa [add_length] using hl)]
    have h1 : ∀ m, row (add p.1 i x) m = if m = i then row p.1 i ++ [x] else row p.1 m := row_add (by omega)
    by_cases e : k = i
    · rw [if_pos e, if_pos e, h1, if_pos rfl]
      simp
    · rw [if_neg e, if_neg e, h1, if_neg e]

/-- S has the names, rising. -/
structure Ranks (l : List Nd) (S : List ByteArray) : Prop where
  asc : Asc (fun s : ByteArray => s) S
  perm : S.Perm (l.map Nd.name)

theorem Ranks.nodup {l : List Nd} {S : List ByteArray} (h : Ranks l S) : S.Nodup := by
  have := asc_nodup _ h.asc
  simpa using this
theorem Ranks.len {l : List Nd} {S : List ByteArray} (h : Ranks l S) : S.length = l.length := by
  have := h.perm.length_eq
  simpa using this
theorem plc_mem {l : List ByteArray} {s : ByteArray} : s ∈ l ↔ ∃ i, plc l s = some i := by
  cases e : plc l s with
  | none => simp [plc_none.1 e]
  | some i =>
    simp
    exact List.mem_of_getElem? (plc_some e).2
theorem plc_at {l : List ByteArray} (h : l.Nodup) {s : ByteArray} {i : Nat} (hi : l[i]? = some s) : plc l s = some i := by
  obtain ⟨k, hk⟩ := plc_mem.1 (List.mem_of_getElem? hi)
  have h2 := (plc_some hk).2
  rw [hk]
  obtain ⟨la, ea⟩ := List.getElem?_eq_some_iff.1 hi
  obtain ⟨lb, eb⟩ := List.getElem?_eq_some_iff.1 h2
  have hp := List.pairwise_iff_getElem.1 h
  rcases Nat.lt_trichotomy i k with c | c | c
  · exact absurd (ea.trans eb.symm) (hp i k la lb c)
  · rw [c]
  · exact absurd (eb.trans ea.symm) (hp k i lb la c)
theorem Ranks.rank {l : List Nd} {S : List ByteArray} (h : Ranks l S) {nd : Nd} (hn : nd ∈ l) : ∃ i, plc S nd.name = some i ∧ i < l.length := by
  have : nd.name ∈ S := h.perm.mem_iff.2 (List.mem_map.2 ⟨nd, hn, rfl⟩)
  obtain ⟨i, hi⟩ := plc_mem.1 this
  exact ⟨i, hi, h.len ▸ (plc_some hi).1⟩
theorem Ranks.inj {l : List Nd} {S : List ByteArray} (h : Ranks l S) {p q : Nat} {a b : Nd} (ha : l[p]? = some a) (hb : l[q]? = some b) {i : Nat} (h1 : plc S a.name = some i) (h2 : plc S b.name = some i) : p = q := by
  have e : a.name = b.name := by
    have := (plc_some h1).2.symm.trans (plc_some h2).2
    simpa using this
  have hn : (l.map Nd.name).Nodup := h.perm.nodup_iff.1 h.nodup
  obtain ⟨la, ea⟩ := List.getElem?_eq_some_iff.1 ha
  obtain ⟨lb, eb⟩ := List.getElem?_eq_some_iff.1 hb
  have hp := List.pairwise_iff_getElem.1 hn
  rcases Nat.lt_trichotomy p q with c | c | c
  · exact absurd e (by have := hp p q (by simpa using la) (by simpa using lb) c; simpa [ea, eb] using this)
  · exact c
  · exact absurd e.symm (by have := hp q p (by simpa using lb) (by simpa using la) c; simpa [ea, eb] using this)
theorem Ranks.at {l : List Nd} {S : List ByteArray} (h : Ranks l S) {i : Nat} (hi : i < l.length) : ∃ nd ∈ l, plc S nd.name = some i ∧ S[i]? = some nd.name := by
  have hi' : i < S.length := h.len ▸ hi
  have e := List.getElem?_eq_getElem hi'
  have hm : S[i] ∈ l.map Nd.name := h.perm.mem_iff.1 (List.getElem_mem hi')
  obtain ⟨nd, hn, hnd⟩ := List.mem_map.1 hm
  rw [← hnd] at e
  exact ⟨nd, hn, plc_at h.nodup e, e⟩

/-- A node that needs what none is called. -/
def Lacks (S : List ByteArray) (nd : Nd) : Prop := ∃ s ∈ nd.needs, plc S s = none

/-- While who needs whom is noted: j of l were. -/
structure Wov (S : List ByteArray) (l : List Nd) (j : Nat) (Nn Uu : List (List Nat)) (nm : List ByteArray) (lost : Nat) : Prop where
  two : Two l.length Nn Uu
  lm : nm.length = l.length
  le : lost ≤ l.length
  names : ∀ (q : Nat) (nd : Nd) (i : Nat), q < j → l[q]? = some nd → plc S nd.name = some i → nm[i]? = some nd.name
  bad : lost < l.length → ∃ nd ∈ l, plc S nd.name = some lost ∧ Lacks S nd
  least : ∀ (q : Nat) (nd : Nd) (i : Nat), q < j → l[q]? = some nd → plc S nd.name = some i → Lacks S nd → lost ≤ i
  good : ∀ (q : Nat) (nd : Nd) (i : Nat), q < j → l[q]? = some nd → plc S nd.name = some i → ¬ Lacks S nd → row Nn i = nd.needs.filterMap (plc S)
  ahead : ∀ (q : Nat) (nd : Nd) (i : Nat), j ≤ q → l[q]? = some nd → plc S nd.name = some i → row Nn i = []

theorem Wov.start (S : List ByteArray) (l : List Nd) : Wov S l 0 (List.replicate l.length []) (List.replicate l.length []) (List.replicate l.length ByteArray.empty) l.length :=
  ⟨Two.start _, by simp, Nat.le_refl _, fun q _ _ h => by omega, fun h => by omega, fun q _ _ h => by omega, fun q _ _ h => by omega, fun q nd i _ _ _ => row_start _ _⟩

theorem filterMap_lt {S : List ByteArray} {r : List ByteArray} : ∀ k ∈ r.filterMap (plc S), k < S.length := by
  intro k hk
  obtain ⟨s, _, hs⟩ := List.mem_filterMap.1 hk
  exact (plc_some hs).1

theorem Wov.step {S : List ByteArray} {l : List Nd} {j : Nat} {Nn Uu : List (List Nat)} {nm : List ByteArray} {lost : Nat} (h : Wov S l j Nn Uu nm lost) (hr : Ranks l S) {nd : Nd} {i : Nat} (hj : l[j]? = some nd) (hi : plc S nd.name = some i) (t : Nat)
    {lost' : Nat} (ht : (t = nd.needs.length ∧ ¬ Lacks S nd ∧ lost' = lost) ∨ (Lacks S nd ∧ lost' = min lost i)) :
    Wov S l (j + 1) (adds i ((nd.needs.take t).filterMap (plc S)) (Nn, Uu)).1 (adds i ((nd.needs.take t).filterMap (plc S)) (Nn, Uu)).2 (nm.set i nd.name) lost' := by
  have hil : i < l.length := hr.len ▸ (plc_some hi).1
  have hndl : nd ∈ l := List.mem_of_getElem? hj
  have hrow := adds_row hil ((nd.needs.take t).filterMap (plc S)) (Nn, Uu) h.two.ln
  have hle : lost' ≤ lost := by
    rcases ht with ⟨_, _, e⟩ | ⟨_, e⟩ <;> omega
  have hlel := h.le
  have hlm := h.lm
  have hother : ∀ (q : Nat) (x : Nd) (k : Nat), q ≠ j → l[q]? = some x → plc S x.name = some k → k ≠ i := fun q x k hq hx hk e => hq (hr.inj hx hj hk (e ▸ hi))
  refine ⟨adds_two hil _ _ (fun k hk => hr.len ▸ filterMap_lt k hk) h.two, by simpa using h.lm, by omega, fun q x k hq hx hk => ?_, fun hlt => ?_, fun q x k hq hx hk hl => ?_, fun q x k hq hx hk hl => ?_, fun q x k hq hx hk => ?_⟩
  · by_cases e : q = j
    · subst e
      rw [hj] at hx
      cases hx
      rw [hi] at hk
      cases hk
      rw [List.getElem?_set_self (by omega)]
    · rw [List.getElem?_set_ne (fun c => hother q x k e hx hk c.symm)]
      exact h.names q x k (by omega) hx hk
  · rcases ht with ⟨_, _, e⟩ | ⟨hL, e⟩
    · subst e
      exact h.bad hlt
    · by_cases c : lost ≤ i
      · rw [Nat.min_eq_left c] at e
        subst e
        exact h.bad hlt
      · rw [Nat.min_eq_right (by omega)] at e
        subst e
        exact ⟨nd, hndl, hi, hL⟩
  · by_cases e : q = j
    · subst e
      rw [hj] at hx
      cases hx
      rw [hi] at hk
      cases hk
      rcases ht with ⟨_, c, _⟩ | ⟨_, c⟩
      · exact absurd hl c
      · omega
    · have := h.least q x k (by omega) hx hk hl
      omega
  · by_cases e : q = j
    · subst e
      rw [hj] at hx
      cases hx
      rw [hi] at hk
      cases hk
      rcases ht with ⟨c, _, _⟩ | ⟨c, _⟩
      · rw [hrow, if_pos rfl, c, List.take_length]
        simp only
        rw [h.ahead q nd i (Nat.le_refl _) hj hi]
        rfl
      · exact absurd c hl
    · rw [hrow, if_neg (hother q x k e hx hk)]
      exact h.good q x k (by omega) hx hk hl
  · rw [hrow, if_neg (hother q x k (by omega) hx hk)]
    exact h.ahead q x k (by omega) hx hk

/-- N has, by their numbers, what the names of l need. -/
def IsN (l : List Nd) (S : List ByteArray) (N : Nat → List Nat) : Prop := ∀ nd ∈ l, ∀ i, plc S nd.name = some i → N i = nd.needs.filterMap (plc S)

theorem Wov.names_eq {S : List ByteArray} {l : List Nd} {Nn Uu : List (List Nat)} {nm : List ByteArray} {lost : Nat} (h : Wov S l l.length Nn Uu nm lost) (hr : Ranks l S) : nm = S := by
  refine List.ext_getElem? fun i => ?_
  by_cases hi : i < l.length
  · obtain ⟨nd, hn, hp, hs⟩ := hr.at hi
    obtain ⟨q, hq⟩ := List.mem_iff_getElem?.1 hn
    rw [hs, h.names q nd i (List.getElem?_eq_some_iff.1 hq).1 hq hp]
  · have := h.lm
    have := hr.len
    rw [List.getElem?_eq_none (by omega), List.getElem?_eq_none (by omega)]
theorem Wov.lost {S : List ByteArray} {l : List Nd} {Nn Uu : List (List Nat)} {nm : List ByteArray} {lost : Nat} (h : Wov S l l.length Nn Uu nm lost) (hl : lost < l.length) :
    (∃ nd ∈ l, plc S nd.name = some lost ∧ Lacks S nd) ∧ ∀ nd ∈ l, ∀ i, plc S nd.name = some i → Lacks S nd → lost ≤ i := by
  refine ⟨h.bad hl, fun nd hn i hi hL => ?_⟩
  obtain ⟨q, hq⟩ := List.mem_iff_getElem?.1 hn
  exact h.least q nd i (List.getElem?_eq_some_iff.1 hq).1 hq hi hL
theorem Wov.whole {S : List ByteArray} {l : List Nd} {Nn Uu : List (List Nat)} {nm : List ByteArray} (h : Wov S l l.length Nn Uu nm l.length) (hr : Ranks l S) : (∀ nd ∈ l, ¬ Lacks S nd) ∧ IsN l S (row Nn) := by
  have hno : ∀ nd ∈ l, ¬ Lacks S nd := fun nd hn hL => by
    obtain ⟨i, hi, hlt⟩ := hr.rank hn
    obtain ⟨q, hq⟩ := List.mem_iff_getElem?.1 hn
    have := h.least q nd i (List.getElem?_eq_some_iff.1 hq).1 hq hi hL
    omega
  refine ⟨hno, fun nd hn i hi => ?_⟩
  obtain ⟨q, hq⟩ := List.mem_iff_getElem?.1 hn
  exact h.good q nd i (List.getElem?_eq_some_iff.1 hq).1 hq hi (hno nd hn)

/-- The first one that is called as one ahead. -/
def dup : List ByteArray → List ByteArray → Option ByteArray
  | _, [] => none
  | seen, x :: l => if x ∈ seen then some x else dup (seen ++ [x]) l
theorem dup_none : ∀ (l seen : List ByteArray), seen.Nodup → (dup seen l = none ↔ (seen ++ l).Nodup)
  | [], seen, h => by simp [dup, h]
  | x :: l, seen, h => by
    unfold dup
    by_cases e : x ∈ seen
    · rw [if_pos e]
      simp only [List.nodup_append, reduceCtorEq, false_iff]
      intro ⟨_, _, c⟩
      exact c x e x (by simp) rfl
    · rw [if_neg e, dup_none l (seen ++ [x])]
      · simp
      · rw [List.nodup_append]
        refine ⟨h, by simp, ?_⟩
        intro a ha b hb c
        simp at hb
        subst hb c
        exact e ha

/-- What Order tells. -/
inductive Tells (l : List Nd) : List ByteArray → ByteArray → Int → Prop
  | fit (x : ByteArray) : dup [] (l.map Nd.name) = some x → Tells l [] x 8
  | none (S : List ByteArray) (i : Nat) (nd : Nd) : Ranks l S → nd ∈ l → plc S nd.name = some i → Lacks S nd → (∀ m ∈ l, ∀ k, plc S m.name = some k → Lacks S m → i ≤ k) → Tells l [] nd.name 6
  | cycle (S : List ByteArray) (N : Nat → List Nat) (r : Nat) (who : ByteArray) : Ranks l S → (∀ nd ∈ l, ¬ Lacks S nd) → IsN l S N → r < l.length → Rch N r r → (∀ k, k < l.length → Rch N k k → r ≤ k) → S[r]? = some who → Tells l [] who 9
  | ok (S : List ByteArray) (N : Nat → List Nat) (o : List Nat) (out : List ByteArray) : Ranks l S → (∀ nd ∈ l, ¬ Lacks S nd) → IsN l S N → Greedy l.length N o → o.length = l.length → out = o.map (fun i => S.getD i ByteArray.empty) → Tells l out ByteArray.empty 0
end Go.Proofs.Ytilcongilokppad
