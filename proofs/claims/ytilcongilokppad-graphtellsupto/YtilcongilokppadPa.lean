/- Plain mathematics: the order of texts; where a text stands. -/
import Derived.WalkSmall
import Derived.Lib.Bytealg
namespace Go.Proofs.Ytilcongilokppad
set_option linter.unusedVariables false
set_option linter.unusedSimpArgs false

instance lawfulBytes : LawfulBEq ByteArray where
  eq_of_beq {a b} h := by
    obtain ⟨a⟩ := a
    obtain ⟨b⟩ := b
    have h' : (a == b) = true := h
    rw [eq_of_beq h']
  rfl {a} := by
    show (a.data == a.data) = true
    simp

/-! ### The order of texts. -/
def cmpB (a b : ByteArray) : Int := Lib.compareBytes a.data.toList b.data.toList
def ltB (a b : ByteArray) : Bool := decide (cmpB a b < 0)

theorem cb_refl : ∀ a : List UInt8, Lib.compareBytes a a = 0
  | [] => rfl
  | c :: r => by simp [Lib.compareBytes, cb_refl r]
theorem cb_eq : ∀ a b : List UInt8, Lib.compareBytes a b = 0 → a = b
  | [], [], _ => rfl
  | [], _ :: _, h => by simp [Lib.compareBytes] at h
  | _ :: _, [], h => by simp [Lib.compareBytes] at h
  | x :: a, y :: b, h => by
    unfold Lib.compareBytes at h
    by_cases h1 : x < y
    · simp [h1] at h
    · by_cases h2 : y < x
      · simp [h1, h2] at h
      · simp [h1, h2] at h
        have e : x = y := UInt8.le_antisymm (UInt8.not_lt.1 h2) (UInt8.not_lt.1 h1)
        rw [e, cb_eq a b h]
theorem cb_anti : ∀ a b : List UInt8, Lib.compareBytes a b = - Lib.compareBytes b a
  | [], [] => rfl
  | [], _ :: _ => rfl
  | _ :: _, [] => rfl
  | x :: a, y :: b => by
    unfold Lib.compareBytes
    by_cases h1 : x < y
    · have h2 : ¬ y < x := fun h => UInt8.lt_irrefl x (UInt8.lt_trans h1 h)
      simp [h1, h2]
    · by_cases h2 : y < x
      · simp [h1, h2]
      · simp [h1, h2]
        exact cb_anti a b
theorem cb_trans : ∀ a b c : List UInt8, Lib.compareBytes a b < 0 → Lib.compareBytes b c < 0 → Lib.compareBytes a c < 0
  | [], [], _, h, _ => by simp [Lib.compareBytes] at h
  | [], _ :: _, [], _, h => by simp [Lib.compareBytes] at h
  | [], _ :: _, _ :: _, _, _ => by simp [Lib.compareBytes]
  | _ :: _, [], _, h, _ => by simp [Lib.compareBytes] at h
  | _ :: _, _ :: _, [], _, h => by simp [Lib.compareBytes] at h
  | x :: a, y :: b, z :: c, h, h' => by
    unfold Lib.compareBytes at h h' ⊢
    by_cases h1 : x < y
    · by_cases h2 : y < z
      · simp [UInt8.lt_trans h1 h2]
      · by_cases h3 : z < y
        · simp [h2, h3] at h'
        · have e : y = z := UInt8.le_antisymm (UInt8.not_lt.1 h3) (UInt8.not_lt.1 h2)
          subst e
          simp [h1]
    · by_cases h1' : y < x
      · simp [h1, h1'] at h
      · have e : x = y := UInt8.le_antisymm (UInt8.not_lt.1 h1') (UInt8.not_lt.1 h1)
        subst e
        simp only [h1, if_false] at h
        by_cases h2 : x < z
        · simp [h2]
        · by_cases h3 : z < x
          · simp [h2, h3] at h'
          · simp only [h2, h3, if_false] at h' ⊢
            exact cb_trans a b c h h'

theorem ba_eq {a b : ByteArray} (h : a.data.toList = b.data.toList) : a = b := by
  obtain ⟨⟨a⟩⟩ := a
  obtain ⟨⟨b⟩⟩ := b
  simp at h
  rw [h]
theorem cmpB_refl (a : ByteArray) : cmpB a a = 0 := cb_refl _
theorem cmpB_eq {a b : ByteArray} (h : cmpB a b = 0) : a = b := ba_eq (cb_eq _ _ h)
theorem cmpB_anti (a b : ByteArray) : cmpB a b = - cmpB b a := cb_anti _ _
theorem ltB_irrefl (a : ByteArray) : ltB a a = false := by simp [ltB, cmpB_refl]
theorem ltB_trans {a b c : ByteArray} (h : ltB a b = true) (h' : ltB b c = true) : ltB a c = true := by
  simp only [ltB, decide_eq_true_eq] at *
  exact cb_trans _ _ _ h h'
theorem ltB_total {a b : ByteArray} (h : ltB a b = false) (h' : ltB b a = false) : a = b := by
  simp only [ltB, decide_eq_false_iff_not] at *
  have := cmpB_anti a b
  exact cmpB_eq (by omega)
theorem ltB_asymm {a b : ByteArray} (h : ltB a b = true) : ltB b a = false := by
  cases h' : ltB b a with
  | false => rfl
  | true => exact absurd (ltB_irrefl a) (by rw [ltB_trans h h']; simp)
theorem ltB_ntrans {a b c : ByteArray} (h : ltB a b = false) (h' : ltB b c = false) : ltB a c = false := by
  cases h2 : ltB a c with
  | false => rfl
  | true =>
    by_cases e : b = a
    · subst e; rw [h'] at h2; cases h2
    · cases h3 : ltB b a with
      | false => exact absurd (ltB_total h3 h) e
      | true => rw [ltB_trans h3 h2] at h'; cases h'

/-! ### Sorted by a key. -/
section
variable {α : Type} (key : α → ByteArray)

/-- Put in, ahead of the first that is not less. -/
def ins (p : α) : List α → List α
  | [] => [p]
  | x :: r => if ltB (key x) (key p) = true then x :: ins p r else p :: x :: r

def srt (l : List α) : List α := l.foldl (fun a p => ins key p a) []

def Asc (l : List α) : Prop := l.Pairwise fun x y => ltB (key x) (key y) = true

theorem ins_perm (p : α) : ∀ l : List α, (ins key p l).Perm (p :: l)
  | [] => List.Perm.refl _
  | x :: r => by
    unfold ins
    split
    · exact ((ins_perm p r).cons x).trans (List.Perm.swap _ _ _)
    · exact List.Perm.refl _

theorem mem_ins {p x : α} {l : List α} : x ∈ ins key p l ↔ x = p ∨ x ∈ l := by
  rw [(ins_perm key p l).mem_iff]; simp

theorem ins_asc (p : α) : ∀ l : List α, Asc key l → (∀ x ∈ l, key x ≠ key p) → Asc key (ins key p l)
  | [], _, _ => by simp [ins, Asc]
  | x :: r, h, hn => by
    obtain ⟨h1, h2⟩ := List.pairwise_cons.1 h
    unfold ins
    split
    · rename_i hlt
      refine List.pairwise_cons.2 ⟨?_, ins_asc p r h2 (fun y hy => hn y (List.mem_cons_of_mem _ hy))⟩
      intro y hy
      rcases (mem_ins key).1 hy with rfl | hy
      · exact hlt
      · exact h1 y hy
    · rename_i hlt
      have hpx : ltB (key p) (key x) = true := by
        cases e : ltB (key p) (key x) with
        | true => rfl
        | false => exact absurd (ltB_total (by simpa using hlt) e) (hn x (by simp))
      refine List.pairwise_cons.2 ⟨?_, h⟩
      intro y hy
      rcases List.mem_cons.1 hy with rfl | hy
      · exact hpx
      · exact ltB_trans hpx (h1 y hy)

theorem foldl_ins_perm : ∀ (l a : List α), (l.foldl (fun a p => ins key p a) a).Perm (a ++ l)
  | [], a => by simp
  | p :: r, a => by
    refine (foldl_ins_perm r (ins key p a)).trans ?_
    refine ((ins_perm key p a).append_right r).trans ?_
    exact List.perm_middle.symm
theorem srt_perm (l : List α) : (srt key l).Perm l := foldl_ins_perm key l []

theorem foldl_ins_asc : ∀ (l a : List α), Asc key a → ((a ++ l).map key).Nodup → Asc key (l.foldl (fun a p => ins key p a) a)
  | [], a, h, _ => h
  | p :: r, a, h, hn => by
    refine foldl_ins_asc r (ins key p a) ?_ ?_
    · refine ins_asc key p a h ?_
      intro x hx e
      rw [List.map_append, List.nodup_append] at hn
      exact hn.2.2 _ (List.mem_map_of_mem hx) _ (List.mem_map_of_mem (List.mem_cons_self ..)) e
    · refine (List.Perm.nodup_iff ?_).2 hn
      exact (((ins_perm key p a).append_right r).trans List.perm_middle.symm).map key
theorem srt_asc {l : List α} (h : (l.map key).Nodup) : Asc key (srt key l) := foldl_ins_asc key l [] (by simp [Asc]) (by simpa using h)

theorem asc_unique {a b : List α} (ha : Asc key a) (hb : Asc key b) (h : a.Perm b) : a = b := by
  refine List.Perm.eq_of_pairwise (le := fun x y => ltB (key x) (key y) = true) ?_ ha hb h
  intro x y _ _ h1 h2
  exact absurd (ltB_asymm h1) (by rw [h2]; simp)

theorem asc_nodup {a : List α} (ha : Asc key a) : (a.map key).Nodup := by
  refine List.pairwise_map.2 (ha.imp ?_)
  intro x y h e
  rw [e, ltB_irrefl] at h
  cases h

/-- Sorted, no matter how. -/
theorem srt_unique {l a : List α} (hn : (l.map key).Nodup) (hp : a.Perm l) (ha : a.Pairwise fun x y => ltB (key y) (key x) = false) : a = srt key l := by
  have hn' : (a.map key).Nodup := (hp.map key).nodup_iff.2 hn
  refine asc_unique key ?_ (srt_asc key hn) (hp.trans (srt_perm key l).symm)
  unfold Asc
  rw [List.nodup_iff_pairwise_ne, List.pairwise_map] at hn'
  refine (ha.and hn').imp ?_
  intro x y ⟨h1, h2⟩
  cases e : ltB (key x) (key y) with
  | true => rfl
  | false => exact absurd (ltB_total e h1) h2

theorem srt_eq {l m : List α} (hn : (l.map key).Nodup) (hp : m.Perm l) : srt key m = srt key l :=
  asc_unique key (srt_asc key ((hp.map key).nodup_iff.2 hn)) (srt_asc key hn) ((srt_perm key m).trans (hp.trans (srt_perm key l).symm))
end
/-- Where a text stands first. -/
def plc (l : List ByteArray) (s : ByteArray) : Option Nat := l.findIdx? fun x => decide (x = s)

theorem plc_nil (s : ByteArray) : plc [] s = none := rfl
theorem plc_snoc (l : List ByteArray) (x s : ByteArray) : plc (l ++ [x]) s = match plc l s with | some i => some i | none => if s = x then some l.length else none := by
  unfold plc
  rw [List.findIdx?_append]
  cases l.findIdx? fun x => decide (x = s) with
  | some i => rfl
  | none =>
    by_cases h : x = s
    · simp [h]
    · have h' : ¬ s = x := fun e => h e.symm
      simp [h, h']
theorem plc_none {l : List ByteArray} {s : ByteArray} : plc l s = none ↔ s ∉ l := by
  unfold plc
  rw [List.findIdx?_eq_none_iff]
  constructor
  · intro h hs
    have := h s hs
    simp at this
  · intro h x hx
    have : x ≠ s := fun e => h (e ▸ hx)
    simpa using this
theorem plc_some {l : List ByteArray} {s : ByteArray} {i : Nat} (h : plc l s = some i) : i < l.length ∧ l[i]? = some s := by
  unfold plc at h
  rw [List.findIdx?_eq_some_iff_getElem] at h
  obtain ⟨h1, h2, _⟩ := h
  exact ⟨h1, by rw [List.getElem?_eq_getElem h1]; simpa using h2⟩
theorem take_put {α : Type} {l : List α} {j : Nat} {s : α} (h : l[j]? = some s) : l.take (j + 1) = l.take j ++ [s] := by
  rw [List.take_add_one, h]
  rfl
theorem lt_of_at {α : Type} {l : List α} {j : Nat} {s : α} (h : l[j]? = some s) : j < l.length := (List.getElem?_eq_some_iff.1 h).1

theorem plc_step_old {l : List ByteArray} {j i : Nat} {s : ByteArray} (h : l[j]? = some s) (hp : plc (l.take j) s = some i) (t : ByteArray) : plc (l.take (j + 1)) t = plc (l.take j) t := by
  rw [take_put h, plc_snoc]
  cases e : plc (l.take j) t with
  | some k => rfl
  | none =>
    simp only
    rw [if_neg]
    intro e'
    subst e'
    rw [hp] at e
    cases e
theorem plc_step_new {l : List ByteArray} {j : Nat} {s : ByteArray} (h : l[j]? = some s) (hp : plc (l.take j) s = none) (t : ByteArray) : plc (l.take (j + 1)) t = if t = s then some j else plc (l.take j) t := by
  rw [take_put h, plc_snoc]
  by_cases e : t = s
  · subst e
    rw [hp]
    simp
    have := lt_of_at h
    omega
  · cases plc (l.take j) t with
    | some k => simp [e]
    | none => simp [e]

end Go.Proofs.Ytilcongilokppad
