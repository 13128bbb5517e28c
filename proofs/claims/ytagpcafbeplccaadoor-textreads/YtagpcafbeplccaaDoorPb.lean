/- Two texts are one; blanks and notes say nothing: plain. -/
import Derived.Test.YtagpcafbeplccaaDoorPa
namespace Go.Proofs.YtagpcafbeplccaaDoor
set_option linter.unusedVariables false
set_option linter.unusedSimpArgs false

theorem readL_ok {l : List UInt8} {ds : List Dat} (h : readL l = .inr ds) : l.length ≤ 6000 ∧ ∃ j m, alls l (l.length + 1) 0 0 = .inr (ds, j, m) := by
  unfold readL at h
  split at h
  · simp at h
  · rename_i hl
    refine ⟨by omega, ?_⟩
    cases ha : alls l (l.length + 1) 0 0 with
    | inl e => rw [ha] at h; simp at h
    | inr x =>
      obtain ⟨es, j, m⟩ := x
      rw [ha] at h
      simp at h
      subst h
      exact ⟨j, m, rfl⟩

theorem readL_of {l : List UInt8} {ds : List Dat} {j m : Nat} (hl : l.length ≤ 6000) (h : alls l (l.length + 1) 0 0 = .inr (ds, j, m)) : readL l = .inr ds := by
  unfold readL
  rw [if_neg (by omega), h]

theorem readL_bad {l : List UInt8} {x : Int × Int} (hl : l.length ≤ 6000) (h : alls l (l.length + 1) 0 0 = .inl x) : readL l = .inl x := by
  unfold readL
  rw [if_neg (by omega), h]

theorem in_mid (p l q : List UInt8) : In l (p ++ (l ++ q)) q p.length := by
  intro i hi
  rw [List.drop_append, List.drop_of_length_le (by omega), List.nil_append, show i + p.length - p.length = i from by omega, List.drop_append, show i - l.length = 0 from by omega, List.drop_zero]

theorem skipL_note_all : ∀ (l : List UInt8), (∀ c, c ∈ l → c ≠ 10) → skipL l true = l.length
  | [], _ => rfl
  | c :: r, h => by
    have hc := h c (by simp)
    have e1 : noted c true = true := by unfold noted; split <;> simp [hc]
    show (if noted c true || isBlank c then skipL r (noted c true) + 1 else 0) = _
    rw [e1, Bool.true_or, if_pos rfl, skipL_note_all r (fun x hx => h x (by simp [hx]))]
    rfl

theorem skipL_app_full : ∀ (l q : List UInt8) (b b' : Bool), skipL l b = l.length → (l.foldl (fun b c => noted c b) b) = b' → skipL (l ++ q) b = l.length + skipL q b'
  | [], q, b, b', h, e => by simp at e; subst e; simp
  | c :: r, q, b, b', h, e => by
    have e1 : skipL (c :: r) b = if noted c b || isBlank c then skipL r (noted c b) + 1 else 0 := rfl
    have e2 : skipL (c :: r ++ q) b = if noted c b || isBlank c then skipL (r ++ q) (noted c b) + 1 else 0 := rfl
    rw [e1] at h
    rw [e2]
    by_cases hc : (noted c b || isBlank c) = true
    · rw [if_pos hc] at h ⊢
      rw [skipL_app_full r q _ b' (by simp at h; exact h) e]
      simp
      omega
    · rw [if_neg hc] at h
      simp at h

theorem noted_all : ∀ (l : List UInt8), (∀ c, c ∈ l → c ≠ 10) → l.foldl (fun b c => noted c b) true = true
  | [], _ => rfl
  | c :: r, h => by
    have hc := h c (by simp)
    have e1 : noted c true = true := by unfold noted; split <;> simp [hc]
    show r.foldl (fun b c => noted c b) (noted c true) = true
    rw [e1]
    exact noted_all r (fun x hx => h x (by simp [hx]))

/-- A note ahead, on a line. -/
theorem skip_ahead (note rest : List UInt8) (h : ∀ c, c ∈ note → c ≠ 10) : skipL (59 :: (note ++ (10 :: 32 :: 9 :: rest))) false = (note.length + 4) + skipL rest false := by
  show (if noted 59 false || isBlank 59 then skipL (note ++ (10 :: 32 :: 9 :: rest)) (noted 59 false) + 1 else 0) = _
  rw [show noted 59 false = true from rfl, Bool.true_or, if_pos rfl, skipL_app_full note _ true true (skipL_note_all note h) (noted_all note h)]
  have : skipL (10 :: 32 :: 9 :: rest) true = skipL rest false + 3 := by simp [skipL, noted, isBlank]
  rw [this]
  omega

theorem skip_behind (note : List UInt8) (h : ∀ c, c ∈ note → c ≠ 10) : skipL (10 :: 59 :: note) false = note.length + 2 := by
  have : skipL (10 :: 59 :: note) false = skipL note true + 2 := by simp [skipL, noted, isBlank]
  rw [this, skipL_note_all note h]

theorem alls_stop (l : List UInt8) (k i n : Nat) (hk : 1 ≤ k) (h : l.length ≤ i + skipL (l.drop i) false) : ∃ j, alls l k i n = .inr ([], j, n) := by
  cases k with
  | zero => omega
  | succ k =>
    unfold alls
    simp only
    rw [if_pos h]
    exact ⟨_, rfl⟩

/-- BLANKS AND NOTES SAY NOTHING. -/
theorem read_blank (l note : List UInt8) (ds : List Dat) (h : readL l = .inr ds) (hn : ∀ c, c ∈ note → c ≠ 10) (hlen : l.length + 2 * note.length + 6 ≤ 6000) :
    readL (59 :: (note ++ (10 :: 32 :: 9 :: (l ++ (10 :: 59 :: note))))) = .inr ds := by
  obtain ⟨hl, j, m, ha⟩ := readL_ok h
  have hin := in_mid (59 :: (note ++ [10, 32, 9])) l (10 :: 59 :: note)
  have e : (59 :: (note ++ [10, 32, 9])) ++ (l ++ (10 :: 59 :: note)) = 59 :: (note ++ (10 :: 32 :: 9 :: (l ++ (10 :: 59 :: note)))) := by simp
  rw [e] at hin
  have e2 : (59 :: (note ++ [10, 32, 9])).length = note.length + 4 := by simp
  rw [e2] at hin
  have hs := skip_ahead note (l ++ (10 :: 59 :: note)) hn
  have e3 : (59 :: (note ++ (10 :: 32 :: 9 :: (l ++ (10 :: 59 :: note))))).length = l.length + 2 * note.length + 6 := by simp; omega
  generalize 59 :: (note ++ (10 :: 32 :: 9 :: (l ++ (10 :: 59 :: note)))) = L at *
  have hst : alls L (L.length + 1) 0 0 = alls L (L.length + 1) (0 + (note.length + 4)) (0 + 0) := by
    refine alls_same L L.length 0 _ _ ?_
    rw [hin 0 (Nat.zero_le _), List.drop_zero, List.drop_zero, hs]
    omega
  rcases alls_in (c := 0) hin (Or.inr ⟨59 :: note, rfl⟩) (l.length + 1) (L.length + 1) 0 0 ds j m (by omega) (Nat.zero_le _) (by omega) (by omega) ha with ⟨k'', g1, g2, g3, g4, g5⟩ | ⟨hc, _⟩
  · obtain ⟨j', e4⟩ := alls_stop L k'' (l.length + (note.length + 4)) (m + 0) g2 (by rw [hin l.length (Nat.le_refl _), List.drop_length, List.nil_append, skip_behind note hn]; omega)
    rw [e4] at g5
    refine readL_of (j := j') (m := m + 0) (by omega) ?_
    rw [hst, g5]
    simp [cat]
  · omega

/-- TWO TEXTS ARE ONE. -/
theorem read_joined (a b : List UInt8) (xs ys : List Dat) (ha : readL a = .inr xs) (hb : readL b = .inr ys) (hlen : a.length + b.length + 1 ≤ 6000) :
    readL (a ++ (10 :: b)) = .inr (xs ++ ys) ∨ ∃ x, readL (a ++ (10 :: b)) = .inl (4, x) := by
  obtain ⟨_, j1, m1, h1⟩ := readL_ok ha
  obtain ⟨_, j2, m2, h2⟩ := readL_ok hb
  have hin1 := in_mid [] a (10 :: b)
  have hin2 := in_mid (a ++ [10]) b []
  have e1 : [] ++ (a ++ (10 :: b)) = a ++ (10 :: b) := rfl
  have e2 : (a ++ [10]) ++ (b ++ []) = a ++ (10 :: b) := by simp
  have e3 : (a ++ [10]).length = a.length + 1 := by simp
  have e4 : (a ++ (10 :: b)).length = a.length + b.length + 1 := by simp; omega
  rw [e1, List.length_nil] at hin1
  rw [e2, e3] at hin2
  generalize a ++ (10 :: b) = L at *
  rcases alls_in (c := 0) hin1 (Or.inr ⟨b, rfl⟩) (a.length + 1) (L.length + 1) 0 0 xs j1 m1 (by omega) (Nat.zero_le _) (by omega) (by omega) h1 with ⟨k'', g1, g2, g3, g4, g5⟩ | ⟨hc, _⟩
  · have hst : alls L k'' (a.length + 0) (m1 + 0) = alls L k'' (0 + (a.length + 1)) (0 + m1) := by
      obtain ⟨k3, rfl⟩ : ∃ k3, k'' = k3 + 1 := ⟨k'' - 1, by omega⟩
      rw [show m1 + 0 = 0 + m1 from by omega]
      refine alls_same L k3 _ _ _ ?_
      rw [hin1 a.length (Nat.le_refl _), hin2 0 (Nat.zero_le _)]
      simp [skipL, noted, isBlank]
      omega
    rw [hst] at g5
    rcases alls_in (c := m1) hin2 (Or.inl rfl) (b.length + 1) k'' 0 0 ys j2 m2 (by omega) (Nat.zero_le _) (by omega) (by omega) h2 with ⟨k4, f1, f2, f3, f4, f5⟩ | ⟨hc, x, f5⟩
    · obtain ⟨j', e5⟩ := alls_stop L k4 (b.length + (a.length + 1)) (m2 + m1) f2 (by omega)
      rw [e5] at f5
      rw [f5] at g5
      left
      exact readL_of (by omega) (by rw [show alls L (L.length + 1) 0 0 = _ from g5]; simp [cat]; exact ⟨rfl, rfl⟩)
    · right
      rw [f5] at g5
      exact ⟨x, readL_bad (by omega) (by rw [show alls L (L.length + 1) 0 0 = _ from g5]; rfl)⟩
  · omega

end Go.Proofs.YtagpcafbeplccaaDoor
