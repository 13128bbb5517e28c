/- How data are written: plain. -/
import Derived.Test.YtdnbingddbakaaaGreatDoorK23
import Derived.Lib.ItoaLen
import Derived.WalkSmall
namespace Go.Proofs.YtdnbingddbakaaaGreatDoor
set_option linter.unusedVariables false
set_option linter.unusedSimpArgs false
open Go.RowKit

/-- How a datum is written. -/
def txt : Nat → Dat → List UInt8
  | 0, _ => []
  | f + 1, d =>
    if d.kind = 1 then Lib.itoa d.n
    else if d.kind = 2 then (if d.n = 1 then [35, 116] else [35, 102])
    else if d.kind = 3 then d.name.data.toList
    else 40 :: ((d.kids.flatMap fun k => 32 :: txt f k).drop 1 ++ [41])

/-- Kids, a blank ahead of each. -/
def spaced (f : Nat) (ks : List Dat) : List UInt8 := ks.flatMap fun k => 32 :: txt f k

theorem txt_num {f : Nat} {d : Dat} (h : d.kind = 1) : txt (f + 1) d = Lib.itoa d.n := by unfold txt; rw [if_pos h]
theorem txt_bool {f : Nat} {d : Dat} (h : d.kind = 2) : txt (f + 1) d = if d.n = 1 then [35, 116] else [35, 102] := by unfold txt; rw [if_neg (by omega), if_pos h]
theorem txt_sym {f : Nat} {d : Dat} (h : d.kind = 3) : txt (f + 1) d = d.name.data.toList := by unfold txt; rw [if_neg (by omega), if_neg (by omega), if_pos h]
theorem txt_list {f : Nat} {d : Dat} (h : d.kind = 4) : txt (f + 1) d = 40 :: ((spaced f d.kids).drop 1 ++ [41]) := by
  unfold txt; rw [if_neg (by omega), if_neg (by omega), if_neg (by omega)]; rfl

theorem spaced_snoc (f : Nat) (ks : List Dat) (j : Nat) (k : Dat) (h : ks[j]? = some k) : spaced f (ks.take (j + 1)) = spaced f (ks.take j) ++ 32 :: txt f k := by
  obtain ⟨hj, e⟩ := List.getElem?_eq_some_iff.1 h
  unfold spaced
  rw [List.take_succ_eq_append_getElem hj, e]
  simp

/-- A kid of right kids is right. -/
theorem chkL_kid (g : Dat → Nat → Int × Nat) (hg : ∀ d n, n ≤ 2000 → (g d n).1 = 0 → (g d n).2 ≤ 2000) : ∀ (ks : List Dat) (n : Nat), n ≤ 2000 → (chkL g ks n).1 = 0 → ∀ k, k ∈ ks → ∃ m, m ≤ 2000 ∧ (g k m).1 = 0
  | d :: r, n, hn, h, k, hk => by
    unfold chkL at h
    by_cases e : (g d n).1 = 0
    · rw [if_pos e] at h
      rcases List.mem_cons.1 hk with rfl | hk
      · exact ⟨n, hn, e⟩
      · exact chkL_kid g hg r _ (hg d n hn e) h k hk
    · rw [if_neg e] at h
      exact absurd h e

theorem chk_parts {f : Nat} {d : Dat} {n : Nat} (h : (chk (f + 1) d n).1 = 0) : n + 1 ≤ 2000 ∧ alone d = 0 ∧ (d.kind = 4 → (chkL (chk f) d.kids (n + 1)).1 = 0) ∧ (chk (f + 1) d n).2 = (if d.kind = 4 then (chkL (chk f) d.kids (n + 1)).2 else n + 1) := by
  unfold chk at h ⊢
  by_cases a : 2000 < n + 1
  · rw [if_pos a] at h; simp at h
  · rw [if_neg a] at h ⊢
    by_cases b : alone d = 0
    · rw [if_pos b] at h ⊢
      refine ⟨by omega, b, ?_, ?_⟩
      · intro c; rwa [if_pos c] at h
      · split <;> rfl
    · rw [if_neg b] at h; exact absurd h b

theorem alone_kind {d : Dat} (h : alone d = 0) : d.kind = 1 ∨ d.kind = 2 ∨ d.kind = 3 ∨ d.kind = 4 := by
  by_cases k1 : d.kind = 1
  · exact Or.inl k1
  · by_cases k2 : d.kind = 2
    · exact Or.inr (Or.inl k2)
    · by_cases k3 : d.kind = 3
      · exact Or.inr (Or.inr (Or.inl k3))
      · by_cases k4 : d.kind = 4
        · exact Or.inr (Or.inr (Or.inr k4))
        · rw [alone_else k1 k2 k3 k4] at h; omega

theorem alone_range {d : Dat} (h : alone d = 0) (hk : d.kind = 1) : -1000000000000000 ≤ d.n ∧ d.n ≤ 1000000000000000 := by
  rw [alone_num hk] at h
  unfold rangeB at h
  by_cases a : -1000000000000000 ≤ d.n ∧ d.n ≤ 1000000000000000
  · exact a
  · have : (decide (-1000000000000000 ≤ d.n) && decide (d.n ≤ 1000000000000000)) = false := by simp; omega
    rw [this] at h; simp at h

theorem alone_name {d : Dat} (h : alone d = 0) (hk : d.kind = 3) : namedB d.name = true := by
  rw [alone_sym hk] at h
  unfold symErr at h
  cases e : namedB d.name with
  | true => rfl
  | false => rw [e] at h; simp at h

theorem named_size {s : ByteArray} (h : namedB s = true) : s.size ≤ 20 := by
  unfold namedB at h
  simp at h
  omega

theorem kidsLen (f : Nat) (hf : ∀ d n, (chk f d n).1 = 0 → (txt f d).length + 3 + 24 * n ≤ 24 * (chk f d n).2) : ∀ (ks : List Dat) (n : Nat), (chkL (chk f) ks n).1 = 0 → (spaced f ks).length + 24 * n ≤ 24 * (chkL (chk f) ks n).2
  | [], n, _ => by simp [spaced, chkL]
  | d :: r, n, h => by
    unfold chkL at h ⊢
    by_cases e : (chk f d n).1 = 0
    · rw [if_pos e] at h ⊢
      have h1 := hf d n e
      have h2 := kidsLen f hf r _ h
      have h3 : (spaced f (d :: r)).length = (txt f d).length + 1 + (spaced f r).length := by simp [spaced]; omega
      omega
    · rw [if_neg e] at h; exact absurd h e

/-- How long a datum's text is at most. -/
theorem txt_len : ∀ (f : Nat) (d : Dat) (n : Nat), (chk f d n).1 = 0 → (txt f d).length + 3 + 24 * n ≤ 24 * (chk f d n).2
  | 0, d, n, h => by simp [chk] at h
  | f + 1, d, n, h => by
    obtain ⟨h1, h2, h3, h4⟩ := chk_parts h
    rw [h4]
    rcases alone_kind h2 with k | k | k | k
    · rw [txt_num k, if_neg (by omega)]
      have := alone_range h2 k
      have := Lib.itoa_length_le d.n (by omega) (by omega)
      omega
    · rw [txt_bool k, if_neg (c := d.kind = 4) (by omega)]
      split <;> simp <;> omega
    · rw [txt_sym k, if_neg (by omega)]
      have := named_size (alone_name h2 k)
      have e : d.name.data.toList.length = d.name.size := Array.length_toList
      omega
    · rw [txt_list k, if_pos k]
      have := kidsLen f (txt_len f) d.kids (n + 1) (h3 k)
      simp
      omega
end Go.Proofs.YtdnbingddbakaaaGreatDoor
