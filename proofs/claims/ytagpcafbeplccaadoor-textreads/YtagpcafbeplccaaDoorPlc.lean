/- How a text is read: what a reading moves on by. -/
import Derived.Test.YtagpcafbeplccaaDoorPlb
namespace Go.Proofs.YtagpcafbeplccaaDoor
set_option linter.unusedVariables false
set_option linter.unusedSimpArgs false

theorem byteL_le (l : List UInt8) : (byteL l).length ≤ l.length := (List.takeWhile_prefix _).length_le

/-- What is right of a datum that was read. -/
structure Went (l : List UInt8) (i n j m : Nat) (d : Dat) : Prop where
  on : i < j
  upto : j ≤ l.length
  more : n + 1 ≤ m
  much : m ≤ 2000
  name : d.name.size ≤ 20

structure WentL (l : List UInt8) (i n j m : Nat) (ds : List Dat) : Prop where
  on : i < j
  upto : j ≤ l.length
  more : n + ds.length ≤ m
  much : m ≤ 2000

theorem items_went (g : Nat → Nat → Rd Dat) (l : List UInt8) (hg : ∀ i n d j m, i ≤ l.length → n ≤ 2000 → g i n = .inr (d, j, m) → Went l i n j m d) :
    ∀ (k i n : Nat) (ds : List Dat) (j m : Nat), i ≤ l.length → n ≤ 2000 → items g l k i n = .inr (ds, j, m) → WentL l i n j m ds
  | 0, i, n, ds, j, m, hi, hn, h => by simp [items] at h
  | k + 1, i, n, ds, j, m, hi, hn, h => by
    unfold items at h
    simp only at h
    have hs := skip_le l i hi
    generalize hp : i + skipL (l.drop i) false = p at h hs
    have hip : i ≤ p := by omega
    cases hc : l[p]? with
    | none => rw [hc] at h; simp at h
    | some c =>
      rw [hc] at h
      simp only at h
      have hlt := (List.getElem?_eq_some_iff.1 hc).1
      by_cases h41 : c = 41
      · rw [if_pos h41] at h
        simp at h
        obtain ⟨rfl, rfl, rfl⟩ := h
        exact ⟨by omega, by omega, by simp, hn⟩
      · rw [if_neg h41] at h
        cases hgg : g p n with
        | inl e => rw [hgg] at h; simp at h
        | inr x =>
          obtain ⟨d, j1, m1⟩ := x
          rw [hgg] at h
          simp only at h
          have hw := hg p n d j1 m1 hs hn hgg
          cases hii : items g l k j1 m1 with
          | inl e => rw [hii] at h; simp at h
          | inr y =>
            obtain ⟨ds2, j2, m2⟩ := y
            rw [hii] at h
            simp at h
            obtain ⟨rfl, rfl, rfl⟩ := h
            have hw2 := items_went g l hg k j1 m1 ds2 j2 m2 hw.upto hw.much hii
            have := hw.on
            have := hw.more
            have := hw2.on
            have := hw2.more
            exact ⟨by omega, hw2.upto, by simp; omega, hw2.much⟩

theorem word_went {l : List UInt8} {i n : Nat} {c : UInt8} {d : Dat} {j m : Nat} (hc : l[i]? = some c) (hl : letB (c.toNat : Int) = true) (hn : n + 1 ≤ 2000) (h : wordAt (byteL (l.drop i)) i (n + 1) = .inr (d, j, m)) : Went l i n j m d := by
  have hle := byteL_le (l.drop i)
  rw [List.length_drop] at hle
  have hlt := (List.getElem?_eq_some_iff.1 hc).1
  have hpos : 1 ≤ (byteL (l.drop i)).length := by
    rw [drop_cons hc]
    simp [byteL, hl]
  unfold wordAt at h
  split at h
  · split at h
    · simp at h
    · split at h
      · simp at h
        obtain ⟨rfl, rfl, rfl⟩ := h
        exact ⟨by omega, by omega, by omega, hn, by show (0 : Nat) ≤ 20; omega⟩
      · simp at h
  · split at h
    · simp at h
    · rename_i h20
      simp at h
      obtain ⟨rfl, rfl, rfl⟩ := h
      refine ⟨by omega, by omega, by omega, hn, ?_⟩
      show (byteL (l.drop i)).toArray.size ≤ 20
      rw [List.size_toArray]
      omega

theorem one_went (l : List UInt8) : ∀ (f i n : Nat) (d : Dat) (j m : Nat), i ≤ l.length → n ≤ 2000 → one l f i n = .inr (d, j, m) → Went l i n j m d
  | 0, i, n, d, j, m, _, _, h => by simp [one] at h
  | f + 1, i, n, d, j, m, hi, hn, h => by
    unfold one at h
    by_cases h2 : 2000 < n + 1
    · rw [if_pos h2] at h; simp at h
    · rw [if_neg h2] at h
      cases hc : l[i]? with
      | none => rw [hc] at h; simp at h
      | some c =>
        rw [hc] at h
        simp only at h
        have hlt := (List.getElem?_eq_some_iff.1 hc).1
        by_cases c40 : c = 40
        · rw [if_pos c40] at h
          cases hit : items (one l f) l (l.length + 1) (i + 1) (n + 1) with
          | inl e => rw [hit] at h; simp at h
          | inr y =>
            obtain ⟨ds, j2, m2⟩ := y
            rw [hit] at h
            simp at h
            obtain ⟨rfl, rfl, rfl⟩ := h
            have hw := items_went (one l f) l (one_went l f) _ _ _ ds j2 m2 (by omega) (by omega) hit
            have := hw.on
            have := hw.more
            exact ⟨by omega, hw.upto, by omega, hw.much, by show (0 : Nat) ≤ 20; omega⟩
        · rw [if_neg c40] at h
          by_cases c39 : c = 39
          · rw [if_pos c39] at h
            by_cases hq : f = 0 ∨ 2000 < n + 2
            · rw [if_pos hq] at h; simp at h
            · rw [if_neg hq] at h
              cases ho : one l f (i + 1 + skipL (l.drop (i + 1)) false) (n + 2) with
              | inl e => rw [ho] at h; simp at h
              | inr y =>
                obtain ⟨d2, j2, m2⟩ := y
                rw [ho] at h
                simp at h
                obtain ⟨rfl, rfl, rfl⟩ := h
                have hs := skip_le l (i + 1) (by omega)
                have hw := one_went l f _ _ d2 j2 m2 hs (by omega) ho
                have := hw.on
                have := hw.more
                exact ⟨by omega, hw.upto, by omega, hw.much, by show (0 : Nat) ≤ 20; omega⟩
          · rw [if_neg c39] at h
            by_cases c35 : c = 35
            · rw [if_pos c35] at h
              have hb : ∀ x, byteL (l.drop (i + 1)) = [x] → i + 2 ≤ l.length := by
                intro x hx
                have h1 := byteL_le (l.drop (i + 1))
                rw [hx, List.length_drop] at h1
                simp at h1
                omega
              by_cases t1 : byteL (l.drop (i + 1)) = [116]
              · rw [if_pos t1] at h
                simp at h
                obtain ⟨rfl, rfl, rfl⟩ := h
                exact ⟨by omega, hb _ t1, by omega, by omega, by show (0 : Nat) ≤ 20; omega⟩
              · rw [if_neg t1] at h
                by_cases t2 : byteL (l.drop (i + 1)) = [102]
                · rw [if_pos t2] at h
                  simp at h
                  obtain ⟨rfl, rfl, rfl⟩ := h
                  exact ⟨by omega, hb _ t2, by omega, by omega, by show (0 : Nat) ≤ 20; omega⟩
                · rw [if_neg t2] at h; simp at h
            · rw [if_neg c35] at h
              by_cases hl : letB (c.toNat : Int) = true
              · rw [if_pos hl] at h
                exact word_went hc hl (by omega) h
              · rw [if_neg hl] at h; simp at h
end Go.Proofs.YtagpcafbeplccaaDoor
