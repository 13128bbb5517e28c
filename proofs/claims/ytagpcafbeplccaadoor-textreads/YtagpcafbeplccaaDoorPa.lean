/- A text within another: what is read of it is read there. -/
import Derived.Test.YtagpcafbeplccaaDoorPlc
namespace Go.Proofs.YtagpcafbeplccaaDoor
set_option linter.unusedVariables false
set_option linter.unusedSimpArgs false

/-- What no word goes on into. -/
def Nolet (q : List UInt8) : Prop := q = [] ∨ ∃ c r, q = c :: r ∧ letB (c.toNat : Int) = false

theorem skipL_app : ∀ (l q : List UInt8) (b : Bool), skipL l b < l.length → skipL (l ++ q) b = skipL l b
  | [], q, b, h => absurd h (by simp [skipL])
  | c :: r, q, b, h => by
    have e1 : skipL (c :: r) b = if noted c b || isBlank c then skipL r (noted c b) + 1 else 0 := rfl
    have e2 : skipL (c :: r ++ q) b = if noted c b || isBlank c then skipL (r ++ q) (noted c b) + 1 else 0 := rfl
    rw [e1] at h ⊢
    rw [e2]
    by_cases hc : (noted c b || isBlank c) = true
    · rw [if_pos hc] at h ⊢
      rw [if_pos hc, skipL_app r q _ (by simp at h; exact h)]
    · rw [if_neg hc, if_neg hc]

theorem skipL_full (q : List UInt8) : ∀ (l : List UInt8) (b : Bool), skipL l b = l.length → skipL (l ++ 10 :: q) b = l.length + skipL (10 :: q) false
  | [], b, h => by
    show skipL (10 :: q) b = 0 + skipL (10 :: q) false
    have e : ∀ b, skipL (10 :: q) b = skipL q false + 1 := fun b => by simp [skipL, noted, isBlank]
    rw [e, e]
    omega
  | c :: r, b, h => by
    have e1 : skipL (c :: r) b = if noted c b || isBlank c then skipL r (noted c b) + 1 else 0 := rfl
    have e2 : skipL (c :: r ++ 10 :: q) b = if noted c b || isBlank c then skipL (r ++ 10 :: q) (noted c b) + 1 else 0 := rfl
    rw [e1] at h
    rw [e2]
    by_cases hc : (noted c b || isBlank c) = true
    · rw [if_pos hc] at h ⊢
      rw [skipL_full q r _ (by simp at h; exact h)]
      simp
      omega
    · rw [if_neg hc] at h
      simp at h

theorem byteL_cons (c : UInt8) (r : List UInt8) : byteL (c :: r) = if letB (c.toNat : Int) then c :: byteL r else [] := by
  simp [byteL, List.takeWhile_cons]

theorem byteL_app {q : List UInt8} (hq : Nolet q) : ∀ (l : List UInt8), byteL (l ++ q) = byteL l
  | [] => by
    rcases hq with rfl | ⟨c, r, rfl, h⟩
    · rfl
    · show byteL (c :: r) = []
      rw [byteL_cons, h]
      rfl
  | c :: r => by
    show byteL (c :: (r ++ q)) = _
    rw [byteL_cons, byteL_cons, byteL_app hq r]

/-- Text l stands in l' from place s on, q behind it. -/
def In (l l' q : List UInt8) (s : Nat) : Prop := ∀ i, i ≤ l.length → l'.drop (i + s) = l.drop i ++ q

theorem In.at {l l' q : List UInt8} {s : Nat} (h : In l l' q s) {i : Nat} {c : UInt8} (hc : l[i]? = some c) : l'[i + s]? = some c := by
  have hi := (List.getElem?_eq_some_iff.1 hc).1
  have e := h i (by omega)
  rw [drop_cons hc] at e
  have : (l'.drop (i + s))[0]? = some c := by rw [e]; rfl
  rw [List.getElem?_drop] at this
  exact this

theorem In.len {l l' q : List UInt8} {s : Nat} (h : In l l' q s) : l.length + q.length + s ≤ l'.length ∨ (l.length = 0 ∧ q.length = 0) := by
  have e := h 0 (Nat.zero_le _)
  have : (l'.drop (0 + s)).length = (l.drop 0 ++ q).length := by rw [e]
  simp at this
  omega

theorem In.le {l l' q : List UInt8} {s : Nat} (h : In l l' q s) : l.length ≤ l'.length := by
  have := h.len
  omega

theorem In.skip {l l' q : List UInt8} {s : Nat} (h : In l l' q s) {i : Nat} (hi : i ≤ l.length) (hlt : i + skipL (l.drop i) false < l.length) : (i + s) + skipL (l'.drop (i + s)) false = (i + skipL (l.drop i) false) + s := by
  rw [h i hi, skipL_app _ _ _ (by rw [List.length_drop]; omega)]
  omega

section
variable {l l' q : List UInt8} {s c : Nat}

theorem items_in (g g' : Nat → Nat → Rd Dat) (hin : In l l' q s)
    (hw : ∀ i n d j m, i ≤ l.length → n ≤ 2000 → g i n = .inr (d, j, m) → Went l i n j m d)
    (hg : ∀ i n d j m, i ≤ l.length → n ≤ 2000 → g i n = .inr (d, j, m) → g' (i + s) (n + c) = .inr (d, j + s, m + c) ∨ (0 < c ∧ ∃ x, g' (i + s) (n + c) = .inl (4, x))) :
    ∀ (k k' i n : Nat) (ds : List Dat) (j m : Nat), k ≤ k' → i ≤ l.length → n ≤ 2000 → items g l k i n = .inr (ds, j, m) →
      items g' l' k' (i + s) (n + c) = .inr (ds, j + s, m + c) ∨ (0 < c ∧ ∃ x, items g' l' k' (i + s) (n + c) = .inl (4, x))
  | 0, k', i, n, ds, j, m, hk, hi, hn, h => by simp [items] at h
  | k + 1, 0, i, n, ds, j, m, hk, hi, hn, h => by omega
  | k + 1, k' + 1, i, n, ds, j, m, hk, hi, hn, h => by
    unfold items at h ⊢
    simp only at h ⊢
    have hs := skip_le l i hi
    have hsk := fun hlt => hin.skip (i := i) hi hlt
    generalize hp : i + skipL (l.drop i) false = p at h hs hsk
    have hip : i ≤ p := by omega
    cases hc : l[p]? with
    | none => rw [hc] at h; simp at h
    | some c0 =>
      rw [hc] at h
      simp only at h
      have hlt := (List.getElem?_eq_some_iff.1 hc).1
      rw [hsk hlt, hin.at hc]
      simp only
      by_cases h41 : c0 = 41
      · rw [if_pos h41] at h ⊢
        simp at h
        obtain ⟨rfl, rfl, rfl⟩ := h
        left
        rw [show p + s + 1 = p + 1 + s from by omega]
      · rw [if_neg h41] at h ⊢
        cases hgg : g p n with
        | inl e => rw [hgg] at h; simp at h
        | inr x =>
          obtain ⟨d, j1, m1⟩ := x
          rw [hgg] at h
          simp only at h
          have hww := hw p n d j1 m1 hs hn hgg
          cases hii : items g l k j1 m1 with
          | inl e => rw [hii] at h; simp at h
          | inr y =>
            obtain ⟨ds2, j2, m2⟩ := y
            rw [hii] at h
            simp at h
            obtain ⟨rfl, rfl, rfl⟩ := h
            rcases hg p n d j1 m1 hs hn hgg with e | ⟨hc0, x, e⟩
            · rw [e]
              simp only
              rcases items_in g g' hin hw hg k k' j1 m1 ds2 j2 m2 (by omega) hww.upto hww.much hii with e2 | ⟨hc0, x, e2⟩
              · left; rw [e2]
              · right; rw [e2]; exact ⟨hc0, x, rfl⟩
            · right; rw [e]; exact ⟨hc0, x, rfl⟩

theorem word_in {w : List UInt8} {i n : Nat} {d : Dat} {j m : Nat} (h : wordAt w i n = .inr (d, j, m)) : wordAt w (i + s) (n + c) = .inr (d, j + s, m + c) := by
  unfold wordAt at h ⊢
  split at h
  · rename_i hl
    rw [if_pos hl]
    split at h
    · simp at h
    · rename_i h17
      rw [if_neg h17]
      split at h
      · rename_i hr
        rw [if_pos hr]
        simp at h
        obtain ⟨rfl, rfl, rfl⟩ := h
        simp
        omega
      · simp at h
  · rename_i hl
    rw [if_neg hl]
    split at h
    · simp at h
    · rename_i h20
      rw [if_neg h20]
      simp at h
      obtain ⟨rfl, rfl, rfl⟩ := h
      simp
      omega

theorem one_in (hin : In l l' q s) (hq : Nolet q) : ∀ (f i n : Nat) (d : Dat) (j m : Nat), i ≤ l.length → n ≤ 2000 → one l f i n = .inr (d, j, m) →
    one l' f (i + s) (n + c) = .inr (d, j + s, m + c) ∨ (0 < c ∧ ∃ x, one l' f (i + s) (n + c) = .inl (4, x))
  | 0, i, n, d, j, m, _, _, h => by simp [one] at h
  | f + 1, i, n, d, j, m, hi, hn, h => by
    unfold one at h ⊢
    by_cases h2 : 2000 < n + 1
    · rw [if_pos h2] at h; simp at h
    · rw [if_neg h2] at h
      by_cases h2' : 2000 < n + c + 1
      · rw [if_pos h2']
        right
        exact ⟨by omega, _, rfl⟩
      · rw [if_neg h2']
        cases hc : l[i]? with
        | none => rw [hc] at h; simp at h
        | some c0 =>
          rw [hc] at h
          rw [hin.at hc]
          simp only at h ⊢
          have hlt := (List.getElem?_eq_some_iff.1 hc).1
          by_cases c40 : c0 = 40
          · rw [if_pos c40] at h ⊢
            cases hit : items (one l f) l (l.length + 1) (i + 1) (n + 1) with
            | inl e => rw [hit] at h; simp at h
            | inr y =>
              obtain ⟨ds, j2, m2⟩ := y
              rw [hit] at h
              simp at h
              obtain ⟨rfl, rfl, rfl⟩ := h
              have hle := hin.le
              have := items_in (one l f) (one l' f) hin (one_went l f) (one_in hin hq f) (l.length + 1) (l'.length + 1) (i + 1) (n + 1) ds j2 m2 (by omega) (by omega) (by omega) hit
              rw [show i + s + 1 = i + 1 + s from by omega, show n + c + 1 = n + 1 + c from by omega]
              rcases this with e | ⟨hc0, x, e⟩
              · left; rw [e]
              · right; rw [e]; exact ⟨hc0, x, rfl⟩
          · rw [if_neg c40] at h ⊢
            by_cases c39 : c0 = 39
            · rw [if_pos c39] at h ⊢
              by_cases hqq : f = 0 ∨ 2000 < n + 2
              · rw [if_pos hqq] at h; simp at h
              · rw [if_neg hqq] at h
                cases ho : one l f (i + 1 + skipL (l.drop (i + 1)) false) (n + 2) with
                | inl e => rw [ho] at h; simp at h
                | inr y =>
                  obtain ⟨d2, j2, m2⟩ := y
                  rw [ho] at h
                  simp at h
                  obtain ⟨rfl, rfl, rfl⟩ := h
                  have hs := skip_le l (i + 1) (by omega)
                  have hw := one_went l f _ _ d2 j2 m2 hs (by omega) ho
                  have := hw.on
                  have := hw.upto
                  have hsk := hin.skip (i := i + 1) (by omega) (by omega)
                  by_cases hq2 : f = 0 ∨ 2000 < n + c + 2
                  · rw [if_pos hq2]
                    right
                    exact ⟨by omega, _, rfl⟩
                  · rw [if_neg hq2, show i + s + 1 = i + 1 + s from by omega, hsk, show n + c + 2 = n + 2 + c from by omega]
                    rcases one_in hin hq f _ _ d2 j2 m2 hs (by omega) ho with e | ⟨hc0, x, e⟩
                    · left; rw [e]
                    · right; rw [e]; exact ⟨hc0, x, rfl⟩
            · rw [if_neg c39] at h ⊢
              have hby : byteL (l'.drop (i + s + 1)) = byteL (l.drop (i + 1)) := by
                rw [show i + s + 1 = i + 1 + s from by omega, hin (i + 1) (by omega), byteL_app hq]
              have hby0 : byteL (l'.drop (i + s)) = byteL (l.drop i) := by
                rw [hin i hi, byteL_app hq]
              by_cases c35 : c0 = 35
              · rw [if_pos c35] at h ⊢
                rw [hby]
                left
                by_cases t1 : byteL (l.drop (i + 1)) = [116]
                · rw [if_pos t1] at h ⊢
                  simp at h
                  obtain ⟨rfl, rfl, rfl⟩ := h
                  simp
                  omega
                · rw [if_neg t1] at h ⊢
                  by_cases t2 : byteL (l.drop (i + 1)) = [102]
                  · rw [if_pos t2] at h ⊢
                    simp at h
                    obtain ⟨rfl, rfl, rfl⟩ := h
                    simp
                    omega
                  · rw [if_neg t2] at h; simp at h
              · rw [if_neg c35] at h ⊢
                by_cases hl : letB (c0.toNat : Int) = true
                · rw [if_pos hl] at h ⊢
                  left
                  rw [hby0, show n + c + 1 = n + 1 + c from by omega]
                  exact word_in h
                · rw [if_neg hl] at h; simp at h
end

def cat (ds : List Dat) : Rd (List Dat) → Rd (List Dat)
  | .inl e => .inl e
  | .inr (es, j, m) => .inr (ds ++ es, j, m)

theorem alls_same (l : List UInt8) (k i i2 n : Nat) (h : i + skipL (l.drop i) false = i2 + skipL (l.drop i2) false) : alls l (k + 1) i n = alls l (k + 1) i2 n := by
  unfold alls
  simp only
  rw [h]

theorem alls_in {l l' q : List UInt8} {s c : Nat} (hin : In l l' q s) (hq : q = [] ∨ ∃ r, q = 10 :: r) : ∀ (k k' i n : Nat) (ds : List Dat) (j m : Nat), k ≤ k' → i ≤ l.length → n ≤ 2000 → l.length - i < k → alls l k i n = .inr (ds, j, m) →
    (∃ k'', k' ≤ k'' + ds.length ∧ 1 ≤ k'' ∧ m ≤ 2000 ∧ ds.length ≤ l.length - i ∧ alls l' k' (i + s) (n + c) = cat ds (alls l' k'' (l.length + s) (m + c))) ∨ (0 < c ∧ ∃ x, alls l' k' (i + s) (n + c) = .inl (4, x))
  | 0, k', i, n, ds, j, m, hk, hi, hn, hf, h => by omega
  | k + 1, 0, i, n, ds, j, m, hk, hi, hn, hf, h => by omega
  | k + 1, k' + 1, i, n, ds, j, m, hk, hi, hn, hf, h => by
    have hnl : Nolet q := by
      rcases hq with rfl | ⟨r, rfl⟩
      · exact Or.inl rfl
      · exact Or.inr ⟨10, r, rfl, by decide⟩
    have hs := skip_le l i hi
    unfold alls at h
    simp only at h
    by_cases hend : l.length ≤ i + skipL (l.drop i) false
    · rw [if_pos hend] at h
      simp at h
      obtain ⟨rfl, _, rfl⟩ := h
      left
      refine ⟨k' + 1, by simp, by omega, hn, by simp, ?_⟩
      have hfull : skipL (l.drop i) false = (l.drop i).length := by rw [List.length_drop]; omega
      have hlen : (l.drop i).length = l.length - i := List.length_drop
      have e : (i + s) + skipL (l'.drop (i + s)) false = (l.length + s) + skipL (l'.drop (l.length + s)) false := by
        rw [hin i hi, hin l.length (Nat.le_refl _), List.drop_length, List.nil_append]
        rcases hq with rfl | ⟨r, rfl⟩
        · rw [List.append_nil, hfull]
          simp [skipL]
          omega
        · rw [skipL_full r _ _ hfull]
          omega
      rw [alls_same l' k' _ _ _ e]
      cases alls l' (k' + 1) (l.length + s) (n + c) with
      | inl e => rfl
      | inr x => rfl
    · rw [if_neg hend] at h
      have hsk := hin.skip (i := i) hi (by omega)
      generalize hp : i + skipL (l.drop i) false = p at h hs hsk hend
      cases ho : one l 40 p n with
      | inl e => rw [ho] at h; simp at h
      | inr y =>
        obtain ⟨d, j1, m1⟩ := y
        rw [ho] at h
        simp only at h
        have hw := one_went l 40 p n d j1 m1 hs hn ho
        have w1 := hw.on
        have w2 := hw.upto
        have w3 := hw.more
        have w4 := hw.much
        cases ha : alls l k j1 m1 with
        | inl e => rw [ha] at h; simp at h
        | inr y =>
          obtain ⟨ds2, j2, m2⟩ := y
          rw [ha] at h
          simp at h
          obtain ⟨rfl, rfl, rfl⟩ := h
          have hu : alls l' (k' + 1) (i + s) (n + c) = match one l' 40 (p + s) (n + c) with
              | .inl e => .inl e
              | .inr (d, j, m) => match alls l' k' j m with
                | .inl e => .inl e
                | .inr (ds, j', m') => .inr (d :: ds, j', m') := by
            rw [show alls l' (k' + 1) (i + s) (n + c) = (let p := i + s + skipL (l'.drop (i + s)) false; if l'.length ≤ p then .inr ([], p, n + c) else match one l' 40 p (n + c) with
              | .inl e => .inl e
              | .inr (d, j, m) => match alls l' k' j m with
                | .inl e => .inl e
                | .inr (ds, j', m') => .inr (d :: ds, j', m')) from rfl]
            simp only
            have hlen := hin.len
            rw [hsk, if_neg (by omega)]
          rw [hu]
          rcases one_in (c := c) hin hnl 40 p n d j1 m1 hs hn ho with e | ⟨hc0, x, e⟩
          · rw [e]
            simp only
            rcases alls_in hin hq k k' j1 m1 ds2 j2 m2 (by omega) w2 w4 (by omega) ha with ⟨k'', g1, g2, g3, g4, g5⟩ | ⟨hc0, x, e2⟩
            · left
              refine ⟨k'', by simp; omega, g2, g3, by simp; omega, ?_⟩
              rw [g5]
              cases alls l' k'' (l.length + s) (m2 + c) with
              | inl e => rfl
              | inr x => rfl
            · right; rw [e2]; exact ⟨hc0, x, rfl⟩
          · right; rw [e]; exact ⟨hc0, x, rfl⟩

end Go.Proofs.YtagpcafbeplccaaDoor
