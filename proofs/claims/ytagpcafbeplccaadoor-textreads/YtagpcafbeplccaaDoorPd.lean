/- What is printed is read; what is read is right: plain. -/
import Derived.Test.YtagpcafbeplccaaDoorPc
namespace Go.Proofs.YtagpcafbeplccaaDoor
set_option linter.unusedVariables false
set_option linter.unusedSimpArgs false
open Go

theorem printed_cons (d : Dat) (r : List Dat) : printed (d :: r) = txt 40 d ++ 10 :: printed r := by
  simp [printed]

theorem alls_write (L : List UInt8) : ∀ (ks : List Dat) (k i n i0 : Nat), ks.length < k → n ≤ 2000 → (wrongFrom ks i0 n).1 = 0 → L.drop (i + skipL (L.drop i) false) = printed ks → ∃ j m, alls L k i n = .inr (ks.map (bare 40), j, m)
  | ks, 0, i, n, i0, hk, hn, h, hL => by omega
  | [], k + 1, i, n, i0, hk, hn, h, hL => by
    unfold alls
    simp only
    have : (L.drop (i + skipL (L.drop i) false)).length = 0 := by rw [hL]; rfl
    rw [List.length_drop] at this
    rw [if_pos (by omega)]
    exact ⟨_, _, rfl⟩
  | d :: r, k + 1, i, n, i0, hk, hn, h, hL => by
    unfold wrongFrom at h
    by_cases e : (chk 40 d n).1 = 0
    · rw [if_pos e] at h
      have hm := chk_le 40 d n hn e
      obtain ⟨c, t, ht, t1, t2, t3⟩ := txt_head e
      rw [printed_cons] at hL
      have hL2 := hL
      rw [ht] at hL2
      unfold alls
      simp only
      generalize i + skipL (L.drop i) false = p at *
      obtain ⟨a1, a2, a3⟩ := at_of_drop (show L.drop p = c :: (t ++ 10 :: printed r) from hL2)
      rw [if_neg (by omega)]
      have ho := one_write L 40 d n (chk 40 d n).2 p (10 :: printed r) (by rw [← e]) hL (Or.inr ⟨10, _, rfl, by decide⟩)
      rw [ho]
      simp only
      have hlen : (L.drop p).length = (txt 40 d ++ 10 :: printed r).length := by rw [hL]
      have hpos : L.length - (10 :: printed r).length = p + (txt 40 d).length := by
        simp at hlen ⊢
        omega
      have hrest : L.drop (L.length - (10 :: printed r).length) = 10 :: printed r := by
        rw [hpos, ← List.drop_drop, hL]
        simp
      generalize L.length - (10 :: printed r).length = j at *
      obtain ⟨b1, b2, b3⟩ := at_of_drop hrest
      have hs1 := skip_blank b1 (by decide)
      have hs2 : skipL (L.drop (j + 1)) false = 0 := by
        cases r with
        | nil => rw [b2]; rfl
        | cons d2 r2 =>
          have e2 : (chk 40 d2 (chk 40 d n).2).1 = 0 := by
            unfold wrongFrom at h
            by_cases e2 : (chk 40 d2 (chk 40 d n).2).1 = 0
            · exact e2
            · rw [if_neg e2] at h; exact absurd h e2
          obtain ⟨c2, u, hu, u1, u2, u3⟩ := txt_head e2
          rw [printed_cons, hu] at b2
          exact skip_none (show L.drop (j + 1) = c2 :: (u ++ 10 :: printed r2) from b2) u1 u2
      obtain ⟨j', m', ha⟩ := alls_write L r k j (chk 40 d n).2 (i0 + 1) (by simp at hk; omega) hm h (by rw [hs1, hs2, Nat.add_zero, b2])
      rw [ha]
      exact ⟨j', m', rfl⟩
    · rw [if_neg e] at h; exact absurd h e

/-- WHAT IS PRINTED IS READ. -/
theorem read_printed (ks : List Dat) (h : (wrong ks).1 = 0) (hl : (printed ks).length ≤ 6000) : readL (printed ks) = .inr (ks.map (bare 40)) := by
  have hk : ks.length ≤ (printed ks).length := by
    clear h hl
    induction ks with
    | nil => simp [printed]
    | cons d r ih => rw [printed_cons]; simp; omega
  have hs : skipL ((printed ks).drop 0) false = 0 := by
    rw [List.drop_zero]
    cases ks with
    | nil => rfl
    | cons d r =>
      have e : (chk 40 d 0).1 = 0 := by
        unfold wrong wrongFrom at h
        by_cases e2 : (chk 40 d 0).1 = 0
        · exact e2
        · rw [if_neg e2] at h; exact absurd h e2
      obtain ⟨c2, u, hu, u1, u2, u3⟩ := txt_head e
      rw [printed_cons, hu]
      exact skip_none (L := c2 :: u ++ 10 :: printed r) (i := 0) (c := c2) (r := u ++ 10 :: printed r) rfl u1 u2
  obtain ⟨j, m, ha⟩ := alls_write (printed ks) ks ((printed ks).length + 1) 0 0 0 (by omega) (by omega) h (by rw [hs]; rfl)
  exact readL_of hl ha

theorem chk_of {f : Nat} {d : Dat} {n : Nat} (hn : n + 1 ≤ 2000) (ha : alone d = 0) (hk : d.kind ≠ 4) : chk (f + 1) d n = (0, n + 1) := by
  unfold chk
  rw [if_neg (by omega), if_pos ha, if_neg hk]

theorem chk_list {f : Nat} {ks : List Dat} {n : Nat} (hn : n + 1 ≤ 2000) : chk (f + 1) (datList ks) n = chkL (chk f) ks (n + 1) := by
  unfold chk
  rw [if_neg (by omega), if_pos (alone_list rfl), if_pos (show (datList ks).kind = 4 from rfl)]
  rfl

theorem chkL_cons {g : Dat → Nat → Int × Nat} {d : Dat} {r : List Dat} {n m : Nat} (h : g d n = (0, m)) : chkL g (d :: r) n = chkL g r m := by
  show (if (g d n).1 = 0 then chkL g r (g d n).2 else g d n) = _
  rw [h, if_pos rfl]

theorem items_right (g : Nat → Nat → Rd Dat) (ck : Dat → Nat → Int × Nat) (l : List UInt8) (hw : ∀ i n d j m, i ≤ l.length → n ≤ 2000 → g i n = .inr (d, j, m) → Went l i n j m d)
    (hg : ∀ i n d j m, i ≤ l.length → n ≤ 2000 → g i n = .inr (d, j, m) → ck d n = (0, m)) :
    ∀ (k i n : Nat) (ds : List Dat) (j m : Nat), i ≤ l.length → n ≤ 2000 → items g l k i n = .inr (ds, j, m) → chkL ck ds n = (0, m)
  | 0, i, n, ds, j, m, hi, hn, h => by simp [items] at h
  | k + 1, i, n, ds, j, m, hi, hn, h => by
    unfold items at h
    simp only at h
    have hs := skip_le l i hi
    generalize hp : i + skipL (l.drop i) false = p at h hs
    cases hc : l[p]? with
    | none => rw [hc] at h; simp at h
    | some c =>
      rw [hc] at h
      simp only at h
      by_cases h41 : c = 41
      · rw [if_pos h41] at h
        simp at h
        obtain ⟨rfl, rfl, rfl⟩ := h
        rfl
      · rw [if_neg h41] at h
        cases hgg : g p n with
        | inl e => rw [hgg] at h; simp at h
        | inr x =>
          obtain ⟨d, j1, m1⟩ := x
          rw [hgg] at h
          simp only at h
          have hww := hw p n d j1 m1 hs hn hgg
          cases hii : items g l k j1 m1 with
          | inl e => rw [hii] at h; simp at h
          | inr y =>
            obtain ⟨ds2, j2, m2⟩ := y
            rw [hii] at h
            simp at h
            obtain ⟨rfl, rfl, rfl⟩ := h
            rw [chkL_cons (hg p n d j1 m1 hs hn hgg)]
            exact items_right g ck l hw hg k j1 m1 ds2 j2 m2 hww.upto hww.much hii

theorem quote_right : alone (datSym [113, 117, 111, 116, 101]) = 0 := by
  rw [alone_sym rfl]
  unfold symErr
  rw [show namedB (datSym [113, 117, 111, 116, 101]).name = true from by decide, if_pos rfl]
  rfl

theorem byteL_lets (l : List UInt8) : allLet (byteL l) = true := by
  unfold allLet byteL
  rw [List.all_eq_true]
  intro x hx
  exact (List.all_eq_true.1 (List.all_takeWhile (p := fun c : UInt8 => letB (c.toNat : Int)) (l := l))) x hx

theorem word_right {l : List UInt8} {i n : Nat} {c : UInt8} {d : Dat} {f j m : Nat} (hc : l[i]? = some c) (hl : letB (c.toNat : Int) = true) (hn : n + 1 ≤ 2000) (h : wordAt (byteL (l.drop i)) i (n + 1) = .inr (d, j, m)) : chk (f + 1) d n = (0, m) := by
  have hlet := byteL_lets (l.drop i)
  have hpos : 1 ≤ (byteL (l.drop i)).length := by
    rw [drop_cons hc]
    simp [byteL, hl]
  generalize byteL (l.drop i) = w at *
  unfold wordAt at h
  split at h
  · split at h
    · simp at h
    · split at h
      · rename_i hr
        simp at h
        obtain ⟨rfl, rfl, rfl⟩ := h
        refine chk_of hn ?_ (by show ¬ (1 : Int) = 4; decide)
        rw [alone_num rfl]
        show (if rangeB (numOf w) = true then (0 : Int) else 3) = 0
        rw [hr, if_pos rfl]
      · simp at h
  · rename_i hlk
    split at h
    · simp at h
    · rename_i h20
      simp at h
      obtain ⟨rfl, rfl, rfl⟩ := h
      refine chk_of hn ?_ (by show ¬ (3 : Int) = 4; decide)
      rw [alone_sym rfl]
      unfold symErr
      have hs : (datSym w).name.size = w.length := by
        show w.toArray.size = _
        simp
      have hd : (datSym w).name.data.toList = w := by
        show w.toArray.toList = w
        simp
      have : namedB (datSym w).name = true := by
        unfold namedB
        rw [hs, hd, hlet]
        simp
        exact ⟨⟨by omega, by omega⟩, by simpa using hlk⟩
      rw [this, if_pos rfl]
      rfl

/-- A DATUM THAT IS READ IS RIGHT. -/
theorem one_right (l : List UInt8) : ∀ (f i n : Nat) (d : Dat) (j m : Nat), i ≤ l.length → n ≤ 2000 → one l f i n = .inr (d, j, m) → chk f d n = (0, m)
  | 0, i, n, d, j, m, _, _, h => by simp [one] at h
  | f + 1, i, n, d, j, m, hi, hn, h => by
    unfold one at h
    by_cases h2 : 2000 < n + 1
    · rw [if_pos h2] at h; simp at h
    · rw [if_neg h2] at h
      cases hc : l[i]? with
      | none => rw [hc] at h; simp at h
      | some c =>
        rw [hc] at h
        simp only at h
        have hlt := (List.getElem?_eq_some_iff.1 hc).1
        by_cases c40 : c = 40
        · rw [if_pos c40] at h
          cases hit : items (one l f) l (l.length + 1) (i + 1) (n + 1) with
          | inl e => rw [hit] at h; simp at h
          | inr y =>
            obtain ⟨ds, j2, m2⟩ := y
            rw [hit] at h
            simp at h
            obtain ⟨rfl, rfl, rfl⟩ := h
            rw [chk_list (by omega)]
            exact items_right (one l f) (chk f) l (one_went l f) (one_right l f) _ _ _ ds j2 m2 (by omega) (by omega) hit
        · rw [if_neg c40] at h
          by_cases c39 : c = 39
          · rw [if_pos c39] at h
            by_cases hq : f = 0 ∨ 2000 < n + 2
            · rw [if_pos hq] at h; simp at h
            · rw [if_neg hq] at h
              cases ho : one l f (i + 1 + skipL (l.drop (i + 1)) false) (n + 2) with
              | inl e => rw [ho] at h; simp at h
              | inr y =>
                obtain ⟨d2, j2, m2⟩ := y
                rw [ho] at h
                simp at h
                obtain ⟨rfl, rfl, rfl⟩ := h
                have hs := skip_le l (i + 1) (by omega)
                have hr := one_right l f _ _ d2 j2 m2 hs (by omega) ho
                unfold datQuote
                rw [chk_list (by omega)]
                obtain ⟨f', rfl⟩ : ∃ f', f = f' + 1 := ⟨f - 1, by omega⟩
                rw [chkL_cons (m := n + 2) (chk_of (by omega) quote_right (by show ¬ (3 : Int) = 4; decide)), chkL_cons hr]
                rfl
          · rw [if_neg c39] at h
            by_cases c35 : c = 35
            · rw [if_pos c35] at h
              by_cases t1 : byteL (l.drop (i + 1)) = [116]
              · rw [if_pos t1] at h
                simp at h
                obtain ⟨rfl, rfl, rfl⟩ := h
                exact chk_of (by omega) (by rw [alone_bool rfl]; rfl) (by show ¬ (2 : Int) = 4; decide)
              · rw [if_neg t1] at h
                by_cases t2 : byteL (l.drop (i + 1)) = [102]
                · rw [if_pos t2] at h
                  simp at h
                  obtain ⟨rfl, rfl, rfl⟩ := h
                  exact chk_of (by omega) (by rw [alone_bool rfl]; rfl) (by show ¬ (2 : Int) = 4; decide)
                · rw [if_neg t2] at h; simp at h
            · rw [if_neg c35] at h
              by_cases hl : letB (c.toNat : Int) = true
              · rw [if_pos hl] at h
                exact word_right hc hl (by omega) h
              · rw [if_neg hl] at h; simp at h

theorem alls_right (l : List UInt8) : ∀ (k i n i0 : Nat) (ds : List Dat) (j m : Nat), i ≤ l.length → n ≤ 2000 → alls l k i n = .inr (ds, j, m) → wrongFrom ds i0 n = (0, 0)
  | 0, i, n, i0, ds, j, m, hi, hn, h => by
    simp [alls] at h
    obtain ⟨rfl, _⟩ := h
    rfl
  | k + 1, i, n, i0, ds, j, m, hi, hn, h => by
    have hs := skip_le l i hi
    unfold alls at h
    simp only at h
    generalize i + skipL (l.drop i) false = p at *
    by_cases hend : l.length ≤ p
    · rw [if_pos hend] at h
      simp at h
      obtain ⟨rfl, _, rfl⟩ := h
      rfl
    · rw [if_neg hend] at h
      cases ho : one l 40 p n with
      | inl e => rw [ho] at h; simp at h
      | inr y =>
        obtain ⟨d, j1, m1⟩ := y
        rw [ho] at h
        simp only at h
        have hw := one_went l 40 p n d j1 m1 hs hn ho
        have hr := one_right l 40 p n d j1 m1 hs hn ho
        cases ha : alls l k j1 m1 with
        | inl e => rw [ha] at h; simp at h
        | inr y =>
          obtain ⟨ds2, j2, m2⟩ := y
          rw [ha] at h
          simp at h
          obtain ⟨rfl, rfl, rfl⟩ := h
          show (if (chk 40 d n).1 = 0 then wrongFrom ds2 (i0 + 1) (chk 40 d n).2 else ((chk 40 d n).1, (i0 : Int))) = (0, 0)
          rw [hr, if_pos rfl]
          exact alls_right l k j1 m1 (i0 + 1) ds2 j2 m2 hw.upto hw.much ha

/-- WHAT IS READ IS RIGHT. -/
theorem read_right {l : List UInt8} {ds : List Dat} (h : readL l = .inr ds) : wrong ds = (0, 0) := by
  obtain ⟨_, j, m, ha⟩ := readL_ok h
  exact alls_right l _ 0 0 0 ds j m (Nat.zero_le _) (by omega) ha

end Go.Proofs.YtagpcafbeplccaaDoor
