/- A reader's data: any datum. -/
import Derived.Test.YtagpcafbeplccaaDoorLk
namespace Go.Proofs.YtagpcafbeplccaaDoor
set_option linter.unusedVariables false
set_option linter.unusedSimpArgs false
open Go.RowKit

theorem byte_eq (c k : UInt8) : ((c.toNat : Int) == (k.toNat : Int)) = decide (c = k) := by
  by_cases e : c = k
  · subst e; simp
  · have : ¬ c.toNat = k.toNat := fun h => e (UInt8.toNat_inj.1 h)
    simp [e]
    omega

theorem datum_read (rb : Nat) (s : ByteArray) (hs : s.size ≤ 6000) : ∀ (f : Nat), f ≤ 40 → ∀ (i n : Nat) (w : World), Rdr rb s i n w → i ≤ s.size → n ≤ 2000 →
    Calls Tryd.prog 38 #[.pointer (some ⟨rb, 0, none⟩), .int .i64 (41 - (f : Int))] w (Out rb s (one s.data.toList f i n) w)
  | 0, _, i, n, w, h, hi, hn => by
    show Calls Tryd.prog 38 #[.pointer (some ⟨rb, 0, none⟩), .int .i64 41] w (Out rb s (.inl (4, (i : Int))) w)
    refine datum_over rb s i n 41 w h (fun w h => ?_)
    by_cases h2 : n = 2000
    · exact count_much rb s i n 41 w h h2
    · exact count_deep rb s i n w h (by omega)
  | f + 1, hf, i, n, w, h, hi, hn => by
    have hd0 : 1 ≤ 41 - ((f + 1 : Nat) : Int) := by omega
    have hd : 41 - ((f + 1 : Nat) : Int) ≤ 40 := by omega
    have hlen : s.data.toList.length = s.size := Array.length_toList
    have IH : ∀ (i n : Nat) (w : World), Rdr rb s i n w → i ≤ s.size → n ≤ 2000 → Calls Tryd.prog 38 #[.pointer (some ⟨rb, 0, none⟩), .int .i64 (41 - ((f + 1 : Nat) : Int) + 1)] w (Out rb s (one s.data.toList f i n) w) := by
      intro i n w h hi hn
      have := datum_read rb s hs f (by omega) i n w h hi hn
      rw [show 41 - ((f + 1 : Nat) : Int) + 1 = 41 - (f : Int) from by omega]
      exact this
    generalize hdp : 41 - ((f + 1 : Nat) : Int) = dp at hd0 hd IH
    unfold one
    by_cases h2 : 2000 < n + 1
    · rw [if_pos h2]
      exact datum_over rb s i n dp w h (fun w h => count_much rb s i n dp w h (by omega))
    · rw [if_neg h2]
      by_cases hlt : i < s.size
      · rw [at_of hlt]
        simp only
        by_cases c40 : s[i] = 40
        · rw [if_pos c40]
          have b1 : ((s[i].toNat : Int) == 40) = true := (byte_eq s[i] 40).trans (by simp [c40])
          have := datum_open rb s i n dp w h hlt hs (by omega) hd0 hd (asList (items (one s.data.toList f) s.data.toList (s.data.toList.length + 1) (i + 1) (n + 1))) b1 (fun w h => list_read rb s f i (n + 1) dp w h hlt hs (by omega) hd0 hd IH)
          generalize items (one s.data.toList f) s.data.toList (s.data.toList.length + 1) (i + 1) (n + 1) = r at this ⊢
          cases r with
          | inl e => exact this
          | inr y => exact this
        · rw [if_neg c40]
          have b1 : ((s[i].toNat : Int) == 40) = false := (byte_eq s[i] 40).trans (by simp [c40])
          by_cases c39 : s[i] = 39
          · rw [if_pos c39]
            have b2 : ((s[i].toNat : Int) == 39) = true := (byte_eq s[i] 39).trans (by simp [c39])
            by_cases hq : f = 0 ∨ 2000 < n + 2
            · rw [if_pos hq]
              refine datum_tick rb s i n dp w h hlt hs (by omega) hd0 hd (.inl (4, (i : Int))) b1 b2 (fun w h => ?_)
              refine quote_much rb s i (n + 1) dp w h hd0 hd (fun w h => ?_)
              by_cases h3 : n + 1 = 2000
              · exact count_much rb s i (n + 1) (dp + 1) w h h3
              · have hd41 : dp + 1 = 41 := by omega
                rw [hd41]
                exact count_deep rb s i (n + 1) w h (by omega)
            · rw [if_neg hq]
              have hsk := skip_le s.data.toList (i + 1) (by omega)
              rw [hlen] at hsk
              have ih1 : ∀ w, Rdr rb s (i + 1 + skipL (s.data.toList.drop (i + 1)) false) (n + 1 + 1) w → Calls Tryd.prog 38 #[.pointer (some ⟨rb, 0, none⟩), .int .i64 (dp + 1)] w (Out rb s (one s.data.toList f (i + 1 + skipL (s.data.toList.drop (i + 1)) false) (n + 2)) w) := fun w h => IH _ _ w h hsk (by omega)
              cases ho : one s.data.toList f (i + 1 + skipL (s.data.toList.drop (i + 1)) false) (n + 2) with
              | inl x =>
                rw [ho] at ih1
                exact datum_tick rb s i n dp w h hlt hs (by omega) hd0 hd (.inl x) b1 b2 (fun w h => quote_bad rb s i (n + 1) dp w h hlt hs (by omega) hd0 (by omega) x ih1)
              | inr y =>
                obtain ⟨d, j, m⟩ := y
                rw [ho] at ih1
                have hw := one_went s.data.toList f _ _ d j m (by rw [hlen]; exact hsk) (by omega) ho
                exact datum_tick rb s i n dp w h hlt hs (by omega) hd0 hd (.inr (datQuote d, j, m)) b1 b2 (fun w h => quote_read rb s i (n + 1) dp w h hlt hs (by omega) hd0 (by omega) d j m hw.name ih1)
          · rw [if_neg c39]
            have b2 : ((s[i].toNat : Int) == 39) = false := (byte_eq s[i] 39).trans (by simp [c39])
            by_cases c35 : s[i] = 35
            · rw [if_pos c35]
              have b3 : ((s[i].toNat : Int) == 35) = true := (byte_eq s[i] 35).trans (by simp [c35])
              exact datum_hash rb s i n dp w h hlt hs (by omega) hd0 hd (truthAt (byteL (s.data.toList.drop (i + 1))) i (n + 1)) b1 b2 b3 (fun w h => truth_read rb s i (n + 1) w h hlt hs)
            · rw [if_neg c35]
              have b3 : ((s[i].toNat : Int) == 35) = false := (byte_eq s[i] 35).trans (by simp [c35])
              cases b4 : letB (s[i].toNat : Int) with
              | true => exact datum_word rb s i n dp w h hlt hs (by omega) hd0 hd (wordAt (byteL (s.data.toList.drop i)) i (n + 1)) b1 b2 b3 b4 (fun w h => word_any rb s i (n + 1) w h hlt hs)
              | false => exact datum_none rb s i n dp w h hlt hs (by omega) hd0 hd b1 b2 b3 b4
      · obtain rfl : i = s.size := by omega
        rw [List.getElem?_eq_none (by omega)]
        exact datum_end rb s n dp w h (by omega) hd
end Go.Proofs.YtagpcafbeplccaaDoor
