/- The document's reader: any datum. -/
import Derived.Test.YtagpcafbeplccaaDoorQe
import Derived.Test.YtagpcafbeplccaaDoorQf
import Derived.Test.YtagpcafbeplccaaDoorQg
namespace Go.Proofs.YtagpcafbeplccaaDoor
set_option linter.unusedVariables false
set_option linter.unusedSimpArgs false
open Go.RowKit

theorem One_any (rb : Nat) (s : ByteArray) (hs : s.size ≤ 6000) : ∀ (f : Nat), f ≤ 40 → ∀ (i n : Nat) (w : World), Wk rb s i n (0, 0) w → i ≤ s.size → n ≤ 2000 →
    Calls Tryd.prog 23 #[.pointer (some ⟨rb, 0, none⟩), .int .i64 (41 - (f : Int))] w (OutW rb s (one s.data.toList f i n) w) := by
  have hlen : s.data.toList.length = s.size := Array.length_toList
  intro f
  induction f with
  | zero =>
    intro _ i n w h hi hn
    exact One_much rb s i n (41 - ((0 : Nat) : Int)) w h hi (by by_cases e : n = 2000; exact Or.inl e; exact Or.inr ⟨by omega, by simp⟩)
  | succ f ih0 =>
    intro hf i n w h hi hn
    have ih := ih0 (by omega)
    have hdp : (41 : Int) - ((f + 1 : Nat) : Int) = 40 - (f : Int) := by omega
    rw [hdp]
    have hdp1 : (40 : Int) - (f : Int) + 1 = 41 - (f : Int) := by omega
    by_cases h2 : 2000 < n + 1
    · have e : one s.data.toList (f + 1) i n = .inl (4, (i : Int)) := by unfold one; rw [if_pos h2]
      rw [e]
      exact One_much rb s i n _ w h hi (Or.inl (by omega))
    · by_cases hlt : i < s.size
      · have hat := at_of hlt
        by_cases c40 : s[i] = 40
        · have e : one s.data.toList (f + 1) i n = asList (items (one s.data.toList f) s.data.toList (s.data.toList.length + 1) (i + 1) (n + 1)) := by
            conv => lhs; unfold one
            rw [if_neg h2, hat]
            simp only
            rw [if_pos c40]
            cases items (one s.data.toList f) s.data.toList (s.data.toList.length + 1) (i + 1) (n + 1) with
            | inl e => rfl
            | inr x => rfl
          rw [e]
          refine One_list rb s i n (40 - (f : Int)) w h hlt hs (by omega) (by omega) c40 (by omega) f ?_
          rw [hdp1]
          exact ih
        · by_cases c39 : s[i] = 39
          · by_cases hq : f = 0 ∨ 2000 < n + 2
            · have e : one s.data.toList (f + 1) i n = .inl (4, (i : Int)) := by
                unfold one
                rw [if_neg h2, hat]
                simp only
                rw [if_neg c40, if_pos c39, if_pos hq]
              rw [e]
              exact One_quote_much rb s i n (40 - (f : Int)) w h hlt hs (by omega) (by omega) c39 (by omega) (by omega)
            · have e : one s.data.toList (f + 1) i n = asQuote (one s.data.toList f (i + 1 + skipL (s.data.toList.drop (i + 1)) false) (n + 2)) := by
                conv => lhs; unfold one
                rw [if_neg h2, hat]
                simp only
                rw [if_neg c40, if_pos c39, if_neg hq]
                cases one s.data.toList f (i + 1 + skipL (s.data.toList.drop (i + 1)) false) (n + 2) with
                | inl e => rfl
                | inr x => rfl
              rw [e]
              have hsk := skip_le s.data.toList (i + 1) (by omega)
              refine One_quote rb s i n (40 - (f : Int)) w h hlt hs (by omega) (by omega) c39 (by omega) (by omega) (by omega) _ ?_ ?_
              · intro d j m hr
                exact (one_went s.data.toList f _ _ d j m hsk (by omega) hr).name
              · intro w hw
                rw [hdp1]
                exact ih _ _ w hw (by rw [← hlen]; exact hsk) (by omega)
          · by_cases c35 : s[i] = 35
            · have e : one s.data.toList (f + 1) i n = hashAt (byteL (s.data.toList.drop (i + 1))) i n := by
                conv => lhs; unfold one
                rw [if_neg h2, hat]
                simp only
                rw [if_neg c40, if_neg c39, if_pos c35]
                rfl
              rw [e]
              exact One_hash rb s i n (40 - (f : Int)) w h hlt hs (by omega) (by omega) c35
            · by_cases hl : letB (s[i].toNat : Int) = true
              · have e : one s.data.toList (f + 1) i n = wordAt (byteL (s.data.toList.drop i)) i (n + 1) := by
                  conv => lhs; unfold one
                  rw [if_neg h2, hat]
                  simp only
                  rw [if_neg c40, if_neg c39, if_neg c35, if_pos hl]
                rw [e]
                exact One_word rb s i n (40 - (f : Int)) w h hlt hs (by omega) (by omega) hl
              · have e : one s.data.toList (f + 1) i n = .inl (2, (i : Int)) := by
                  unfold one
                  rw [if_neg h2, hat]
                  simp only
                  rw [if_neg c40, if_neg c39, if_neg c35, if_neg hl]
                rw [e]
                exact One_bad rb s i n (40 - (f : Int)) w h hlt hs (by omega) (by omega) c40 c39 c35 (by simpa using hl)
      · have e : one s.data.toList (f + 1) i n = .inl (2, (i : Int)) := by
          unfold one
          rw [if_neg h2, List.getElem?_eq_none (by omega)]
        rw [e]
        exact One_end rb s i n (40 - (f : Int)) w h (by omega) hs (by omega) (by omega)
end Go.Proofs.YtagpcafbeplccaaDoor
