/- Small functions of package text: what each returns. -/
import Derived.Test.YthooljlikllnpaaDoorRb
import Derived.Test.YthooljlikllnpaaDoorShelfA
namespace Go.Proofs.YthooljlikllnpaaDoor
set_option linter.unusedVariables false
set_option linter.unusedSimpArgs false
open Go.RowKit

set_option maxHeartbeats 400000 in
theorem digit_any (c : Int) (h0 : 0 ≤ c) (h1 : c ≤ 255) (w : World) :
    Calls Tryd.prog 104 #[.int .u8 c] w fun e w' => e = .returned (.bool (digB c)) ∧ w' = w := by
  by_cases a : 48 ≤ c
  · by_cases b : c ≤ 57
    · go_enter Tryd.func104, Tryd.ntmps104
      go_wp2
      go_ret
      exact ⟨by simp [digB, a, b], rfl⟩
    · go_enter Tryd.func104, Tryd.ntmps104
      go_wp2
      go_ret
      exact ⟨by simp [digB, a, b], rfl⟩
  · have a' : ¬ 48 ≤ c := a
    go_enter Tryd.func104, Tryd.ntmps104
    go_wp2
    go_ret
    refine ⟨retB ?_, rfl⟩
    unfold digB
    rw [decide_eq_false (by omega), Bool.false_and]

def sgn : List UInt8 := [33, 63, 42, 43, 45, 47, 60, 61, 62, 95, 46]

theorem letter_all : ∀ c : Fin 256, letB (c.val : Int) = ((decide (97 ≤ (c.val : Int)) && decide ((c.val : Int) ≤ 122)) || (digB (c.val : Int) || decide (0 ≤ Lib.indexByte sgn c.val.toUInt8))) := by
  decide +kernel

theorem letB_eq (c : Int) (h0 : 0 ≤ c) (h1 : c ≤ 255) : letB c = ((decide (97 ≤ c) && decide (c ≤ 122)) || (digB c || decide (0 ≤ Lib.indexByte sgn c.toNat.toUInt8))) := by
  obtain ⟨n, rfl⟩ := Int.eq_ofNat_of_zero_le h0
  exact letter_all ⟨n, by omega⟩

set_option maxHeartbeats 400000 in
theorem letter_any (c : Int) (h0 : 0 ≤ c) (h1 : c ≤ 255) (w : World) :
    Calls Tryd.prog 102 #[.int .u8 c] w fun e w' => e = .returned (.bool (letB c)) ∧ w' = w := by
  have HE : Hid (letB c = ((decide (97 ≤ c) && decide (c ≤ 122)) || (digB c || decide (0 ≤ Lib.indexByte sgn c.toNat.toUInt8)))) := letB_eq c h0 h1
  by_cases a : 97 ≤ c ∧ c ≤ 122
  · obtain ⟨a1, a2⟩ := a
    go_enter Tryd.func102, Tryd.ntmps102
    go_wp2_with fail
    go_ret
    exact ⟨retB (by rw [HE.out, decide_eq_true a1, decide_eq_true a2]; rfl), rfl⟩
  · have ha : Hid ((decide (97 ≤ c) && decide (c ≤ 122)) = false) := by
      show (decide (97 ≤ c) && decide (c ≤ 122)) = false
      by_cases g : 97 ≤ c
      · rw [decide_eq_false (p := c ≤ 122) (by omega), Bool.and_false]
      · rw [decide_eq_false g, Bool.false_and]
    clear a
    have hor : (97 ≤ c ∧ ¬ c ≤ 122) ∨ ¬ 97 ≤ c := by
      by_cases g : 97 ≤ c
      · refine Or.inl ⟨g, fun h => ?_⟩
        have := ha.out
        simp [g, h] at this
      · exact Or.inr g
    obtain ⟨d, HD⟩ : ∃ d, Hid (digB c = d) := ⟨_, rfl⟩
    obtain ⟨i, HI⟩ : ∃ i, Hid (Lib.indexByte sgn c.toNat.toUInt8 = i) := ⟨_, rfl⟩
    have dg := digit_any c h0 h1 w
    rw [HD.out] at dg
    have ix : Calls Tryd.prog 105 #[.string ⟨#[33, 63, 42, 43, 45, 47, 60, 61, 62, 95, 46]⟩, .int .u8 c] w fun e w' => e = .returned (.int .i64 i) ∧ w' = w := by
      have h := Tryd.strings_IndexByte ⟨#[33, 63, 42, 43, 45, 47, 60, 61, 62, 95, 46]⟩ c w
      rw [show Lib.indexByte (⟨#[33, 63, 42, 43, 45, 47, 60, 61, 62, 95, 46]⟩ : ByteArray).data.toList c.toNat.toUInt8 = i from HI.out] at h
      exact h
    have DG : Hid (Calls Tryd.prog 104 #[.int .u8 c] w fun e w' => e = .returned (.bool d) ∧ w' = w) := dg
    have IX : Hid (Calls Tryd.prog 105 #[.string ⟨#[33, 63, 42, 43, 45, 47, 60, 61, 62, 95, 46]⟩, .int .u8 c] w fun e w' => e = .returned (.int .i64 i) ∧ w' = w) := ix
    clear dg ix
    rcases hor with ⟨a1, a2⟩ | a1
    all_goals
      cases d
      · by_cases hi : 0 ≤ i
        · go_enter Tryd.func102, Tryd.ntmps102
          go_wp2_with fail
          refine DG.out.mono ?_
          rintro e w' ⟨rfl, rfl⟩
          go_wp2_with fail
          refine IX.out.mono ?_
          rintro e w' ⟨rfl, rfl⟩
          go_wp2_with fail
          go_ret
          exact ⟨retB (by rw [HE.out, ha.out, HD.out, HI.out, decide_eq_true hi]; rfl), rfl⟩
        · go_enter Tryd.func102, Tryd.ntmps102
          go_wp2_with fail
          refine DG.out.mono ?_
          rintro e w' ⟨rfl, rfl⟩
          go_wp2_with fail
          refine IX.out.mono ?_
          rintro e w' ⟨rfl, rfl⟩
          go_wp2_with fail
          go_ret
          exact ⟨retB (by rw [HE.out, ha.out, HD.out, HI.out, decide_eq_false (by omega)]; rfl), rfl⟩
      · go_enter Tryd.func102, Tryd.ntmps102
        go_wp2_with fail
        refine DG.out.mono ?_
        rintro e w' ⟨rfl, rfl⟩
        go_wp2_with fail
        go_ret
        exact ⟨retB (by rw [HE.out, ha.out, HD.out]; rfl), rfl⟩
end Go.Proofs.YthooljlikllnpaaDoor
