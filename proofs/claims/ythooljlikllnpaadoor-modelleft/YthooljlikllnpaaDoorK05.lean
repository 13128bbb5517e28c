/- Small functions of package text: what each returns. Words of package text: what a word is, what looks like a number, what is a name. -/
import Derived.Test.YthooljlikllnpaaDoorK03
import Derived.Test.YthooljlikllnpaaDoorK04
namespace Go.Proofs.YthooljlikllnpaaDoor
section
set_option linter.unusedVariables false
set_option linter.unusedSimpArgs false
open Go.RowKit

set_option maxHeartbeats 400000 in
theorem digit_any (c : Int) (h0 : 0 ≤ c) (h1 : c ≤ 255) (w : World) :
    Calls Tryd.prog 104 #[.int .u8 c] w fun e w' => e = .returned (.bool (digB c)) ∧ w' = w := by
  by_cases a : 48 ≤ c
  · by_cases b : c ≤ 57
    · go_enter Tryd.func104, Tryd.ntmps104
      go_wp2
      go_ret
      exact ⟨by simp [digB, a, b], rfl⟩
    · go_enter Tryd.func104, Tryd.ntmps104
      go_wp2
      go_ret
      exact ⟨by simp [digB, a, b], rfl⟩
  · have a' : ¬ 48 ≤ c := a
    go_enter Tryd.func104, Tryd.ntmps104
    go_wp2
    go_ret
    refine ⟨retB ?_, rfl⟩
    unfold digB
    rw [decide_eq_false (by omega), Bool.false_and]

def sgn : List UInt8 := [33, 63, 42, 43, 45, 47, 60, 61, 62, 95, 46]

theorem letter_all : ∀ c : Fin 256, letB (c.val : Int) = ((decide (97 ≤ (c.val : Int)) && decide ((c.val : Int) ≤ 122)) || (digB (c.val : Int) || decide (0 ≤ Lib.indexByte sgn c.val.toUInt8))) := by
  decide +kernel

theorem letB_eq (c : Int) (h0 : 0 ≤ c) (h1 : c ≤ 255) : letB c = ((decide (97 ≤ c) && decide (c ≤ 122)) || (digB c || decide (0 ≤ Lib.indexByte sgn c.toNat.toUInt8))) := by
  obtain ⟨n, rfl⟩ := Int.eq_ofNat_of_zero_le h0
  exact letter_all ⟨n, by omega⟩

set_option maxHeartbeats 400000 in
theorem letter_any (c : Int) (h0 : 0 ≤ c) (h1 : c ≤ 255) (w : World) :
    Calls Tryd.prog 102 #[.int .u8 c] w fun e w' => e = .returned (.bool (letB c)) ∧ w' = w := by
  have HE : Hid (letB c = ((decide (97 ≤ c) && decide (c ≤ 122)) || (digB c || decide (0 ≤ Lib.indexByte sgn c.toNat.toUInt8)))) := letB_eq c h0 h1
  by_cases a : 97 ≤ c ∧ c ≤ 122
  · obtain ⟨a1, a2⟩ := a
    go_enter Tryd.func102, Tryd.ntmps102
    go_wp2_with fail
    go_ret
    exact ⟨retB (by rw [HE.out, decide_eq_true a1, decide_eq_true a2]; rfl), rfl⟩
  · have ha : Hid ((decide (97 ≤ c) && decide (c ≤ 122)) = false) := by
      show (decide (97 ≤ c) && decide (c ≤ 122)) = false
      by_cases g : 97 ≤ c
      · rw [decide_eq_false (p := c ≤ 122) (by omega), Bool.and_false]
      · rw [decide_eq_false g, Bool.false_and]
    clear a
    have hor : (97 ≤ c ∧ ¬ c ≤ 122) ∨ ¬ 97 ≤ c := by
      by_cases g : 97 ≤ c
      · refine Or.inl ⟨g, fun h => ?_⟩
        have := ha.out
        simp [g, h] at this
      · exact Or.inr g
    obtain ⟨d, HD⟩ : ∃ d, Hid (digB c = d) := ⟨_, rfl⟩
    obtain ⟨i, HI⟩ : ∃ i, Hid (Lib.indexByte sgn c.toNat.toUInt8 = i) := ⟨_, rfl⟩
    have dg := digit_any c h0 h1 w
    rw [HD.out] at dg
    have ix : Calls Tryd.prog 105 #[.string ⟨#[33, 63, 42, 43, 45, 47, 60, 61, 62, 95, 46]⟩, .int .u8 c] w fun e w' => e = .returned (.int .i64 i) ∧ w' = w := by
      have h := Tryd.strings_IndexByte ⟨#[33, 63, 42, 43, 45, 47, 60, 61, 62, 95, 46]⟩ c w
      rw [show Lib.indexByte (⟨#[33, 63, 42, 43, 45, 47, 60, 61, 62, 95, 46]⟩ : ByteArray).data.toList c.toNat.toUInt8 = i from HI.out] at h
      exact h
    have DG : Hid (Calls Tryd.prog 104 #[.int .u8 c] w fun e w' => e = .returned (.bool d) ∧ w' = w) := dg
    have IX : Hid (Calls Tryd.prog 105 #[.string ⟨#[33, 63, 42, 43, 45, 47, 60, 61, 62, 95, 46]⟩, .int .u8 c] w fun e w' => e = .returned (.int .i64 i) ∧ w' = w) := ix
    clear dg ix
    rcases hor with ⟨a1, a2⟩ | a1
    all_goals
      cases d
      · by_cases hi : 0 ≤ i
        · go_enter Tryd.func102, Tryd.ntmps102
          go_wp2_with fail
          refine DG.out.mono ?_
          rintro e w' ⟨rfl, rfl⟩
          go_wp2_with fail
          refine IX.out.mono ?_
          rintro e w' ⟨rfl, rfl⟩
          go_wp2_with fail
          go_ret
          exact ⟨retB (by rw [HE.out, ha.out, HD.out, HI.out, decide_eq_true hi]; rfl), rfl⟩
        · go_enter Tryd.func102, Tryd.ntmps102
          go_wp2_with fail
          refine DG.out.mono ?_
          rintro e w' ⟨rfl, rfl⟩
          go_wp2_with fail
          refine IX.out.mono ?_
          rintro e w' ⟨rfl, rfl⟩
          go_wp2_with fail
          go_ret
          exact ⟨retB (by rw [HE.out, ha.out, HD.out, HI.out, decide_eq_false (by omega)]; rfl), rfl⟩
      · go_enter Tryd.func102, Tryd.ntmps102
        go_wp2_with fail
        refine DG.out.mono ?_
        rintro e w' ⟨rfl, rfl⟩
        go_wp2_with fail
        go_ret
        exact ⟨retB (by rw [HE.out, ha.out, HD.out]; rfl), rfl⟩
end
section
set_option linter.unusedVariables false
set_option linter.unusedSimpArgs false
open Go.RowKit

/-- How many letters a text begins with. -/
def wl (l : List UInt8) : Nat := (l.takeWhile fun c => letB (c.toNat : Int)).length

theorem wl_le (l : List UInt8) : wl l ≤ l.length := (List.takeWhile_prefix _).length_le

theorem takeWhile_stop {p : UInt8 → Bool} : ∀ (l : List UInt8) (k : Nat) (h : k < l.length), (l.take k).all p = true → p l[k] = false → (l.takeWhile p).length = k
  | c :: r, 0, h, _, hp => by simp at hp; simp [hp]
  | c :: r, k + 1, h, ha, hp => by
    simp at ha
    obtain ⟨h1, h2⟩ := ha
    have := takeWhile_stop r k (by simpa using h) (by simpa using h2) (by simpa using hp)
    simp [h1, this]

theorem takeWhile_end {p : UInt8 → Bool} : ∀ (l : List UInt8), l.all p = true → (l.takeWhile p).length = l.length
  | [], _ => rfl
  | c :: r, ha => by
    simp at ha
    have := takeWhile_end (p := p) r (by simpa using ha.2)
    simp [ha.1, this]

theorem retS {a b : ByteArray} (h : a = b) : Ending.returned (.string a) = .returned (.string b) := by rw [h]

theorem let_step (s : ByteArray) (k : Nat) (h : k < s.size) (hl : letB (s[k].toNat : Int) = true) (ha : allLet (s.data.toList.take k) = true) : allLet (s.data.toList.take (k + 1)) = true := by
  have h' : k < s.data.toList.length := by rw [Array.length_toList]; exact h
  rw [List.take_succ_eq_append_getElem h']
  simp only [allLet, List.all_append] at ha ⊢
  rw [ha]
  have e : s.data.toList[k] = s[k] := rfl
  simp [e, hl]

theorem wl_stop (s : ByteArray) (k : Nat) (h : k < s.size) (hl : letB (s[k].toNat : Int) = false) (ha : allLet (s.data.toList.take k) = true) : wl s.data.toList = k := by
  have h' : k < s.data.toList.length := by rw [Array.length_toList]; exact h
  exact takeWhile_stop (p := fun c => letB (c.toNat : Int)) _ k h' ha hl

theorem wl_end (s : ByteArray) (ha : allLet (s.data.toList.take s.size) = true) : wl s.data.toList = s.size := by
  have e : s.data.toList.length = s.size := Array.length_toList
  rw [List.take_of_length_le (by omega)] at ha
  exact (takeWhile_end (p := fun c => letB (c.toNat : Int)) _ ha).trans e

set_option maxHeartbeats 400000 in
theorem wordAhead_any (s : ByteArray) (hs : s.size ≤ maxLen) (w : World) :
    Calls Tryd.prog 100 #[.string s] w fun e w' => e = .returned (.string (s.extract 0 (wl s.data.toList))) ∧ w' = w := by
  unfold maxLen at hs
  go_enter Tryd.func100, Tryd.ntmps100
  go_wp2_with fail
  go_loop [3] (fun i => ∃ k : Nat, k ≤ s.size ∧ i = .int .i64 k ∧ allLet (s.data.toList.take k) = true) (fun i => s.size - (intOf i).toNat)
  case atStart => exact ⟨0, Nat.zero_le _, rfl, rfl⟩
  case round =>
    obtain ⟨k, hk, rfl, ha⟩ := hrel
    have HA : Hid (allLet (s.data.toList.take k) = true) := ha
    clear ha
    by_cases hlt : k < s.size
    · have hbd := s[k].toNat_lt
      have lc := letter_any (s[k].toNat : Int) (by omega) (by omega) w
      obtain ⟨d, HD⟩ : ∃ d, Hid (letB (s[k].toNat : Int) = d) := ⟨letB (s[k].toNat : Int), (rfl : letB (s[k].toNat : Int) = letB (s[k].toNat : Int))⟩
      rw [HD.out] at lc
      have LC : Hid (Calls Tryd.prog 102 #[.int .u8 (s[k].toNat : Int)] w fun e w' => e = .returned (.bool d) ∧ w' = w) := lc
      clear lc
      cases d
      · go_wp2_with fail
        refine LC.out.mono ?_
        rintro e w' ⟨rfl, rfl⟩
        go_wp2_with fail
        go_ret
        exact ⟨retS (by rw [wl_stop s k hlt HD.out HA.out]), rfl⟩
      · go_wp2_with fail
        refine LC.out.mono ?_
        rintro e w' ⟨rfl, rfl⟩
        go_wp2_with fail
        go_round
        case rel => exact ⟨k + 1, by omega, by go_num, let_step s k hlt HD.out HA.out⟩
        case measure => simp [intOf]; omega
    · obtain rfl : k = s.size := by omega
      go_wp2_with fail
      go_ret
      exact ⟨retS (by rw [wl_end s HA.out]; simp), rfl⟩
end
end Go.Proofs.YthooljlikllnpaaDoor
