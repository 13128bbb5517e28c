/- Words of package text: what a word is, what looks like a number, what is a name. -/
import Derived.Test.YthooljlikllnpaaDoorTa
namespace Go.Proofs.YthooljlikllnpaaDoor
set_option linter.unusedVariables false
set_option linter.unusedSimpArgs false
open Go.RowKit

/-- How many letters a text begins with. -/
def wl (l : List UInt8) : Nat := (l.takeWhile fun c => letB (c.toNat : Int)).length

theorem wl_le (l : List UInt8) : wl l ≤ l.length := (List.takeWhile_prefix _).length_le

theorem takeWhile_stop {p : UInt8 → Bool} : ∀ (l : List UInt8) (k : Nat) (h : k < l.length), (l.take k).all p = true → p l[k] = false → (l.takeWhile p).length = k
  | c :: r, 0, h, _, hp => by simp at hp; simp [hp]
  | c :: r, k + 1, h, ha, hp => by
    simp at ha
    obtain ⟨h1, h2⟩ := ha
    have := takeWhile_stop r k (by simpa using h) (by simpa using h2) (by simpa using hp)
    simp [h1, this]

theorem takeWhile_end {p : UInt8 → Bool} : ∀ (l : List UInt8), l.all p = true → (l.takeWhile p).length = l.length
  | [], _ => rfl
  | c :: r, ha => by
    simp at ha
    have := takeWhile_end (p := p) r (by simpa using ha.2)
    simp [ha.1, this]

theorem retS {a b : ByteArray} (h : a = b) : Ending.returned (.string a) = .returned (.string b) := by rw [h]

theorem let_step (s : ByteArray) (k : Nat) (h : k < s.size) (hl : letB (s[k].toNat : Int) = true) (ha : allLet (s.data.toList.take k) = true) : allLet (s.data.toList.take (k + 1)) = true := by
  have h' : k < s.data.toList.length := by rw [Array.length_toList]; exact h
  rw [List.take_succ_eq_append_getElem h']
  simp only [allLet, List.all_append] at ha ⊢
  rw [ha]
  have e : s.data.toList[k] = s[k] := rfl
  simp [e, hl]

theorem wl_stop (s : ByteArray) (k : Nat) (h : k < s.size) (hl : letB (s[k].toNat : Int) = false) (ha : allLet (s.data.toList.take k) = true) : wl s.data.toList = k := by
  have h' : k < s.data.toList.length := by rw [Array.length_toList]; exact h
  exact takeWhile_stop (p := fun c => letB (c.toNat : Int)) _ k h' ha hl

theorem wl_end (s : ByteArray) (ha : allLet (s.data.toList.take s.size) = true) : wl s.data.toList = s.size := by
  have e : s.data.toList.length = s.size := Array.length_toList
  rw [List.take_of_length_le (by omega)] at ha
  exact (takeWhile_end (p := fun c => letB (c.toNat : Int)) _ ha).trans e

set_option maxHeartbeats 400000 in
theorem wordAhead_any (s : ByteArray) (hs : s.size ≤ maxLen) (w : World) :
    Calls Tryd.prog 100 #[.string s] w fun e w' => e = .returned (.string (s.extract 0 (wl s.data.toList))) ∧ w' = w := by
  unfold maxLen at hs
  go_enter Tryd.func100, Tryd.ntmps100
  go_wp2_with fail
  go_loop [3] (fun i => ∃ k : Nat, k ≤ s.size ∧ i = .int .i64 k ∧ allLet (s.data.toList.take k) = true) (fun i => s.size - (intOf i).toNat)
  case atStart => exact ⟨0, Nat.zero_le _, rfl, rfl⟩
  case round =>
    obtain ⟨k, hk, rfl, ha⟩ := hrel
    have HA : Hid (allLet (s.data.toList.take k) = true) := ha
    clear ha
    by_cases hlt : k < s.size
    · have hbd := s[k].toNat_lt
      have lc := letter_any (s[k].toNat : Int) (by omega) (by omega) w
      obtain ⟨d, HD⟩ : ∃ d, Hid (letB (s[k].toNat : Int) = d) := ⟨letB (s[k].toNat : Int), (rfl : letB (s[k].toNat : Int) = letB (s[k].toNat : Int))⟩
      rw [HD.out] at lc
      have LC : Hid (Calls Tryd.prog 102 #[.int .u8 (s[k].toNat : Int)] w fun e w' => e = .returned (.bool d) ∧ w' = w) := lc
      clear lc
      cases d
      · go_wp2_with fail
        refine LC.out.mono ?_
        rintro e w' ⟨rfl, rfl⟩
        go_wp2_with fail
        go_ret
        exact ⟨retS (by rw [wl_stop s k hlt HD.out HA.out]), rfl⟩
      · go_wp2_with fail
        refine LC.out.mono ?_
        rintro e w' ⟨rfl, rfl⟩
        go_wp2_with fail
        go_round
        case rel => exact ⟨k + 1, by omega, by go_num, let_step s k hlt HD.out HA.out⟩
        case measure => simp [intOf]; omega
    · obtain rfl : k = s.size := by omega
      go_wp2_with fail
      go_ret
      exact ⟨retS (by rw [wl_end s HA.out]; simp), rfl⟩
end Go.Proofs.YthooljlikllnpaaDoor
