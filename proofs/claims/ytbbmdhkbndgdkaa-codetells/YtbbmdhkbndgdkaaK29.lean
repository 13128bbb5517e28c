/- The document's primitives. -/
import Derived.Test.YtbbmdhkbndgdkaaK27
import Derived.Test.YtbbmdhkbndgdkaaK28
namespace Go.Proofs.Ytbbmdhkbndgdkaa
set_option linter.unusedVariables false
set_option linter.unusedSimpArgs false
open Go.RowKit

set_option maxRecDepth 100000 in
set_option maxHeartbeats 1600000 in
theorem in_any (l : List ByteArray) (b : Nat) (c : Nat) (o : ByteArray) (w : World) (hl : ∀ j s, l[j]? = some s → w.cell? ⟨b, j, none⟩ = some (.string s)) (hn : l.length ≤ 1000) (hc : l.length ≤ c) (r : Bool) (hr : r = true ↔ o ∈ l) :
    Calls Try.prog 48 #[.slice (some ⟨b, 0, none⟩) l.length c, .string o] w fun e w' => e = .returned (.bool r) ∧ w' = w := by
  have HL := hidd hl
  have HR := hidd hr
  clear hl hr
  go_enter Try.func48, Try.ntmps48
  go_wp2_with fail
  go_loopw [9] (fun ix wr => ∃ j : Nat, j ≤ l.length ∧ ix = .int .i64 j ∧ wr = w ∧ Hid (o ∈ l ↔ o ∈ l.drop j)) (fun ix _ => l.length - (intOf ix).toNat)
  case atStart => exact ⟨0, Nat.zero_le _, rfl, rfl, (show _ ↔ _ by simp)⟩
  case round =>
    obtain ⟨j, hj, rfl, hwr, HE⟩ := hrel
    subst wr
    by_cases hlt : j < l.length
    · obtain ⟨s, hs⟩ : ∃ s, l[j]? = some s := ⟨l[j], List.getElem?_eq_getElem hlt⟩
      have k0 := HL.out j s hs
      have hd : l.drop j = s :: l.drop (j + 1) := by
        obtain ⟨h1, h2⟩ := List.getElem?_eq_some_iff.1 hs
        rw [← h2]; exact List.drop_eq_getElem_cons h1
      have HE2 : Hid (o ∈ l ↔ o = s ∨ o ∈ l.drop (j + 1)) := by
        show _ ↔ _
        rw [HE.out, hd, List.mem_cons]
      clear hs hd HE
      by_cases he : s = o
      · subst he
        have hb : (s.toList == s.toList) = true := by simp
        have HM : Hid (s ∈ l) := HE2.out.2 (Or.inl rfl)
        clear HE2
        go_wp2_with fail
        go_ret
        exact ⟨congrArg (fun b => Ending.returned (.bool b)) (HR.out.2 HM.out).symm, rfl⟩
      · have hb : (s.toList == o.toList) = false := beqS_ne he
        have HE3 : Hid (o ∈ l ↔ o ∈ l.drop (j + 1)) := by show _ ↔ _; rw [HE2.out]; exact ⟨fun h => h.resolve_left (fun e => he e.symm), Or.inr⟩
        clear he HE2
        go_wp2_with fail
        go_roundw
        case rel => exact ⟨j + 1, by omega, by go_num, trivial, HE3.out⟩
        case measure => simp [intOf]; omega
    · obtain rfl : j = l.length := by omega
      have HM : Hid (¬ o ∈ l) := by show ¬ _; rw [HE.out]; simp
      clear HE
      go_wp2_with fail
      go_ret
      exact ⟨congrArg (fun b => Ending.returned (.bool b)) (show false = r from (by cases hh : r with | false => rfl | true => exact absurd (HR.out.1 hh) HM.out)), rfl⟩
def primL : List ByteArray := [⟨#[42]⟩, ⟨#[43]⟩, ⟨#[45]⟩, ⟨#[60]⟩, ⟨#[61]⟩, ⟨#[99, 97, 114]⟩, ⟨#[99, 100, 114]⟩, ⟨#[99, 111, 110, 115]⟩, ⟨#[101, 113, 63]⟩, ⟨#[110, 111, 116]⟩, ⟨#[110, 117, 108, 108, 63]⟩, ⟨#[111, 117, 116]⟩, ⟨#[112, 97, 105, 114, 63]⟩]
theorem argsTab_mem : ∀ (l : List (ByteArray × Int)) (o : ByteArray), argsTab l o ≠ 0 → ∃ p ∈ l, o = p.1
  | [], o, h => absurd rfl h
  | (s, n) :: r, o, h => by
    by_cases e : o = s
    · exact ⟨(s, n), by simp, e⟩
    · simp only [argsTab, if_neg e] at h
      obtain ⟨p, hp, h2⟩ := argsTab_mem r o h
      exact ⟨p, List.mem_cons_of_mem _ hp, h2⟩
theorem primL_args (o : ByteArray) : decide (argsB o ≠ 0) = true ↔ o ∈ primL := by
  rw [decide_eq_true_iff, iff_comm]
  constructor
  · intro h
    unfold primL at h
    simp only [List.mem_cons, List.not_mem_nil, or_false] at h
    rcases h with h | h | h | h | h | h | h | h | h | h | h | h | h <;> subst h <;> decide +kernel
  · intro h
    obtain ⟨p, hp, rfl⟩ := argsTab_mem primTab o h
    unfold primTab at hp
    simp only [List.mem_cons, List.not_mem_nil, or_false] at hp
    rcases hp with rfl | rfl | rfl | rfl | rfl | rfl | rfl | rfl | rfl | rfl | rfl | rfl | rfl <;> simp [primL]

set_option maxRecDepth 100000 in
set_option maxHeartbeats 1600000 in
theorem Prim_any (o : ByteArray) (w : World) : Calls Try.prog 41 #[.string o] w fun e w' => e = .returned (.bool (decide (argsB o ≠ 0))) ∧ Below w.heap.size w w' := by
  have IN := hidd (in_any primL w.heap.size 13 o (w.alloc (.cells #[.string ⟨#[42]⟩, .string ⟨#[43]⟩, .string ⟨#[45]⟩, .string ⟨#[60]⟩, .string ⟨#[61]⟩, .string ⟨#[99, 97, 114]⟩, .string ⟨#[99, 100, 114]⟩, .string ⟨#[99, 111, 110, 115]⟩, .string ⟨#[101, 113, 63]⟩, .string ⟨#[110, 111, 116]⟩, .string ⟨#[110, 117, 108, 108, 63]⟩, .string ⟨#[111, 117, 116]⟩, .string ⟨#[112, 97, 105, 114, 63]⟩] 9)) (fun j s hj => by
    have h := World.cell?_alloc_mark w #[.string ⟨#[42]⟩, .string ⟨#[43]⟩, .string ⟨#[45]⟩, .string ⟨#[60]⟩, .string ⟨#[61]⟩, .string ⟨#[99, 97, 114]⟩, .string ⟨#[99, 100, 114]⟩, .string ⟨#[99, 111, 110, 115]⟩, .string ⟨#[101, 113, 63]⟩, .string ⟨#[110, 111, 116]⟩, .string ⟨#[110, 117, 108, 108, 63]⟩, .string ⟨#[111, 117, 116]⟩, .string ⟨#[112, 97, 105, 114, 63]⟩] 9 (0, 0) j
    refine h.trans ?_
    unfold primL at hj
    match j, hj with
    | 0, hj => simp at hj; subst hj; rfl
    | 1, hj => simp at hj; subst hj; rfl
    | 2, hj => simp at hj; subst hj; rfl
    | 3, hj => simp at hj; subst hj; rfl
    | 4, hj => simp at hj; subst hj; rfl
    | 5, hj => simp at hj; subst hj; rfl
    | 6, hj => simp at hj; subst hj; rfl
    | 7, hj => simp at hj; subst hj; rfl
    | 8, hj => simp at hj; subst hj; rfl
    | 9, hj => simp at hj; subst hj; rfl
    | 10, hj => simp at hj; subst hj; rfl
    | 11, hj => simp at hj; subst hj; rfl
    | 12, hj => simp at hj; subst hj; rfl
    | n + 13, hj => simp at hj) (by decide) (by decide) _ (primL_args o))
  generalize decide (argsB o ≠ 0) = r at IN ⊢
  have BA : Hid (Below w.heap.size w (w.alloc (.cells #[.string ⟨#[42]⟩, .string ⟨#[43]⟩, .string ⟨#[45]⟩, .string ⟨#[60]⟩, .string ⟨#[61]⟩, .string ⟨#[99, 97, 114]⟩, .string ⟨#[99, 100, 114]⟩, .string ⟨#[99, 111, 110, 115]⟩, .string ⟨#[101, 113, 63]⟩, .string ⟨#[110, 111, 116]⟩, .string ⟨#[110, 117, 108, 108, 63]⟩, .string ⟨#[111, 117, 116]⟩, .string ⟨#[112, 97, 105, 114, 63]⟩] 9))) := (Below.refl _ _).alloc (Nat.le_refl _) _
  go_enter Try.func41, Try.ntmps41
  go_wp2_with fail
  refine IN.out.mono ?_
  rintro e w1 ⟨rfl, rfl⟩
  clear IN
  go_wp2_with fail
  go_ret
  exact ⟨rfl, BA.out⟩
end Go.Proofs.Ytbbmdhkbndgdkaa
