/- Chapter 9: the primitives, and whether one is among them. The document's primitives. -/
import Derived.Test.YtdnbingddbakaaaDoorK11
import Derived.Test.YtdnbingddbakaaaDoorK14
import Derived.Test.YtdnbingddbakaaaDoorK15
namespace Go.Proofs.YtdnbingddbakaaaDoor
section
set_option linter.unusedVariables false
set_option linter.unusedSimpArgs false
open Go.RowKit

def primText : ByteArray := ⟨#[42, 32, 43, 32, 45, 32, 60, 32, 61, 32, 99, 97, 114, 32, 99, 100, 114, 32, 99, 111, 110, 115, 32, 101, 113, 63, 32, 110, 111, 116, 32, 110, 117, 108, 108, 63, 32, 111, 117, 116, 32, 112, 97, 105, 114, 63]⟩
/-- The primitives' names, in the order in which the package tells them. -/
def primNames : List ByteArray := [⟨#[42]⟩, ⟨#[43]⟩, ⟨#[45]⟩, ⟨#[60]⟩, ⟨#[61]⟩, ⟨#[99, 97, 114]⟩, ⟨#[99, 100, 114]⟩, ⟨#[99, 111, 110, 115]⟩, ⟨#[101, 113, 63]⟩, ⟨#[110, 111, 116]⟩, ⟨#[110, 117, 108, 108, 63]⟩, ⟨#[111, 117, 116]⟩, ⟨#[112, 97, 105, 114, 63]⟩]
theorem prim_fields : (Lib.fields primText.data.toList).map (fun l => (⟨l.toArray⟩ : ByteArray)) = primNames := by decide
theorem argsTab_mem : ∀ (l : List (ByteArray × Int)) (x : ByteArray), (∀ p, p ∈ l → p.2 ≠ 0) → (argsTab l x ≠ 0 ↔ x ∈ l.map (·.1))
  | [], x, _ => by simp [argsTab]
  | (s, n) :: r, x, h => by
    have hn := h (s, n) List.mem_cons_self
    have ih := argsTab_mem r x (fun p m => h p (List.mem_cons_of_mem _ m))
    rw [argsTab]
    by_cases e : x = s
    · rw [if_pos e]; simp [e]; exact hn
    · rw [if_neg e, ih]; simp [e]
/-- Whether a primitive is among them. -/
theorem prim_has (x : ByteArray) : Lib.containsS primNames x = decide (argsB x ≠ 0) := by
  have h1 := Lib.containsS_iff primNames x
  have h2 : argsB x ≠ 0 ↔ x ∈ primTab.map (·.1) := argsTab_mem primTab x (by unfold primTab; intro p hp; simp at hp; rcases hp with rfl | rfl | rfl | rfl | rfl | rfl | rfl | rfl | rfl | rfl | rfl | rfl | rfl <;> simp)
  have h3 : x ∈ primNames ↔ x ∈ primTab.map (·.1) := by
    unfold primNames primTab
    simp only [List.map_cons, List.map_nil, List.mem_cons, List.not_mem_nil, or_false]
    constructor <;> intro h <;> rcases h with h | h | h | h | h | h | h | h | h | h | h | h | h <;> simp [h]
  by_cases e : argsB x ≠ 0
  · rw [decide_eq_true e]; exact h1.2 (h3.2 (h2.1 e))
  · rw [decide_eq_false e]
    cases hc : Lib.containsS primNames x with
    | false => rfl
    | true => exact absurd (h2.2 (h3.1 (h1.1 hc))) e

theorem prim_ascii : ∀ b, b ∈ primText.data.toList → b.toNat < 128 := by decide
theorem Prims_any (w : World) (htab : Lib.TabIs Tryd.prog w "strings.asciiSpace" .u8 Lib.asciiSpaceTab) :
    Calls Tryd.prog 51 #[] w fun r w' => r = .returned (.slice (some ⟨w.heap.size, 0, none⟩) 13 13) ∧ w' = w.alloc (.cells (primNames.map Value.string).toArray 9) := by
  have F := Tryd.strings_Fields primText w (by decide) (fun j b h => prim_ascii b (List.mem_of_getElem? h)) htab
  have e : (Lib.fields primText.data.toList).length = 13 := by have := congrArg List.length prim_fields; simpa [primNames] using this
  have e2 : ((Lib.fields primText.data.toList).map fun l => Value.string ⟨l.toArray⟩) = primNames.map Value.string := by rw [← prim_fields, List.map_map]; rfl
  rw [e, e2] at F
  have HF := hidd F
  clear F
  go_enter Tryd.func51, Tryd.ntmps51
  go_wp2_with fail
  refine HF.out.mono ?_
  rintro e w1 ⟨rfl, rfl⟩
  go_wp2_with fail
  go_ret
  exact ⟨rfl, rfl⟩
end
section
set_option linter.unusedVariables false
set_option linter.unusedSimpArgs false
open Go.RowKit

set_option maxRecDepth 100000 in
set_option maxHeartbeats 1600000 in
theorem in_any (l : List ByteArray) (b : Nat) (c : Nat) (o : ByteArray) (w : World) (hl : ∀ j s, l[j]? = some s → w.cell? ⟨b, j, none⟩ = some (.string s)) (hn : l.length ≤ 1000) (hc : l.length ≤ c) (r : Bool) (hr : r = true ↔ o ∈ l) :
    Calls Tryd.prog 60 #[.slice (some ⟨b, 0, none⟩) l.length c, .string o] w fun e w' => e = .returned (.bool r) ∧ w' = w := by
  have HL := hidd hl
  have HR := hidd hr
  clear hl hr
  go_enter Tryd.func60, Tryd.ntmps60
  go_wp2_with fail
  go_loopw [9] (fun ix wr => ∃ j : Nat, j ≤ l.length ∧ ix = .int .i64 j ∧ wr = w ∧ Hid (o ∈ l ↔ o ∈ l.drop j)) (fun ix _ => l.length - (intOf ix).toNat)
  case atStart => exact ⟨0, Nat.zero_le _, rfl, rfl, (show _ ↔ _ by simp)⟩
  case round =>
    obtain ⟨j, hj, rfl, hwr, HE⟩ := hrel
    subst wr
    by_cases hlt : j < l.length
    · obtain ⟨s, hs⟩ : ∃ s, l[j]? = some s := ⟨l[j], List.getElem?_eq_getElem hlt⟩
      have k0 := HL.out j s hs
      have hd : l.drop j = s :: l.drop (j + 1) := by
        obtain ⟨h1, h2⟩ := List.getElem?_eq_some_iff.1 hs
        rw [← h2]; exact List.drop_eq_getElem_cons h1
      have HE2 : Hid (o ∈ l ↔ o = s ∨ o ∈ l.drop (j + 1)) := by
        show _ ↔ _
        rw [HE.out, hd, List.mem_cons]
      clear hs hd HE
      by_cases he : s = o
      · subst he
        have hb : (s.toList == s.toList) = true := by simp
        have HM : Hid (s ∈ l) := HE2.out.2 (Or.inl rfl)
        clear HE2
        go_wp2_with fail
        go_ret
        exact ⟨congrArg (fun b => Ending.returned (.bool b)) (HR.out.2 HM.out).symm, rfl⟩
      · have hb : (s.toList == o.toList) = false := beqS_ne he
        have HE3 : Hid (o ∈ l ↔ o ∈ l.drop (j + 1)) := by show _ ↔ _; rw [HE2.out]; exact ⟨fun h => h.resolve_left (fun e => he e.symm), Or.inr⟩
        clear he HE2
        go_wp2_with fail
        go_roundw
        case rel => exact ⟨j + 1, by omega, by go_num, trivial, HE3.out⟩
        case measure => simp [intOf]; omega
    · obtain rfl : j = l.length := by omega
      have HM : Hid (¬ o ∈ l) := by show ¬ _; rw [HE.out]; simp
      clear HE
      go_wp2_with fail
      go_ret
      exact ⟨congrArg (fun b => Ending.returned (.bool b)) (show false = r from (by cases hh : r with | false => rfl | true => exact absurd (HR.out.1 hh) HM.out)), rfl⟩
def primL : List ByteArray := [⟨#[42]⟩, ⟨#[43]⟩, ⟨#[45]⟩, ⟨#[60]⟩, ⟨#[61]⟩, ⟨#[99, 97, 114]⟩, ⟨#[99, 100, 114]⟩, ⟨#[99, 111, 110, 115]⟩, ⟨#[101, 113, 63]⟩, ⟨#[110, 111, 116]⟩, ⟨#[110, 117, 108, 108, 63]⟩, ⟨#[111, 117, 116]⟩, ⟨#[112, 97, 105, 114, 63]⟩]
theorem argsTab_memG : ∀ (l : List (ByteArray × Int)) (o : ByteArray), argsTab l o ≠ 0 → ∃ p ∈ l, o = p.1
  | [], o, h => absurd rfl h
  | (s, n) :: r, o, h => by
    by_cases e : o = s
    · exact ⟨(s, n), by simp, e⟩
    · simp only [argsTab, if_neg e] at h
      obtain ⟨p, hp, h2⟩ := argsTab_memG r o h
      exact ⟨p, List.mem_cons_of_mem _ hp, h2⟩
theorem primL_args (o : ByteArray) : decide (argsB o ≠ 0) = true ↔ o ∈ primL := by
  rw [decide_eq_true_iff, iff_comm]
  constructor
  · intro h
    unfold primL at h
    simp only [List.mem_cons, List.not_mem_nil, or_false] at h
    rcases h with h | h | h | h | h | h | h | h | h | h | h | h | h <;> subst h <;> decide +kernel
  · intro h
    obtain ⟨p, hp, rfl⟩ := argsTab_memG primTab o h
    unfold primTab at hp
    simp only [List.mem_cons, List.not_mem_nil, or_false] at hp
    rcases hp with rfl | rfl | rfl | rfl | rfl | rfl | rfl | rfl | rfl | rfl | rfl | rfl | rfl <;> simp [primL]

set_option maxRecDepth 100000 in
set_option maxHeartbeats 1600000 in
theorem Prim_any (o : ByteArray) (w : World) : Calls Tryd.prog 49 #[.string o] w fun e w' => e = .returned (.bool (decide (argsB o ≠ 0))) ∧ Below w.heap.size w w' := by
  have IN := hidd (in_any primL w.heap.size 13 o (w.alloc (.cells #[.string ⟨#[42]⟩, .string ⟨#[43]⟩, .string ⟨#[45]⟩, .string ⟨#[60]⟩, .string ⟨#[61]⟩, .string ⟨#[99, 97, 114]⟩, .string ⟨#[99, 100, 114]⟩, .string ⟨#[99, 111, 110, 115]⟩, .string ⟨#[101, 113, 63]⟩, .string ⟨#[110, 111, 116]⟩, .string ⟨#[110, 117, 108, 108, 63]⟩, .string ⟨#[111, 117, 116]⟩, .string ⟨#[112, 97, 105, 114, 63]⟩] 9)) (fun j s hj => by
    have h := World.cell?_alloc_mark w #[.string ⟨#[42]⟩, .string ⟨#[43]⟩, .string ⟨#[45]⟩, .string ⟨#[60]⟩, .string ⟨#[61]⟩, .string ⟨#[99, 97, 114]⟩, .string ⟨#[99, 100, 114]⟩, .string ⟨#[99, 111, 110, 115]⟩, .string ⟨#[101, 113, 63]⟩, .string ⟨#[110, 111, 116]⟩, .string ⟨#[110, 117, 108, 108, 63]⟩, .string ⟨#[111, 117, 116]⟩, .string ⟨#[112, 97, 105, 114, 63]⟩] 9 (0, 0) j
    refine h.trans ?_
    unfold primL at hj
    match j, hj with
    | 0, hj => simp at hj; subst hj; rfl
    | 1, hj => simp at hj; subst hj; rfl
    | 2, hj => simp at hj; subst hj; rfl
    | 3, hj => simp at hj; subst hj; rfl
    | 4, hj => simp at hj; subst hj; rfl
    | 5, hj => simp at hj; subst hj; rfl
    | 6, hj => simp at hj; subst hj; rfl
    | 7, hj => simp at hj; subst hj; rfl
    | 8, hj => simp at hj; subst hj; rfl
    | 9, hj => simp at hj; subst hj; rfl
    | 10, hj => simp at hj; subst hj; rfl
    | 11, hj => simp at hj; subst hj; rfl
    | 12, hj => simp at hj; subst hj; rfl
    | n + 13, hj => simp at hj) (by decide) (by decide) _ (primL_args o))
  generalize decide (argsB o ≠ 0) = r at IN ⊢
  have BA : Hid (Below w.heap.size w (w.alloc (.cells #[.string ⟨#[42]⟩, .string ⟨#[43]⟩, .string ⟨#[45]⟩, .string ⟨#[60]⟩, .string ⟨#[61]⟩, .string ⟨#[99, 97, 114]⟩, .string ⟨#[99, 100, 114]⟩, .string ⟨#[99, 111, 110, 115]⟩, .string ⟨#[101, 113, 63]⟩, .string ⟨#[110, 111, 116]⟩, .string ⟨#[110, 117, 108, 108, 63]⟩, .string ⟨#[111, 117, 116]⟩, .string ⟨#[112, 97, 105, 114, 63]⟩] 9))) := (Below.refl _ _).alloc (Nat.le_refl _) _
  go_enter Tryd.func49, Tryd.ntmps49
  go_wp2_with fail
  refine IN.out.mono ?_
  rintro e w1 ⟨rfl, rfl⟩
  clear IN
  go_wp2_with fail
  go_ret
  exact ⟨rfl, BA.out⟩
end
end Go.Proofs.YtdnbingddbakaaaDoor
