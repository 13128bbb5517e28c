/- Chapter 9: the primitives, and whether one is among them. -/
import Derived.Test.YthikdpclifeonaaGreatDoorK12
import Derived.Test.YthikdpclifeonaaGreatDoorK15
namespace Go.Proofs.YthikdpclifeonaaGreatDoor
set_option linter.unusedVariables false
set_option linter.unusedSimpArgs false
open Go.RowKit

def primText : ByteArray := ⟨#[42, 32, 43, 32, 45, 32, 60, 32, 61, 32, 99, 97, 114, 32, 99, 100, 114, 32, 99, 111, 110, 115, 32, 101, 113, 63, 32, 110, 111, 116, 32, 110, 117, 108, 108, 63, 32, 111, 117, 116, 32, 112, 97, 105, 114, 63]⟩
/-- The primitives' names, in the order in which the package tells them. -/
def primNames : List ByteArray := [⟨#[42]⟩, ⟨#[43]⟩, ⟨#[45]⟩, ⟨#[60]⟩, ⟨#[61]⟩, ⟨#[99, 97, 114]⟩, ⟨#[99, 100, 114]⟩, ⟨#[99, 111, 110, 115]⟩, ⟨#[101, 113, 63]⟩, ⟨#[110, 111, 116]⟩, ⟨#[110, 117, 108, 108, 63]⟩, ⟨#[111, 117, 116]⟩, ⟨#[112, 97, 105, 114, 63]⟩]
theorem prim_fields : (Lib.fields primText.data.toList).map (fun l => (⟨l.toArray⟩ : ByteArray)) = primNames := by decide
theorem argsTab_mem : ∀ (l : List (ByteArray × Int)) (x : ByteArray), (∀ p, p ∈ l → p.2 ≠ 0) → (argsTab l x ≠ 0 ↔ x ∈ l.map (·.1))
  | [], x, _ => by simp [argsTab]
  | (s, n) :: r, x, h => by
    have hn := h (s, n) List.mem_cons_self
    have ih := argsTab_mem r x (fun p m => h p (List.mem_cons_of_mem _ m))
    rw [argsTab]
    by_cases e : x = s
    · rw [if_pos e]; simp [e]; exact hn
    · rw [if_neg e, ih]; simp [e]
/-- Whether a primitive is among them. -/
theorem prim_has (x : ByteArray) : Lib.containsS primNames x = decide (argsB x ≠ 0) := by
  have h1 := Lib.containsS_iff primNames x
  have h2 : argsB x ≠ 0 ↔ x ∈ primTab.map (·.1) := argsTab_mem primTab x (by unfold primTab; intro p hp; simp at hp; rcases hp with rfl | rfl | rfl | rfl | rfl | rfl | rfl | rfl | rfl | rfl | rfl | rfl | rfl <;> simp)
  have h3 : x ∈ primNames ↔ x ∈ primTab.map (·.1) := by
    unfold primNames primTab
    simp only [List.map_cons, List.map_nil, List.mem_cons, List.not_mem_nil, or_false]
    constructor <;> intro h <;> rcases h with h | h | h | h | h | h | h | h | h | h | h | h | h <;> simp [h]
  by_cases e : argsB x ≠ 0
  · rw [decide_eq_true e]; exact h1.2 (h3.2 (h2.1 e))
  · rw [decide_eq_false e]
    cases hc : Lib.containsS primNames x with
    | false => rfl
    | true => exact absurd (h2.2 (h3.1 (h1.1 hc))) e

theorem prim_ascii : ∀ b, b ∈ primText.data.toList → b.toNat < 128 := by decide
theorem Prims_any (w : World) (htab : Lib.TabIs Tryz.prog w "strings.asciiSpace" .u8 Lib.asciiSpaceTab) :
    Calls Tryz.prog 80 #[] w fun r w' => r = .returned (.slice (some ⟨w.heap.size, 0, none⟩) 13 13) ∧ w' = w.alloc (.cells (primNames.map Value.string).toArray 9) := by
  have F := Tryz.strings_Fields primText w (by decide) (fun j b h => prim_ascii b (List.mem_of_getElem? h)) htab
  have e : (Lib.fields primText.data.toList).length = 13 := by have := congrArg List.length prim_fields; simpa [primNames] using this
  have e2 : ((Lib.fields primText.data.toList).map fun l => Value.string ⟨l.toArray⟩) = primNames.map Value.string := by rw [← prim_fields, List.map_map]; rfl
  rw [e, e2] at F
  have HF := hidd F
  clear F
  go_enter Tryz.func80, Tryz.ntmps80
  go_wp2_with fail
  refine HF.out.mono ?_
  rintro e w1 ⟨rfl, rfl⟩
  go_wp2_with fail
  go_ret
  exact ⟨rfl, rfl⟩
end Go.Proofs.YthikdpclifeonaaGreatDoor
