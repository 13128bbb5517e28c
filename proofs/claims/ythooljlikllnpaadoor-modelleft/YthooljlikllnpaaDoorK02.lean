/- Small functions of the document's answer: what each returns. -/
import Derived.Test.YthooljlikllnpaaDoorK01
import Derived.WalkKit
import Derived.WalkSpells
import Derived.WalkLawsBesides
import Derived.Lib.SlBytesConst
namespace Go.Proofs.YthooljlikllnpaaDoor
set_option linter.unusedVariables false
set_option linter.unusedSimpArgs false
open Go.RowKit

theorem retB {a b : Bool} (h : a = b) : Ending.returned (.bool a) = .returned (.bool b) := by rw [h]
theorem retI {k : IntKind} {a b : Int} (h : a = b) : Ending.returned (.int k a) = .returned (.int k b) := by rw [h]

theorem letTab_any (c : Int) (k : Nat) (hk : k < 47) (h : letTab.getD k 0 = c) : letB c = true := by
  have hk' : k < letTab.length := hk
  rw [List.getD_eq_getElem?_getD, List.getElem?_eq_getElem hk'] at h
  exact List.any_eq_true.2 ⟨letTab[k], List.getElem_mem hk', by simpa using h⟩

theorem letTab_none (c : Int) (h : ∀ j, j < 47 → letTab.getD j 0 ≠ c) : letB c = false := by
  unfold letB
  rw [List.any_eq_false]
  intro x hx
  obtain ⟨i, hi, rfl⟩ := List.getElem_of_mem hx
  have := h i hi
  rw [List.getD_eq_getElem?_getD, List.getElem?_eq_getElem hi] at this
  simpa using this

theorem letTab_arr (j : Nat) (hj : j < 47) : (letTab.map (Value.int IntKind.u8)).toArray[j]? = some (Value.int IntKind.u8 (letTab.getD j 0)) := by
  have hk' : j < letTab.length := hj
  simp [List.getElem?_eq_getElem hk']

set_option maxHeartbeats 400000 in
theorem Letter_any (c : Int) (h0 : 0 ≤ c) (h1 : c ≤ 255) (w : World) :
    Calls Tryd.prog 77 #[.int .u8 c] w fun e w' => e = .returned (.bool (letB c)) ∧ Below w.heap.size w w' := by
  have kc := fun (w : World) (C : Array Value) (n c : Nat) => Lib.run_convert_bytes_const (P := Tryd.prog) w 134 5 C n c Tryd.underlying134 Tryd.underlying5
  go_enter Tryd.func77, Tryd.ntmps77
  go_wp2
  go_loopw [8] (fun i wr => ∃ k : Nat, k ≤ 47 ∧ i = .int .i64 k ∧ Below w.heap.size w wr ∧ (∀ j, j < 47 → wr.cell? ⟨w.heap.size, j, none⟩ = some (.int .u8 (letTab.getD j 0))) ∧ ∀ j, j < k → letTab.getD j 0 ≠ c) (fun i _ => 47 - (intOf i).toNat)
  case atStart =>
    refine ⟨0, by omega, rfl, (Below.refl _ _).alloc (Nat.le_refl _) _, ?_, by omega⟩
    intro j hj
    exact (World.cell?_alloc_mark w (letTab.map (Value.int IntKind.u8)).toArray 5 (47, 48) j).trans (letTab_arr j hj)
  case round =>
    obtain ⟨k, hk, rfl, hb, hc, hn⟩ := hrel
    by_cases hlt : k < 47
    · have hck := hc k hlt
      have HN : Hid (∀ j, j < k → letTab.getD j 0 ≠ c) := hn
      have HC : Hid (∀ j, j < 47 → wr.cell? ⟨w.heap.size, j, none⟩ = some (.int .u8 (letTab.getD j 0))) := hc
      clear hn hc kc
      obtain ⟨x, hx⟩ : ∃ x, letTab.getD k 0 = x := ⟨_, rfl⟩
      rw [hx] at hck
      have HX : Hid (letTab.getD k 0 = x) := hx
      clear hx
      by_cases he : x = c
      · subst he
        go_wp2
        go_ret
        exact ⟨retB (letTab_any _ k hlt HX.out).symm, hb⟩
      · have he' : (x == c) = false := by simpa using he
        go_wp2
        go_roundw
        case rel =>
          refine ⟨k + 1, by omega, by go_num, hb, HC.out, ?_⟩
          intro j hj
          by_cases e : j = k
          · subst e; rw [HX.out]; exact he
          · exact HN.out j (by omega)
        case measure => simp [intOf]; omega
    · have HN : Hid (∀ j, j < k → letTab.getD j 0 ≠ c) := hn
      clear hn hc kc
      go_wp2
      go_ret
      exact ⟨retB (letTab_none c (fun j hj => HN.out j (by omega))).symm, hb⟩
end Go.Proofs.YthooljlikllnpaaDoor
