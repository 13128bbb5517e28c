/- From the rows' conditions: how many rules a rule set of small bulk has. -/
import Derived.Test.YtgeedaabdonjcaeGreatDoorRows
import Derived.Test.YtgeedaabdonjcaeGreatDoorK45
namespace Go.Proofs.YtgeedaabdonjcaeGreatDoor
set_option linter.unusedVariables false
set_option linter.unusedSimpArgs false
open Go.RowKit

theorem bulk_pos {H : Type} (d : DataW H) : 1 ≤ Rows.uptoBulk d := by
  cases d with
  | lit l => cases l <;> simp [Rows.uptoBulk]
  | nil => simp [Rows.uptoBulk]
  | ptr d => simp [Rows.uptoBulk]
  | slice elems spare => simp [Rows.uptoBulk]
  | agg parts => simp [Rows.uptoBulk]
  | iface t d => simp [Rows.uptoBulk]
  | map entries => simp [Rows.uptoBulk]
  | held h => simp [Rows.uptoBulk]
theorem bulk_mem {H : Type} {d : DataW H} : ∀ {l : List (DataW H)}, d ∈ l → Rows.uptoBulk d ≤ Rows.uptoBulkAll l
  | [], h => by cases h
  | x :: r, h => by
    simp only [Rows.uptoBulkAll]
    rcases List.mem_cons.1 h with rfl | h
    · omega
    · have := bulk_mem h
      omega
theorem bulk_len {H : Type} : ∀ (l : List (DataW H)), l.length ≤ Rows.uptoBulkAll l
  | [] => by simp [Rows.uptoBulkAll]
  | x :: r => by
    have := bulk_len r
    have := bulk_pos x
    simp only [Rows.uptoBulkAll, List.length_cons]
    omega
theorem mac_bulk {H : Type} {enc : TypeId × Value → H} {w : World} {sp : Nat → Bool} {held : Bool} {fuel m rc : Nat} {ra : Option Addr} {c0 : Value} {x : DataW H × List MemPlace}
    (ht : DataW.trod enc Tryz.prog w 0 sp held fuel 25 [c0, .slice ra m rc] = some x) : m ≤ Rows.uptoBulk x.1 := by
  obtain ⟨xs, f, hm, rfl, _, hxl, hf⟩ := DataW.trod_struct Tryz.underlying25 ht
  have e1 : DataW.trod enc Tryz.prog w 0 sp held f 23 (([c0, .slice ra m rc].drop 1).take (Tryz.prog.cellsOf 23)) = xs[1]? := hf 1 _ rfl
  have hx2 : xs.length = 2 := hxl
  rw [List.getElem?_eq_getElem (by omega), cells1_23] at e1
  simp only [List.take_succ_cons, List.take_zero, List.drop_succ_cons, List.drop_zero] at e1
  have h1 : m ≤ Rows.uptoBulk (xs[1]'(by omega)).1 := by
    rcases DataW.trod_slice Tryz.underlying23 e1 with ⟨hv, _⟩ | ⟨a, len, cap, elems, rest, n, hn, hv, hy, _, hlc, hcm, hel, hall, _, _⟩
    · simp at hv
      rw [hv.2.1]
      exact Nat.zero_le _
    · simp at hv
      rw [hy, hv.2.1, ← hel]
      have := bulk_len (elems.map (·.1))
      rw [List.length_map] at this
      simp only [Rows.uptoBulk]
      omega
  have h2 := bulk_mem (List.mem_map.2 ⟨xs[1]'(by omega), List.getElem_mem (by omega), rfl⟩ : (xs[1]'(by omega)).1 ∈ xs.map (·.1))
  simp only [Rows.uptoBulk]
  omega
end Go.Proofs.YtgeedaabdonjcaeGreatDoor
