/- Chapter 7: two results that are the same. -/
import Derived.Test.YthooljlikllnpaaDoorK45
namespace Go.Proofs.YthooljlikllnpaaDoor
set_option linter.unusedVariables false
set_option linter.unusedSimpArgs false
open Go.RowKit

set_option maxRecDepth 100000 in
set_option maxHeartbeats 3200000 in
theorem Same_any (txs : List (List UInt8)) (a a2 : Option Addr) (n n2 c c2 : Nat) (w : World) (hn : txs.length ≤ 1000) (h1 : TM txs a n c w) (h2 : TM txs a2 n2 c2 w) :
    Calls Tryd.prog 12 #[.agg #[.int .i64 1, .slice a n c], .agg #[.int .i64 1, .slice a2 n2 c2]] w fun e w' => e = .returned (.bool true) ∧ Below w.heap.size w w' := by
  obtain ⟨rfl, hc1, h1⟩ := h1
  obtain ⟨rfl, hc2, h2⟩ := h2
  obtain ⟨W0, hW0⟩ : ∃ W0, W0 = (w.alloc (.cells #[.int .i64 1, .slice a txs.length c] 25)).alloc (.cells #[.int .i64 1, .slice a2 txs.length c2] 25) := ⟨_, rfl⟩
  have hb0 : Below w.heap.size w W0 := by rw [hW0]; exact ((Below.refl _ _).alloc (Nat.le_refl _) _).alloc (by simp) _
  have a0 : W0.heap[w.heap.size]? = some (.cells #[.int .i64 1, .slice a txs.length c] 25 (0, 0)) := by rw [hW0, Below.heap_alloc _ _ _ (alloc_lt _ _)]; exact World.alloc_heap_new w _
  have a1 : W0.heap[w.heap.size + 1]? = some (.cells #[.int .i64 1, .slice a2 txs.length c2] 25 (0, 0)) := by
    rw [hW0]
    have := World.alloc_heap_new (w.alloc (.cells #[.int .i64 1, .slice a txs.length c] 25)) (.cells #[.int .i64 1, .slice a2 txs.length c2] 25)
    simpa using this
  have x0 : W0.cell? ⟨w.heap.size, 0, none⟩ = some (.int .i64 1) := (cellO a0).trans rfl
  have x1 : W0.cell? ⟨w.heap.size, 1, none⟩ = some (.slice a txs.length c) := (cellO a0).trans rfl
  have y0 : W0.cell? ⟨w.heap.size + 1, 0, none⟩ = some (.int .i64 1) := (cellO a1).trans rfl
  have y1 : W0.cell? ⟨w.heap.size + 1, 1, none⟩ = some (.slice a2 txs.length c2) := (cellO a1).trans rfl
  have HX : Hid (∀ W, Below W0.heap.size W0 W → W.cell? ⟨w.heap.size, 1, none⟩ = some (.slice a txs.length c) ∧ W.cell? ⟨w.heap.size + 1, 1, none⟩ = some (.slice a2 txs.length c2)) := fun W hb => ⟨(hb.cell (p := ⟨w.heap.size, 1, none⟩) (cell_lt x1)).trans x1, (hb.cell (p := ⟨w.heap.size + 1, 1, none⟩) (cell_lt y1)).trans y1⟩
  have HT : Hid (∀ W j s, Below W0.heap.size W0 W → txs[j]? = some s → ∃ G H, a = some ⟨G, 0, none⟩ ∧ a2 = some ⟨H, 0, none⟩ ∧ W.cell? ⟨G, j, none⟩ = some (.string ⟨s.toArray⟩) ∧ W.cell? ⟨H, j, none⟩ = some (.string ⟨s.toArray⟩)) := by
    intro W j s hb hj
    have hne : txs ≠ [] := by rintro rfl; simp at hj
    have hbb : Below w.heap.size w W := hb0.trans (hb.mono hb0.size)
    rcases h1 with h1 | ⟨G, rfl, g1⟩
    · exact absurd h1 hne
    rcases h2 with h2 | ⟨H, rfl, g2⟩
    · exact absurd h2 hne
    exact ⟨G, H, rfl, rfl, (hbb.cell (p := ⟨G, j, none⟩) (cell_lt (g1 j s hj))).trans (g1 j s hj), (hbb.cell (p := ⟨H, j, none⟩) (cell_lt (g2 j s hj))).trans (g2 j s hj)⟩
  have HB0 := hidd hb0
  have HC : Hid (txs.length ≤ c ∧ txs.length ≤ c2) := ⟨hc1, hc2⟩
  have HL : Hid (∀ j, j < txs.length → ∃ s, txs[j]? = some s) := fun j hj => ⟨_, List.getElem?_eq_getElem hj⟩
  have hw0 := hW0.symm
  clear h1 h2 hb0 a0 a1 hW0 hc1 hc2
  generalize txs.length = N at *
  go_enter Tryd.func12, Tryd.ntmps12
  go_wp2_with fail
  go_loopw [5, 23] (fun _ ix wr => ∃ j : Nat, j ≤ N ∧ ix = .int .i64 j ∧ Hid (Below W0.heap.size W0 wr)) (fun _ ix _ => N - (intOf ix).toNat)
  case atStart => exact ⟨0, Nat.zero_le _, rfl, Below.refl _ _⟩
  case round =>
    obtain ⟨j, hj, rfl, HB⟩ := hrel
    obtain ⟨u1, v1⟩ := HX.out wr HB.out
    by_cases hlt : j < N
    · obtain ⟨s, hs⟩ := HL.out j hlt
      obtain ⟨G, H, rfl, rfl, e1, e2⟩ := HT.out wr j s HB.out hs
      clear hs
      go_wp2_with fail
      go_region
      all_goals
        go_wp2_with fail
        go_roundw
        case rel => exact ⟨j + 1, hlt, by go_num, HB.out.drew⟩
        case measure => simp [intOf]; omega
    · obtain rfl : j = N := by omega
      go_wp2_with fail
      go_ret
      exact ⟨rfl, HB0.out.trans (HB.out.mono HB0.out.size)⟩
end Go.Proofs.YthooljlikllnpaaDoor
