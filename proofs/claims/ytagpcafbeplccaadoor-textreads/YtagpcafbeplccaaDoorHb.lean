/- Data that can be read lie in memory. -/
import Derived.Test.YtagpcafbeplccaaDoorHa
import Derived.ProofKit
import Derived.OpenShut
namespace Go.Proofs.YtagpcafbeplccaaDoor
set_option linter.unusedVariables false
set_option linter.unusedSimpArgs false
open Go.RowKit

theorem pick_list {α : Type} (p : Nat → α → Prop) : ∀ (n : Nat), (∀ i, i < n → ∃ x, p i x) → ∃ l : List α, l.length = n ∧ ∀ i x, l[i]? = some x → p i x
  | 0, _ => ⟨[], rfl, by simp⟩
  | n + 1, h => by
    obtain ⟨l, hl, hp⟩ := pick_list p n (fun i hi => h i (by omega))
    obtain ⟨x, hx⟩ := h n (by omega)
    refine ⟨l ++ [x], by simp [hl], ?_⟩
    intro i y hy
    by_cases hi : i < n
    · rw [List.getElem?_append_left (by omega)] at hy
      exact hp i y hy
    · have hlen := (List.getElem?_eq_some_iff.1 hy).1
      simp at hlen
      obtain rfl : i = n := by omega
      rw [List.getElem?_append_right (by omega)] at hy
      simp [hl] at hy
      subst hy
      exact hx

theorem cells6 : Tryd.prog.cellsOf 46 = 6 := by kernel_rfl
theorem cells1_3 : Tryd.prog.cellsOf 3 = 1 := by kernel_rfl
theorem cells1_2 : Tryd.prog.cellsOf 2 = 1 := by kernel_rfl
theorem cells1_9 : Tryd.prog.cellsOf 9 = 1 := by kernel_rfl
theorem cells1_22 : Tryd.prog.cellsOf 22 = 1 := by kernel_rfl

theorem Lies.nil (B : Nat) (w : World) (f : Nat) (a : Option Addr) : Lies B w f a [] := by
  cases f with
  | zero => rfl
  | succ f => exact ⟨Nat.zero_le _, Or.inl rfl⟩

theorem Lies.more {B : Nat} {w : World} : ∀ (f : Nat) (a : Option Addr) (ds : List Dat), Lies B w f a ds → Lies B w (f + 1) a ds
  | 0, a, ds, h => by
    rw [show ds = [] from h]
    exact Lies.nil _ _ _ _
  | f + 1, a, ds, h => by
    obtain ⟨hl, h⟩ := h
    refine ⟨hl, ?_⟩
    rcases h with h | ⟨b, o, ha, hb, h⟩
    · exact Or.inl h
    · refine Or.inr ⟨b, o, ha, hb, fun i d hd => ?_⟩
      obtain ⟨a', cap, c0, c1, c2, c3, c4, c5, hn, hk⟩ := h i d hd
      exact ⟨a', cap, c0, c1, c2, c3, c4, c5, hn, Lies.more f a' _ hk⟩

/-- Six cells in a row. -/
theorem six_cells {w : World} {a : Addr} {cs : List Value} (h : w.cells? 0 a 6 = some cs) : ∃ c0 c1 c2 c3 c4 c5, cs = [c0, c1, c2, c3, c4, c5] ∧ a.spot = none ∧ a.block < w.heap.size ∧
    w.cell? ⟨a.block, a.off, none⟩ = some c0 ∧ w.cell? ⟨a.block, a.off + 1, none⟩ = some c1 ∧ w.cell? ⟨a.block, a.off + 2, none⟩ = some c2 ∧ w.cell? ⟨a.block, a.off + 3, none⟩ = some c3 ∧ w.cell? ⟨a.block, a.off + 4, none⟩ = some c4 ∧ w.cell? ⟨a.block, a.off + 5, none⟩ = some c5 := by
  unfold World.cells? at h
  rw [if_pos (Nat.zero_le _)] at h
  simp only [show List.range 6 = [0, 1, 2, 3, 4, 5] from rfl, List.mapM_cons, List.mapM_nil, Option.bind_eq_bind, Option.bind_eq_some_iff, Option.pure_def, Option.some.injEq] at h
  obtain ⟨c0, h0, _, ⟨c1, h1, _, ⟨c2, h2, _, ⟨c3, h3, _, ⟨c4, h4, _, ⟨c5, h5, _, rfl, rfl⟩, rfl⟩, rfl⟩, rfl⟩, rfl⟩, rfl⟩ := h
  have hs : a.spot = none := by simpa [Addr.add] using World.cell?_spot h0
  obtain ⟨b, o, sp⟩ := a
  simp only at hs
  subst hs
  simp only [Addr.add] at h0 h1 h2 h3 h4 h5
  exact ⟨c0, c1, c2, c3, c4, c5, rfl, rfl, World.block_lt_of_cell? _ _ h0, h0, h1, h2, h3, h4, h5⟩

/-- WHAT CAN BE READ AS DATA LIES IN MEMORY AS DATA DO. -/
theorem lies_of_trod {H : Type} {enc : TypeId × Value → H} {w : World} {sp : Nat → Bool} {held : Bool} : ∀ (F fuel : Nat), fuel ≤ F → ∀ (v : Value) (x : DataW H × List MemPlace), DataW.trod enc Tryd.prog w 0 sp held fuel 22 [v] = some x →
    ∃ (a : Option Addr) (cap : Nat) (ds : List Dat), v = .slice a ds.length cap ∧ Lies w.heap.size w fuel a ds
  | 0, fuel, hF, v, x, h => by
    obtain rfl : fuel = 0 := by omega
    simp [DataW.trod] at h
  | F + 1, fuel, hF, v, x, h => by
    rcases DataW.trod_slice Tryd.underlying22 h with ⟨hv, _⟩ | ⟨a, len, cap, elems, rest, n, hn, hv, _, _, hlc, hcm, hel, hall, _, _⟩
    · simp at hv
      exact ⟨none, 0, [], hv, Lies.nil _ _ _ _⟩
    · simp at hv
      have key : ∀ i, i < len → ∃ d : Dat, ∃ a' cap', (i = 0 → a.spot = none) ∧ a.block < w.heap.size ∧
          w.cell? ⟨a.block, a.off + i * 6, none⟩ = some (.int .i64 d.kind) ∧ w.cell? ⟨a.block, a.off + i * 6 + 1, none⟩ = some (.int .i64 d.n) ∧ w.cell? ⟨a.block, a.off + i * 6 + 2, none⟩ = some (.string d.name) ∧
          w.cell? ⟨a.block, a.off + i * 6 + 3, none⟩ = some (.int .i64 d.stamp) ∧ w.cell? ⟨a.block, a.off + i * 6 + 4, none⟩ = some (.int .i64 d.lib) ∧ w.cell? ⟨a.block, a.off + i * 6 + 5, none⟩ = some (.slice a' d.kids.length cap') ∧
          d.name.size ≤ maxLen ∧ Lies w.heap.size w n a' d.kids := by
        intro i hi
        have h1 := hall i hi
        rw [cells6, List.getElem?_eq_getElem (by omega)] at h1
        obtain ⟨cs, hcs, ht⟩ := Option.bind_eq_some_iff.1 h1
        obtain ⟨c0, c1, c2, c3, c4, c5, rfl, hs, hb, g0, g1, g2, g3, g4, g5⟩ := six_cells hcs
        obtain ⟨xs, m, hm, _, _, hxl, hf⟩ := DataW.trod_struct Tryd.underlying46 ht
        have e0 : DataW.trod enc Tryd.prog w 0 sp held m 3 (([c0, c1, c2, c3, c4, c5].drop 0).take (Tryd.prog.cellsOf 3)) = xs[0]? := hf 0 _ rfl
        have e1 : DataW.trod enc Tryd.prog w 0 sp held m 2 (([c0, c1, c2, c3, c4, c5].drop 1).take (Tryd.prog.cellsOf 2)) = xs[1]? := hf 1 _ rfl
        have e2 : DataW.trod enc Tryd.prog w 0 sp held m 9 (([c0, c1, c2, c3, c4, c5].drop 2).take (Tryd.prog.cellsOf 9)) = xs[2]? := hf 2 _ rfl
        have e3 : DataW.trod enc Tryd.prog w 0 sp held m 3 (([c0, c1, c2, c3, c4, c5].drop 3).take (Tryd.prog.cellsOf 3)) = xs[3]? := hf 3 _ rfl
        have e4 : DataW.trod enc Tryd.prog w 0 sp held m 3 (([c0, c1, c2, c3, c4, c5].drop 4).take (Tryd.prog.cellsOf 3)) = xs[4]? := hf 4 _ rfl
        have e5 : DataW.trod enc Tryd.prog w 0 sp held m 22 (([c0, c1, c2, c3, c4, c5].drop 5).take (Tryd.prog.cellsOf 22)) = xs[5]? := hf 5 _ rfl
        have hx6 : xs.length = 6 := hxl
        rw [List.getElem?_eq_getElem (by omega)] at e0 e1 e2 e3 e4 e5
        rw [cells1_3] at e0 e3 e4
        rw [cells1_2] at e1
        rw [cells1_9] at e2
        rw [cells1_22] at e5
        simp only [List.drop_zero, List.take_succ_cons, List.take_zero, List.drop_succ_cons] at e0 e1 e2 e3 e4 e5
        obtain ⟨k, hk, _, _⟩ := DataW.trod_int Tryd.underlying3 e0
        obtain ⟨nn, hnn, _, _⟩ := DataW.trod_int Tryd.underlying2 e1
        obtain ⟨s, hsn, _, hsz⟩ := DataW.trod_string Tryd.underlying9 e2
        obtain ⟨st, hst, _, _⟩ := DataW.trod_int Tryd.underlying3 e3
        obtain ⟨lb, hlb, _, _⟩ := DataW.trod_int Tryd.underlying3 e4
        obtain ⟨a', cap', ks, hks, hlk⟩ := lies_of_trod F m (by omega) c5 _ e5
        simp at hk hnn hsn hst hlb
        subst hk hnn hsn hst hlb hks
        have hadd : (a.add (i * 6)).block = a.block ∧ (a.add (i * 6)).off = a.off + i * 6 := by
          unfold Addr.add
          split
          · rename_i h; rw [h]; exact ⟨rfl, rfl⟩
          · exact ⟨rfl, rfl⟩
        rw [hadd.1, hadd.2] at g0 g1 g2 g3 g4 g5
        rw [hadd.1] at hb
        refine ⟨⟨k, nn, s, st, lb, ks⟩, a', cap', ?_, hb, g0, g1, g2, g3, g4, g5, hsz, ?_⟩
        · intro h0
          subst h0
          simpa [Addr.add] using hs
        · have hm' : n = m + 1 := hm
          rw [hm']
          exact Lies.more _ _ _ hlk
      obtain ⟨ds, hdl, hd⟩ := pick_list _ len key
      refine ⟨some a, cap, ds, by rw [hv, hdl], ?_⟩
      rw [hn]
      refine ⟨by unfold maxLen at hcm; omega, ?_⟩
      by_cases h0 : ds = []
      · exact Or.inl h0
      · have hpos : 0 < ds.length := List.length_pos_iff.2 h0
        obtain ⟨_, _, hsp, hbl, _⟩ := hd 0 ds[0] (List.getElem?_eq_getElem hpos)
        have hsp' := hsp rfl
        obtain ⟨b, o, spt⟩ := a
        simp only at hsp' hbl
        subst hsp'
        refine Or.inr ⟨b, o, rfl, hbl, ?_⟩
        intro i d hi
        obtain ⟨a', cap', _, _, r⟩ := hd i d hi
        exact ⟨a', cap', r⟩
end Go.Proofs.YtagpcafbeplccaaDoor
