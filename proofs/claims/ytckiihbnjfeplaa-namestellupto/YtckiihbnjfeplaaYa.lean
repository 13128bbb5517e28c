/- Sets and names that can be read lie in memory. -/
import Derived.Test.YtckiihbnjfeplaaWb
import Derived.ProofKit
import Derived.OpenShut
namespace Go.Proofs.Ytckiihbnjfeplaa
set_option linter.unusedVariables false
set_option linter.unusedSimpArgs false
open Go.RowKit

theorem pick_list {α : Type} (p : Nat → α → Prop) : ∀ (n : Nat), (∀ i, i < n → ∃ x, p i x) → ∃ l : List α, l.length = n ∧ ∀ i x, l[i]? = some x → p i x
  | 0, _ => ⟨[], rfl, by simp⟩
  | n + 1, h => by
    obtain ⟨l, hl, hp⟩ := pick_list p n (fun i hi => h i (by omega))
    obtain ⟨x, hx⟩ := h n (by omega)
    refine ⟨l ++ [x], by simp [hl], ?_⟩
    intro i y hy
    by_cases hi : i < n
    · rw [List.getElem?_append_left (by omega)] at hy
      exact hp i y hy
    · have hlen := (List.getElem?_eq_some_iff.1 hy).1
      simp at hlen
      obtain rfl : i = n := by omega
      rw [List.getElem?_append_right (by omega)] at hy
      simp [hl] at hy
      subst hy
      exact hx

theorem cells25 : Try.prog.cellsOf 25 = 6 := by kernel_rfl
theorem cells1_3 : Try.prog.cellsOf 3 = 1 := by kernel_rfl
theorem cells1_9 : Try.prog.cellsOf 9 = 1 := by kernel_rfl
theorem cells1_22 : Try.prog.cellsOf 22 = 1 := by kernel_rfl
theorem cells1_23 : Try.prog.cellsOf 23 = 1 := by kernel_rfl

theorem add_parts (a : Addr) (j : Nat) : (a.add j).block = a.block ∧ (a.add j).off = a.off + j := by
  unfold Addr.add
  split
  · rename_i h; rw [h]; exact ⟨rfl, rfl⟩
  · exact ⟨rfl, rfl⟩

/-- One cell; six cells in a row. -/
theorem one_cell {w : World} {a : Addr} {cs : List Value} (h : w.cells? 0 a 1 = some cs) : ∃ c0, cs = [c0] ∧ a.spot = none ∧ a.block < w.heap.size ∧ w.cell? ⟨a.block, a.off, none⟩ = some c0 := by
  unfold World.cells? at h
  rw [if_pos (Nat.zero_le _)] at h
  simp only [show List.range 1 = [0] from rfl, List.mapM_cons, List.mapM_nil, Option.bind_eq_bind, Option.bind_eq_some_iff, Option.pure_def, Option.some.injEq] at h
  obtain ⟨c0, h0, _, rfl, rfl⟩ := h
  have hs : a.spot = none := by simpa [Addr.add] using World.cell?_spot h0
  obtain ⟨b, o, sp⟩ := a
  simp only at hs
  subst hs
  simp only [Addr.add] at h0
  exact ⟨c0, rfl, rfl, World.block_lt_of_cell? _ _ h0, h0⟩
theorem six_row {w : World} {a : Addr} {cs : List Value} (h : w.cells? 0 a 6 = some cs) : ∃ c0 c1 c2 c3 c4 c5, cs = [c0, c1, c2, c3, c4, c5] ∧ a.spot = none ∧ a.block < w.heap.size ∧
    w.cell? ⟨a.block, a.off, none⟩ = some c0 ∧ w.cell? ⟨a.block, a.off + 1, none⟩ = some c1 ∧ w.cell? ⟨a.block, a.off + 2, none⟩ = some c2 ∧ w.cell? ⟨a.block, a.off + 3, none⟩ = some c3 ∧ w.cell? ⟨a.block, a.off + 4, none⟩ = some c4 ∧ w.cell? ⟨a.block, a.off + 5, none⟩ = some c5 := by
  unfold World.cells? at h
  rw [if_pos (Nat.zero_le _)] at h
  simp only [show List.range 6 = [0, 1, 2, 3, 4, 5] from rfl, List.mapM_cons, List.mapM_nil, Option.bind_eq_bind, Option.bind_eq_some_iff, Option.pure_def, Option.some.injEq] at h
  obtain ⟨c0, h0, _, ⟨c1, h1, _, ⟨c2, h2, _, ⟨c3, h3, _, ⟨c4, h4, _, ⟨c5, h5, _, rfl, rfl⟩, rfl⟩, rfl⟩, rfl⟩, rfl⟩, rfl⟩ := h
  have hs : a.spot = none := by simpa [Addr.add] using World.cell?_spot h0
  obtain ⟨b, o, sp⟩ := a
  simp only at hs
  subst hs
  simp only [Addr.add] at h0 h1 h2 h3 h4 h5
  exact ⟨c0, c1, c2, c3, c4, c5, rfl, rfl, World.block_lt_of_cell? _ _ h0, h0, h1, h2, h3, h4, h5⟩

section
variable {H : Type} {enc : TypeId × Value → H} {w : World} {sp : Nat → Bool} {held : Bool}

theorem strs_of_trod {fuel : Nat} {v : Value} {x : DataW H × List MemPlace} (h : DataW.trod enc Try.prog w 0 sp held fuel 22 [v] = some x) :
    ∃ (a : Option Addr) (cap : Nat) (l : List ByteArray), v = .slice a l.length cap ∧ Strs w.heap.size w a l := by
  rcases DataW.trod_slice Try.underlying22 h with ⟨hv, _⟩ | ⟨a, len, cap, elems, rest, n, hn, hv, _, _, hlc, hcm, hel, hall, _, _⟩
  · simp at hv
    exact ⟨none, 0, [], hv, Strs.nil _ _ _⟩
  · simp at hv
    have key : ∀ i, i < len → ∃ s : ByteArray, (i = 0 → a.spot = none) ∧ a.block < w.heap.size ∧ w.cell? ⟨a.block, a.off + i, none⟩ = some (.string s) ∧ s.size ≤ maxLen := by
      intro i hi
      have h1 := hall i hi
      rw [cells1_9, List.getElem?_eq_getElem (by omega)] at h1
      obtain ⟨cs, hcs, ht⟩ := Option.bind_eq_some_iff.1 h1
      obtain ⟨c0, rfl, hs, hb, g0⟩ := one_cell hcs
      obtain ⟨s, hsn, _, hsz⟩ := DataW.trod_string Try.underlying9 ht
      simp at hsn
      subst hsn
      rw [(add_parts a _).1, (add_parts a _).2, Nat.mul_one] at g0
      rw [(add_parts a _).1] at hb
      refine ⟨s, ?_, hb, g0, hsz⟩
      intro h0
      subst h0
      simpa [Addr.add] using hs
    obtain ⟨l, hll, hl⟩ := pick_list _ len key
    refine ⟨some a, cap, l, by rw [hv, hll], by unfold maxLen at hcm; omega, ?_, ?_⟩
    · intro s hs
      obtain ⟨i, hi, e⟩ := List.getElem_of_mem hs
      exact (hl i s (by rw [List.getElem?_eq_getElem hi, e])).2.2.2
    · by_cases h0 : l = []
      · exact Or.inl h0
      · have hpos : 0 < l.length := List.length_pos_iff.2 h0
        obtain ⟨hsp, hbl, _⟩ := hl 0 l[0] (List.getElem?_eq_getElem hpos)
        have hsp' := hsp rfl
        obtain ⟨b, o, spt⟩ := a
        simp only at hsp' hbl
        subst hsp'
        exact Or.inr ⟨b, o, rfl, hbl, fun i s hi => (hl i s hi).2.2.1⟩

set_option maxRecDepth 100000 in
/-- WHAT CAN BE READ AS A SET LIES IN MEMORY AS A SET DOES. -/
theorem set_of_trod : ∀ (F fuel : Nat), fuel ≤ F → ∀ (c0 c1 c2 c3 c4 c5 : Value) (x : DataW H × List MemPlace), DataW.trod enc Try.prog w 0 sp held fuel 25 [c0, c1, c2, c3, c4, c5] = some x → ∃ s, LiesS w.heap.size w s [c0, c1, c2, c3, c4, c5]
  | 0, fuel, hF, c0, c1, c2, c3, c4, c5, x, h => by
    obtain rfl : fuel = 0 := by omega
    simp [DataW.trod] at h
  | F + 1, fuel, hF, c0, c1, c2, c3, c4, c5, x, h => by
    obtain ⟨xs, m, hm, _, _, hxl, hf⟩ := DataW.trod_struct Try.underlying25 h
    have e0 : DataW.trod enc Try.prog w 0 sp held m 3 (([c0, c1, c2, c3, c4, c5].drop 0).take (Try.prog.cellsOf 3)) = xs[0]? := hf 0 _ rfl
    have e1 : DataW.trod enc Try.prog w 0 sp held m 9 (([c0, c1, c2, c3, c4, c5].drop 1).take (Try.prog.cellsOf 9)) = xs[1]? := hf 1 _ rfl
    have e2 : DataW.trod enc Try.prog w 0 sp held m 22 (([c0, c1, c2, c3, c4, c5].drop 2).take (Try.prog.cellsOf 22)) = xs[2]? := hf 2 _ rfl
    have e3 : DataW.trod enc Try.prog w 0 sp held m 22 (([c0, c1, c2, c3, c4, c5].drop 3).take (Try.prog.cellsOf 22)) = xs[3]? := hf 3 _ rfl
    have e4 : DataW.trod enc Try.prog w 0 sp held m 9 (([c0, c1, c2, c3, c4, c5].drop 4).take (Try.prog.cellsOf 9)) = xs[4]? := hf 4 _ rfl
    have e5 : DataW.trod enc Try.prog w 0 sp held m 23 (([c0, c1, c2, c3, c4, c5].drop 5).take (Try.prog.cellsOf 23)) = xs[5]? := hf 5 _ rfl
    have hx6 : xs.length = 6 := hxl
    rw [List.getElem?_eq_getElem (by omega)] at e0 e1 e2 e3 e4 e5
    rw [cells1_3] at e0
    rw [cells1_9] at e1 e4
    rw [cells1_22] at e2 e3
    rw [cells1_23] at e5
    simp only [List.drop_zero, List.take_succ_cons, List.take_zero, List.drop_succ_cons] at e0 e1 e2 e3 e4 e5
    obtain ⟨k, hk, _, hwk⟩ := DataW.trod_int Try.underlying3 e0
    obtain ⟨na, hna, _, hnz⟩ := DataW.trod_string Try.underlying9 e1
    obtain ⟨a0, cap0, nn, hnn, hsn⟩ := strs_of_trod e2
    obtain ⟨a1, cap1, nas, hnas, hsa⟩ := strs_of_trod e3
    obtain ⟨pr, hpr, _, hpz⟩ := DataW.trod_string Try.underlying9 e4
    simp at hk hna hpr
    subst hk hna hpr hnn hnas
    have hbd := bounds_i64 hwk
    have hL : LiesL w.heap.size w ⟨k, na, nn, nas, pr⟩ a0 a1 := ⟨by simpa using hbd, hnz, hpz, hsn, hsa⟩
    rcases DataW.trod_slice Try.underlying23 e5 with ⟨hv, _⟩ | ⟨a, len, cap, elems, rest, n, hn, hv, _, _, hlc, hcm, hel, hall, _, _⟩
    · simp at hv
      subst hv
      exact ⟨.last ⟨k, na, nn, nas, pr⟩, a0, a1, none, cap0, cap1, 0, rfl, hL⟩
    · simp at hv
      subst hv
      cases len with
      | zero => exact ⟨.last ⟨k, na, nn, nas, pr⟩, a0, a1, some a, cap0, cap1, cap, rfl, hL⟩
      | succ len =>
        have h1 := hall 0 (by omega)
        rw [cells25, List.getElem?_eq_getElem (by omega)] at h1
        obtain ⟨cs, hcs, ht⟩ := Option.bind_eq_some_iff.1 h1
        obtain ⟨d0, d1, d2, d3, d4, d5, rfl, hs, hb, g0, g1, g2, g3, g4, g5⟩ := six_row hcs
        obtain ⟨s', hs'⟩ := set_of_trod F n (by omega) d0 d1 d2 d3 d4 d5 _ ht
        rw [(add_parts a _).1, (add_parts a _).2, Nat.zero_mul, Nat.add_zero] at g0 g1 g2 g3 g4 g5
        rw [(add_parts a _).1] at hb
        have hsp : a.spot = none := by simpa [Addr.add] using hs
        obtain ⟨b, o, spt⟩ := a
        simp only at hsp hb g0 g1 g2 g3 g4 g5
        subst hsp
        refine ⟨.more ⟨k, na, nn, nas, pr⟩ len s', a0, a1, b, o, cap0, cap1, cap, _, rfl, hL, by unfold maxLen at hcm; omega, hb, hs', ?_⟩
        intro i v hi
        match i, hi with
        | 0, hi => simp at hi; subst hi; exact g0
        | 1, hi => simp at hi; subst hi; exact g1
        | 2, hi => simp at hi; subst hi; exact g2
        | 3, hi => simp at hi; subst hi; exact g3
        | 4, hi => simp at hi; subst hi; exact g4
        | 5, hi => simp at hi; subst hi; exact g5
        | i + 6, hi => simp at hi
end
end Go.Proofs.Ytckiihbnjfeplaa
