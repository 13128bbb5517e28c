/- What can be read lies in memory, and how much it is at most. -/
import Derived.Test.YtckiihbnjfeplaaRows
import Derived.Test.YtckiihbnjfeplaaYb
import Derived.Test.YtckiihbnjfeplaaFj
import Derived.Test.YtckiihbnjfeplaaZa
namespace Go.Proofs.Ytckiihbnjfeplaa
set_option linter.unusedVariables false
set_option linter.unusedSimpArgs false
open Go.ChangeShapes Go.WideShapes Go.ChangeAt Go.RowKit

/- What a reading's bulk bounds. -/
theorem bulk_pos {H : Type} (d : DataW H) : 1 ≤ Rows.uptoBulk d := by
  cases d with
  | lit l => cases l <;> simp [Rows.uptoBulk]
  | nil => simp [Rows.uptoBulk]
  | ptr d => simp [Rows.uptoBulk]
  | slice elems spare => simp [Rows.uptoBulk]
  | agg parts => simp [Rows.uptoBulk]
  | iface t d => simp [Rows.uptoBulk]
  | map entries => simp [Rows.uptoBulk]
  | held h => simp [Rows.uptoBulk]
theorem bulk_mem {H : Type} {d : DataW H} : ∀ {l : List (DataW H)}, d ∈ l → Rows.uptoBulk d ≤ Rows.uptoBulkAll l
  | [], h => by cases h
  | x :: r, h => by
    simp only [Rows.uptoBulkAll]
    rcases List.mem_cons.1 h with rfl | h
    · omega
    · have := bulk_mem h
      omega
theorem bulk_len {H : Type} : ∀ (l : List (DataW H)), l.length ≤ Rows.uptoBulkAll l
  | [] => by simp [Rows.uptoBulkAll]
  | x :: r => by
    have := bulk_len r
    have := bulk_pos x
    simp only [Rows.uptoBulkAll, List.length_cons]
    omega

theorem cells60 : Try.prog.cellsOf 53 = 3 := by kernel_rfl

theorem three_row {w : World} {a : Addr} {cs : List Value} (h : w.cells? 0 a 3 = some cs) : ∃ c0 c1 c2, cs = [c0, c1, c2] ∧ a.spot = none ∧ a.block < w.heap.size ∧
    w.cell? ⟨a.block, a.off, none⟩ = some c0 ∧ w.cell? ⟨a.block, a.off + 1, none⟩ = some c1 ∧ w.cell? ⟨a.block, a.off + 2, none⟩ = some c2 := by
  unfold World.cells? at h
  rw [if_pos (Nat.zero_le _)] at h
  simp only [show List.range 3 = [0, 1, 2] from rfl, List.mapM_cons, List.mapM_nil, Option.bind_eq_bind, Option.bind_eq_some_iff, Option.pure_def, Option.some.injEq] at h
  obtain ⟨c0, h0, _, ⟨c1, h1, _, ⟨c2, h2, _, rfl, rfl⟩, rfl⟩, rfl⟩ := h
  have hs : a.spot = none := by simpa [Addr.add] using World.cell?_spot h0
  obtain ⟨b, o, sp⟩ := a
  simp only at hs
  subst hs
  simp only [Addr.add] at h0 h1 h2
  exact ⟨c0, c1, c2, rfl, rfl, World.block_lt_of_cell? _ _ h0, h0, h1, h2⟩

section
variable {H : Type} {enc : TypeId × Value → H} {w : World} {sp : Nat → Bool} {held : Bool}

theorem bind_of_trod {fuel : Nat} {c0 c1 c2 : Value} {x : DataW H × List MemPlace} (h : DataW.trod enc Try.prog w 0 sp held fuel 53 [c0, c1, c2] = some x) :
    ∃ p : Bd, c0 = .string p.1 ∧ c1 = .string p.2.1 ∧ c2 = .string p.2.2 ∧ p.1.size ≤ Rows.uptoBulk x.1 ∧ p.2.1.size ≤ Rows.uptoBulk x.1 ∧ p.2.2.size ≤ Rows.uptoBulk x.1 := by
  obtain ⟨xs, m, hm, hx, _, hxl, hf⟩ := DataW.trod_struct Try.underlying53 h
  have e0 : DataW.trod enc Try.prog w 0 sp held m 9 (([c0, c1, c2].drop 0).take (Try.prog.cellsOf 9)) = xs[0]? := hf 0 _ rfl
  have e1 : DataW.trod enc Try.prog w 0 sp held m 9 (([c0, c1, c2].drop 1).take (Try.prog.cellsOf 9)) = xs[1]? := hf 1 _ rfl
  have e2 : DataW.trod enc Try.prog w 0 sp held m 9 (([c0, c1, c2].drop 2).take (Try.prog.cellsOf 9)) = xs[2]? := hf 2 _ rfl
  have hx3 : xs.length = 3 := hxl
  rw [List.getElem?_eq_getElem (by omega)] at e0 e1 e2
  rw [cells1_9] at e0 e1 e2
  simp only [List.drop_zero, List.take_succ_cons, List.take_zero, List.drop_succ_cons] at e0 e1 e2
  obtain ⟨s0, h0, k0, _⟩ := DataW.trod_string Try.underlying9 e0
  obtain ⟨s1, h1, k1, _⟩ := DataW.trod_string Try.underlying9 e1
  obtain ⟨s2, h2, k2, _⟩ := DataW.trod_string Try.underlying9 e2
  simp at h0 h1 h2
  subst hx
  have key : ∀ (i : Nat) (hi : i < xs.length) (s : ByteArray), xs[i] = (.lit (.string s.data.toList), []) → s.size ≤ Rows.uptoBulk (DataW.agg (xs.map (·.1))) := by
    intro i hi s hs
    have hmem : (DataW.lit (.string s.data.toList) : DataW H) ∈ xs.map (·.1) := List.mem_map.2 ⟨xs[i], List.getElem_mem hi, by rw [hs]⟩
    have := bulk_mem hmem
    have e : s.size = s.data.toList.length := (Array.length_toList (xs := s.data)).symm
    simp only [Rows.uptoBulk] at this ⊢
    omega
  exact ⟨(s0, s1, s2), h0, h1, h2, key 0 (by omega) s0 k0, key 1 (by omega) s1 k1, key 2 (by omega) s2 k2⟩

theorem binds_of_trod {fuel : Nat} {v : Value} {x : DataW H × List MemPlace} (h : DataW.trod enc Try.prog w 0 sp held fuel 26 [v] = some x) :
    ∃ (a : Option Addr) (cap : Nat) (l : List Bd), v = .slice a l.length cap ∧ Bns w.heap.size w a l ∧ l.length ≤ Rows.uptoBulk x.1 ∧ ∀ p ∈ l, p.1.size ≤ Rows.uptoBulk x.1 ∧ p.2.1.size ≤ Rows.uptoBulk x.1 ∧ p.2.2.size ≤ Rows.uptoBulk x.1 := by
  rcases DataW.trod_slice Try.underlying26 h with ⟨hv, _⟩ | ⟨a, len, cap, elems, rest, n, hn, hv, hx, _, hlc, hcm, hel, hall, _, _⟩
  · simp at hv
    exact ⟨none, 0, [], hv, ⟨by simp, Or.inl rfl⟩, by simp, by simp⟩
  · simp at hv
    have key : ∀ i, i < len → ∃ p : Bd, (i = 0 → a.spot = none) ∧ a.block < w.heap.size ∧ (w.cell? ⟨a.block, a.off + i * 3, none⟩ = some (.string p.1) ∧ w.cell? ⟨a.block, a.off + i * 3 + 1, none⟩ = some (.string p.2.1) ∧ w.cell? ⟨a.block, a.off + i * 3 + 2, none⟩ = some (.string p.2.2)) ∧
        p.1.size ≤ Rows.uptoBulk x.1 ∧ p.2.1.size ≤ Rows.uptoBulk x.1 ∧ p.2.2.size ≤ Rows.uptoBulk x.1 := by
      intro i hi
      have h1 := hall i hi
      rw [cells60, List.getElem?_eq_getElem (by omega)] at h1
      obtain ⟨cs, hcs, ht⟩ := Option.bind_eq_some_iff.1 h1
      obtain ⟨c0, c1, c2, rfl, hs, hb, g0, g1, g2⟩ := three_row hcs
      obtain ⟨p, rfl, rfl, rfl, b0, b1, b2⟩ := bind_of_trod ht
      rw [(add_parts a _).1, (add_parts a _).2] at g0 g1 g2
      rw [(add_parts a _).1] at hb
      have hle : Rows.uptoBulk (elems[i]'(by omega)).1 ≤ Rows.uptoBulk x.1 := by
        rw [hx]
        have := bulk_mem (List.mem_map.2 ⟨elems[i]'(by omega), List.getElem_mem (by omega), rfl⟩ : (elems[i]'(by omega)).1 ∈ elems.map (·.1))
        simp only [Rows.uptoBulk]
        omega
      refine ⟨p, ?_, hb, ⟨g0, g1, g2⟩, by omega, by omega, by omega⟩
      intro h0
      subst h0
      simpa [Addr.add] using hs
    obtain ⟨l, hll, hl⟩ := pick_list _ len key
    refine ⟨some a, cap, l, by rw [hv, hll], ⟨by unfold maxLen at hcm; omega, ?_⟩, ?_, ?_⟩
    · by_cases h0 : l = []
      · exact Or.inl h0
      · have hpos : 0 < l.length := List.length_pos_iff.2 h0
        obtain ⟨hsp, hbl, _⟩ := hl 0 l[0] (List.getElem?_eq_getElem hpos)
        have hsp' := hsp rfl
        obtain ⟨b, o, spt⟩ := a
        simp only at hsp' hbl
        subst hsp'
        exact Or.inr ⟨b, o, rfl, hbl, fun i s hi => (hl i s hi).2.2.1⟩
    · rw [hll, hx, ← hel]
      have := bulk_len (elems.map (·.1))
      rw [List.length_map] at this
      simp only [Rows.uptoBulk]
      omega
    · intro p hp
      obtain ⟨i, hi, e⟩ := List.getElem_of_mem hp
      exact (hl i p (by rw [List.getElem?_eq_getElem hi, e])).2.2.2
end


section
variable {H : Type} {enc : TypeId × Value → H} {w : World} {sp : Nat → Bool} {held : Bool}
set_option maxRecDepth 100000 in
theorem set_of_trodU : ∀ (F fuel : Nat), fuel ≤ F → ∀ (c0 c1 c2 c3 c4 c5 : Value) (x : DataW H × List MemPlace), DataW.trod enc Try.prog w 0 sp held fuel 25 [c0, c1, c2, c3, c4, c5] = some x → Rows.uptoBulk x.1 ≤ 1048576 → ∃ s, LiesS w.heap.size w s [c0, c1, c2, c3, c4, c5] ∧ depS s < Rows.uptoBulk x.1 ∧ SmallS s
  | 0, fuel, hF, c0, c1, c2, c3, c4, c5, x, h, hbk => by
    obtain rfl : fuel = 0 := by omega
    simp [DataW.trod] at h
  | F + 1, fuel, hF, c0, c1, c2, c3, c4, c5, x, h, hbk => by
    obtain ⟨xs, m, hm, hx, _, hxl, hf⟩ := DataW.trod_struct Try.underlying25 h
    have e0 : DataW.trod enc Try.prog w 0 sp held m 3 (([c0, c1, c2, c3, c4, c5].drop 0).take (Try.prog.cellsOf 3)) = xs[0]? := hf 0 _ rfl
    have e1 : DataW.trod enc Try.prog w 0 sp held m 9 (([c0, c1, c2, c3, c4, c5].drop 1).take (Try.prog.cellsOf 9)) = xs[1]? := hf 1 _ rfl
    have e2 : DataW.trod enc Try.prog w 0 sp held m 22 (([c0, c1, c2, c3, c4, c5].drop 2).take (Try.prog.cellsOf 22)) = xs[2]? := hf 2 _ rfl
    have e3 : DataW.trod enc Try.prog w 0 sp held m 22 (([c0, c1, c2, c3, c4, c5].drop 3).take (Try.prog.cellsOf 22)) = xs[3]? := hf 3 _ rfl
    have e4 : DataW.trod enc Try.prog w 0 sp held m 9 (([c0, c1, c2, c3, c4, c5].drop 4).take (Try.prog.cellsOf 9)) = xs[4]? := hf 4 _ rfl
    have e5 : DataW.trod enc Try.prog w 0 sp held m 23 (([c0, c1, c2, c3, c4, c5].drop 5).take (Try.prog.cellsOf 23)) = xs[5]? := hf 5 _ rfl
    have hx6 : xs.length = 6 := hxl
    rw [List.getElem?_eq_getElem (by omega)] at e0 e1 e2 e3 e4 e5
    rw [cells1_3] at e0
    rw [cells1_9] at e1 e4
    rw [cells1_22] at e2 e3
    rw [cells1_23] at e5
    simp only [List.drop_zero, List.take_succ_cons, List.take_zero, List.drop_succ_cons] at e0 e1 e2 e3 e4 e5
    obtain ⟨k, hk, _, hwk⟩ := DataW.trod_int Try.underlying3 e0
    obtain ⟨na, hna, hnx, hnz⟩ := DataW.trod_string Try.underlying9 e1
    obtain ⟨a0, cap0, nn, hnn, hsn⟩ := strs_of_trod e2
    obtain ⟨a1, cap1, nas, hnas, hsa⟩ := strs_of_trod e3
    obtain ⟨pr, hpr, _, hpz⟩ := DataW.trod_string Try.underlying9 e4
    simp at hk hna hpr
    subst hk hna hpr hnn hnas
    have key : ∀ (i : Nat) (hi : i < xs.length), Rows.uptoBulk (xs[i]).1 < Rows.uptoBulk x.1 := by
      intro i hi
      rw [hx]
      have := bulk_mem (List.mem_map.2 ⟨xs[i], List.getElem_mem hi, rfl⟩ : (xs[i]).1 ∈ xs.map (·.1))
      simp only [Rows.uptoBulk]
      omega
    have hnb : na.size ≤ 1048576 := by
      have q := key 1 (by omega)
      rw [hnx] at q
      have e : na.size = na.data.toList.length := (Array.length_toList (xs := na.data)).symm
      simp only [Rows.uptoBulk] at q hbk ⊢
      omega
    have hpos : 0 < Rows.uptoBulk x.1 := by have := key 0 (by omega); omega
    have hbd := bounds_i64 hwk
    have hL : LiesL w.heap.size w ⟨k, na, nn, nas, pr⟩ a0 a1 := ⟨by simpa using hbd, hnz, hpz, hsn, hsa⟩
    rcases DataW.trod_slice Try.underlying23 e5 with ⟨hv, _⟩ | ⟨a, len, cap, elems, rest, n, hn, hv, hx5, _, hlc, hcm, hel, hall, _, _⟩
    · simp at hv
      subst hv
      exact ⟨.last ⟨k, na, nn, nas, pr⟩, ⟨a0, a1, none, cap0, cap1, 0, rfl, hL⟩, hpos, hnb⟩
    · simp at hv
      subst hv
      cases len with
      | zero => exact ⟨.last ⟨k, na, nn, nas, pr⟩, ⟨a0, a1, some a, cap0, cap1, cap, rfl, hL⟩, hpos, hnb⟩
      | succ len =>
        have h1 := hall 0 (by omega)
        rw [cells25, List.getElem?_eq_getElem (by omega)] at h1
        obtain ⟨cs, hcs, ht⟩ := Option.bind_eq_some_iff.1 h1
        obtain ⟨d0, d1, d2, d3, d4, d5, rfl, hs, hb, g0, g1, g2, g3, g4, g5⟩ := six_row hcs
        have q5 := key 5 (by omega)
        have q0 : Rows.uptoBulk (elems[0]'(by omega)).1 ≤ Rows.uptoBulk (xs[5]'(by omega)).1 := by
          rw [hx5]
          have := bulk_mem (List.mem_map.2 ⟨elems[0]'(by omega), List.getElem_mem (by omega), rfl⟩ : (elems[0]'(by omega)).1 ∈ elems.map (·.1))
          simp only [Rows.uptoBulk]
          omega
        obtain ⟨s', hs', hds, hsm⟩ := set_of_trodU F n (by omega) d0 d1 d2 d3 d4 d5 _ ht (by omega)
        rw [(add_parts a _).1, (add_parts a _).2, Nat.zero_mul, Nat.add_zero] at g0 g1 g2 g3 g4 g5
        rw [(add_parts a _).1] at hb
        have hsp : a.spot = none := by simpa [Addr.add] using hs
        obtain ⟨b, o, spt⟩ := a
        simp only at hsp hb g0 g1 g2 g3 g4 g5
        subst hsp
        refine ⟨.more ⟨k, na, nn, nas, pr⟩ len s', ⟨a0, a1, b, o, cap0, cap1, cap, _, rfl, hL, by unfold maxLen at hcm; omega, hb, hs', ?_⟩, by simp only [depS]; omega, hnb, hsm⟩
        intro i v hi
        match i, hi with
        | 0, hi => simp at hi; subst hi; exact g0
        | 1, hi => simp at hi; subst hi; exact g1
        | 2, hi => simp at hi; subst hi; exact g2
        | 3, hi => simp at hi; subst hi; exact g3
        | 4, hi => simp at hi; subst hi; exact g4
        | 5, hi => simp at hi; subst hi; exact g5
        | i + 6, hi => simp at hi
end
end Go.Proofs.Ytckiihbnjfeplaa
