/- Nodes that can be read lie in memory. -/
import Derived.Test.YtilcongilokppadRows
import Derived.Test.YtilcongilokppadMc
import Derived.Deep.DeepHandedRow
import Derived.Deep.DeepWitnessRowRef
import Derived.Lay
import Derived.SizedLaws
import Derived.ProofKit
import Derived.OpenShut
namespace Go.Proofs.Ytilcongilokppad
set_option linter.unusedVariables false
set_option linter.unusedSimpArgs false
open Go.ChangeShapes Go.WideShapes Go.ChangeAt Go.RowKit

theorem own : ownKnob Try.prog.godebug = none := by kernel_rfl
theorem laidOut : laidOutB Try.prog = true := by kernel_rfl
theorem pick_list {α : Type} (p : Nat → α → Prop) : ∀ (n : Nat), (∀ i, i < n → ∃ x, p i x) → ∃ l : List α, l.length = n ∧ ∀ i x, l[i]? = some x → p i x
  | 0, _ => ⟨[], rfl, by simp⟩
  | n + 1, h => by
    obtain ⟨l, hl, hp⟩ := pick_list p n (fun i hi => h i (by omega))
    obtain ⟨x, hx⟩ := h n (by omega)
    refine ⟨l ++ [x], by simp [hl], ?_⟩
    intro i y hy
    by_cases hi : i < n
    · rw [List.getElem?_append_left (by omega)] at hy
      exact hp i y hy
    · have hlen := (List.getElem?_eq_some_iff.1 hy).1
      simp at hlen
      obtain rfl : i = n := by omega
      rw [List.getElem?_append_right (by omega)] at hy
      simp [hl] at hy
      subst hy
      exact hx

/- What a reading's bulk bounds. -/
theorem bulk_pos {H : Type} (d : DataW H) : 1 ≤ Rows.uptoBulk d := by
  cases d with
  | lit l => cases l <;> simp [Rows.uptoBulk]
  | nil => simp [Rows.uptoBulk]
  | ptr d => simp [Rows.uptoBulk]
  | slice elems spare => simp [Rows.uptoBulk]
  | agg parts => simp [Rows.uptoBulk]
  | iface t d => simp [Rows.uptoBulk]
  | map entries => simp [Rows.uptoBulk]
  | held h => simp [Rows.uptoBulk]
theorem bulk_mem {H : Type} {d : DataW H} : ∀ {l : List (DataW H)}, d ∈ l → Rows.uptoBulk d ≤ Rows.uptoBulkAll l
  | [], h => by cases h
  | x :: r, h => by
    simp only [Rows.uptoBulkAll]
    rcases List.mem_cons.1 h with rfl | h
    · omega
    · have := bulk_mem h
      omega
theorem bulk_len {H : Type} : ∀ (l : List (DataW H)), l.length ≤ Rows.uptoBulkAll l
  | [] => by simp [Rows.uptoBulkAll]
  | x :: r => by
    have := bulk_len r
    have := bulk_pos x
    simp only [Rows.uptoBulkAll, List.length_cons]
    omega
theorem bulk_cost {H : Type} : ∀ (l : List Nd) (es : List (DataW H)), l.length = es.length → (∀ (i : Nat) (x : Nd), l[i]? = some x → ∀ d, es[i]? = some d → x.needs.length ≤ Rows.uptoBulk d) → cost l ≤ Rows.uptoBulkAll es
  | [], es, _, _ => by simp [cost]
  | x :: l, [], h, _ => by simp at h
  | x :: l, d :: es, h, hp => by
    have h1 := bulk_cost l es (by simpa using h) (fun i y hy d hd => hp (i + 1) y (by simpa using hy) d (by simpa using hd))
    have h2 := hp 0 x rfl d rfl
    simp only [cost, List.map_cons, List.sum_cons, Rows.uptoBulkAll] at h1 ⊢
    omega

theorem cells32 : Try.prog.cellsOf 32 = 2 := by kernel_rfl
theorem cells1_9 : Try.prog.cellsOf 9 = 1 := by kernel_rfl
theorem cells1_23 : Try.prog.cellsOf 23 = 1 := by kernel_rfl
theorem add_parts (a : Addr) (j : Nat) : (a.add j).block = a.block ∧ (a.add j).off = a.off + j := by
  unfold Addr.add
  split
  · rename_i h; rw [h]; exact ⟨rfl, rfl⟩
  · exact ⟨rfl, rfl⟩
theorem one_cell {w : World} {a : Addr} {cs : List Value} (h : w.cells? 0 a 1 = some cs) : ∃ c0, cs = [c0] ∧ a.spot = none ∧ a.block < w.heap.size ∧ w.cell? ⟨a.block, a.off, none⟩ = some c0 := by
  unfold World.cells? at h
  rw [if_pos (Nat.zero_le _)] at h
  simp only [show List.range 1 = [0] from rfl, List.mapM_cons, List.mapM_nil, Option.bind_eq_bind, Option.bind_eq_some_iff, Option.pure_def, Option.some.injEq] at h
  obtain ⟨c0, h0, _, rfl, rfl⟩ := h
  have hs : a.spot = none := by simpa [Addr.add] using World.cell?_spot h0
  obtain ⟨b, o, sp⟩ := a
  simp only at hs
  subst hs
  simp only [Addr.add] at h0
  exact ⟨c0, rfl, rfl, World.block_lt_of_cell? _ _ h0, h0⟩
theorem two_row {w : World} {a : Addr} {cs : List Value} (h : w.cells? 0 a 2 = some cs) : ∃ c0 c1, cs = [c0, c1] ∧ a.spot = none ∧ a.block < w.heap.size ∧
    w.cell? ⟨a.block, a.off, none⟩ = some c0 ∧ w.cell? ⟨a.block, a.off + 1, none⟩ = some c1 := by
  unfold World.cells? at h
  rw [if_pos (Nat.zero_le _)] at h
  simp only [show List.range 2 = [0, 1] from rfl, List.mapM_cons, List.mapM_nil, Option.bind_eq_bind, Option.bind_eq_some_iff, Option.pure_def, Option.some.injEq] at h
  obtain ⟨c0, h0, _, ⟨c1, h1, _, rfl, rfl⟩, rfl⟩ := h
  have hs : a.spot = none := by simpa [Addr.add] using World.cell?_spot h0
  obtain ⟨b, o, sp⟩ := a
  simp only at hs
  subst hs
  simp only [Addr.add] at h0 h1
  exact ⟨c0, c1, rfl, rfl, World.block_lt_of_cell? _ _ h0, h0, h1⟩

section
variable {H : Type} {enc : TypeId × Value → H} {w : World} {sp : Nat → Bool} {held : Bool}

theorem str_bulk {s : ByteArray} : s.size ≤ Rows.uptoBulk (DataW.lit (.string s.data.toList) : DataW H) := by
  have e : s.size = s.data.toList.length := (Array.length_toList (xs := s.data)).symm
  simp only [Rows.uptoBulk]
  omega

theorem strs_of_trod {fuel : Nat} {v : Value} {x : DataW H × List MemPlace} (h : DataW.trod enc Try.prog w 0 sp held fuel 23 [v] = some x) :
    ∃ (a : Option Addr) (cap : Nat) (l : List ByteArray), v = .slice a l.length cap ∧ Strs w.heap.size w a l ∧ l.length ≤ Rows.uptoBulk x.1 ∧ ∀ s ∈ l, s.size ≤ Rows.uptoBulk x.1 := by
  rcases DataW.trod_slice Try.underlying23 h with ⟨hv, _⟩ | ⟨a, len, cap, elems, rest, n, hn, hv, hx, _, hlc, hcm, hel, hall, _, _⟩
  · simp at hv
    exact ⟨none, 0, [], hv, Strs.nil _ _ _, by simp, by simp⟩
  · simp at hv
    have key : ∀ i, i < len → ∃ s : ByteArray, (i = 0 → a.spot = none) ∧ a.block < w.heap.size ∧ w.cell? ⟨a.block, a.off + i, none⟩ = some (.string s) ∧ s.size ≤ maxLen ∧ s.size ≤ Rows.uptoBulk x.1 := by
      intro i hi
      have h1 := hall i hi
      rw [cells1_9, List.getElem?_eq_getElem (by omega)] at h1
      obtain ⟨cs, hcs, ht⟩ := Option.bind_eq_some_iff.1 h1
      obtain ⟨c0, rfl, hs, hb, g0⟩ := one_cell hcs
      obtain ⟨s, hsn, hsx, hsz⟩ := DataW.trod_string Try.underlying9 ht
      simp at hsn
      subst hsn
      rw [(add_parts a _).1, (add_parts a _).2, Nat.mul_one] at g0
      rw [(add_parts a _).1] at hb
      have hle : Rows.uptoBulk (elems[i]'(by omega)).1 ≤ Rows.uptoBulk x.1 := by
        rw [hx]
        have := bulk_mem (List.mem_map.2 ⟨elems[i]'(by omega), List.getElem_mem (by omega), rfl⟩ : (elems[i]'(by omega)).1 ∈ elems.map (·.1))
        simp only [Rows.uptoBulk]
        omega
      have hsb : s.size ≤ Rows.uptoBulk (elems[i]'(by omega)).1 := by rw [hsx]; exact str_bulk
      refine ⟨s, ?_, hb, g0, hsz, by omega⟩
      intro h0
      subst h0
      simpa [Addr.add] using hs
    obtain ⟨l, hll, hl⟩ := pick_list _ len key
    have hall2 : ∀ s ∈ l, s.size ≤ maxLen ∧ s.size ≤ Rows.uptoBulk x.1 := by
      intro s hs
      obtain ⟨i, hi, e⟩ := List.getElem_of_mem hs
      exact (hl i s (by rw [List.getElem?_eq_getElem hi, e])).2.2.2
    refine ⟨some a, cap, l, by rw [hv, hll], ⟨by unfold maxLen at hcm; omega, fun s hs => (hall2 s hs).1, ?_⟩, ?_, fun s hs => (hall2 s hs).2⟩
    · by_cases h0 : l = []
      · exact Or.inl h0
      · have hpos : 0 < l.length := List.length_pos_iff.2 h0
        obtain ⟨hsp, hbl, _⟩ := hl 0 l[0] (List.getElem?_eq_getElem hpos)
        have hsp' := hsp rfl
        obtain ⟨b, o, spt⟩ := a
        simp only at hsp' hbl
        subst hsp'
        exact Or.inr ⟨b, o, rfl, hbl, fun i s hi => (hl i s hi).2.2.1⟩
    · rw [hll, hx, ← hel]
      have := bulk_len (elems.map (·.1))
      rw [List.length_map] at this
      simp only [Rows.uptoBulk]
      omega

theorem node_of_trod {fuel : Nat} {c0 c1 : Value} {x : DataW H × List MemPlace} (h : DataW.trod enc Try.prog w 0 sp held fuel 32 [c0, c1] = some x) :
    ∃ (nd : Nd) (a : Option Addr) (cap : Nat), c0 = .string nd.name ∧ c1 = .slice a nd.needs.length cap ∧ Strs w.heap.size w a nd.needs ∧ nd.name.size ≤ Rows.uptoBulk x.1 ∧ nd.needs.length ≤ Rows.uptoBulk x.1 ∧ ∀ s ∈ nd.needs, s.size ≤ Rows.uptoBulk x.1 := by
  obtain ⟨xs, m, hm, hx, _, hxl, hf⟩ := DataW.trod_struct Try.underlying32 h
  have e0 : DataW.trod enc Try.prog w 0 sp held m 9 (([c0, c1].drop 0).take (Try.prog.cellsOf 9)) = xs[0]? := hf 0 _ rfl
  have e1 : DataW.trod enc Try.prog w 0 sp held m 23 (([c0, c1].drop 1).take (Try.prog.cellsOf 23)) = xs[1]? := hf 1 _ rfl
  have hx2 : xs.length = 2 := hxl
  rw [List.getElem?_eq_getElem (by omega)] at e0 e1
  rw [cells1_9] at e0
  rw [cells1_23] at e1
  simp only [List.drop_zero, List.take_succ_cons, List.take_zero, List.drop_succ_cons] at e0 e1
  obtain ⟨s0, h0, k0, _⟩ := DataW.trod_string Try.underlying9 e0
  simp at h0
  obtain ⟨a, cap, l, h1, hst, hlen, hsz⟩ := strs_of_trod e1
  subst hx
  have key : ∀ (i : Nat) (hi : i < xs.length), Rows.uptoBulk (xs[i]).1 ≤ Rows.uptoBulk (DataW.agg (xs.map (·.1))) := by
    intro i hi
    have := bulk_mem (List.mem_map.2 ⟨xs[i], List.getElem_mem hi, rfl⟩ : (xs[i]).1 ∈ xs.map (·.1))
    simp only [Rows.uptoBulk]
    omega
  have q0 := key 0 (by omega)
  have q1 := key 1 (by omega)
  have b0 : s0.size ≤ Rows.uptoBulk (xs[0]'(by omega)).1 := by rw [k0]; exact str_bulk
  exact ⟨⟨s0, l⟩, a, cap, h0, h1, hst, Nat.le_trans b0 q0, Nat.le_trans hlen q1, fun s hs => Nat.le_trans (hsz s hs) q1⟩

theorem nodes_of_trod {fuel : Nat} {v : Value} {x : DataW H × List MemPlace} (h : DataW.trod enc Try.prog w 0 sp held fuel 22 [v] = some x) (hbulk : Rows.uptoBulk x.1 ≤ 1048576) :
    ∃ (a : Option Addr) (cap : Nat) (l : List Nd), v = .slice a l.length cap ∧ Nds w.heap.size w a l ∧ cost l ≤ 1048576 := by
  rcases DataW.trod_slice Try.underlying22 h with ⟨hv, _⟩ | ⟨a, len, cap, elems, rest, n, hn, hv, hx, _, hlc, hcm, hel, hall, _, _⟩
  · simp at hv
    exact ⟨none, 0, [], hv, ⟨by simp, by simp, Or.inl rfl⟩, by simp [cost]⟩
  · simp at hv
    have hlb : len ≤ Rows.uptoBulk x.1 := by
      rw [hx, ← hel]
      have := bulk_len (elems.map (·.1))
      rw [List.length_map] at this
      simp only [Rows.uptoBulk]
      omega
    have key : ∀ i, i < len → ∃ nd : Nd, (i = 0 → a.spot = none) ∧ a.block < w.heap.size ∧ (w.cell? ⟨a.block, a.off + i * 2, none⟩ = some (.string nd.name) ∧ ∃ na nc, w.cell? ⟨a.block, a.off + i * 2 + 1, none⟩ = some (.slice na nd.needs.length nc) ∧ Strs w.heap.size w na nd.needs) ∧
        (∀ d, (elems.map (·.1))[i]? = some d → nd.name.size ≤ Rows.uptoBulk d ∧ nd.needs.length ≤ Rows.uptoBulk d ∧ ∀ s ∈ nd.needs, s.size ≤ Rows.uptoBulk d) := by
      intro i hi
      have h1 := hall i hi
      rw [cells32, List.getElem?_eq_getElem (by omega)] at h1
      obtain ⟨cs, hcs, ht⟩ := Option.bind_eq_some_iff.1 h1
      obtain ⟨c0, c1, rfl, hs, hb, g0, g1⟩ := two_row hcs
      obtain ⟨nd, na, nc, rfl, rfl, hst, b0, b1, b2⟩ := node_of_trod ht
      rw [(add_parts a _).1, (add_parts a _).2] at g0 g1
      rw [(add_parts a _).1] at hb
      refine ⟨nd, ?_, hb, ⟨g0, na, nc, g1, hst⟩, fun d hd => ?_⟩
      · intro h0
        subst h0
        simpa [Addr.add] using hs
      · rw [List.getElem?_map, List.getElem?_eq_getElem (by omega)] at hd
        simp at hd
        subst hd
        exact ⟨b0, b1, b2⟩
    obtain ⟨l, hll, hl⟩ := pick_list _ len key
    have hle : ∀ (i : Nat) (d : DataW H), (elems.map (·.1))[i]? = some d → Rows.uptoBulk d ≤ Rows.uptoBulk x.1 := by
      intro i d hd
      rw [hx]
      have := bulk_mem (List.mem_of_getElem? hd)
      simp only [Rows.uptoBulk]
      omega
    refine ⟨some a, cap, l, by rw [hv, hll], ⟨by omega, ?_, ?_⟩, ?_⟩
    · intro nd hnd
      obtain ⟨i, hi⟩ := List.mem_iff_getElem?.1 hnd
      have hil := (List.getElem?_eq_some_iff.1 hi).1
      have hd : (elems.map (·.1))[i]? = some (elems[i]'(by omega)).1 := by rw [List.getElem?_map, List.getElem?_eq_getElem (by omega)]; rfl
      obtain ⟨q0, q1, q2⟩ := (hl i nd hi).2.2.2 _ hd
      have := hle i _ hd
      exact ⟨by omega, by omega, fun s hs => by have := q2 s hs; omega⟩
    · by_cases h0 : l = []
      · exact Or.inl h0
      · have hpos : 0 < l.length := List.length_pos_iff.2 h0
        obtain ⟨hsp, hbl, _⟩ := hl 0 l[0] (List.getElem?_eq_getElem hpos)
        have hsp' := hsp rfl
        obtain ⟨b, o, spt⟩ := a
        simp only at hsp' hbl
        subst hsp'
        exact Or.inr ⟨b, o, rfl, hbl, fun i s hi => (hl i s hi).2.2.1⟩
    · have h1 := bulk_cost l (elems.map (·.1)) (by rw [hll, List.length_map, hel]) (fun i y hy d hd => ((hl i y hy).2.2.2 d hd).2.1)
      have h2 : Rows.uptoBulkAll (elems.map (·.1)) ≤ Rows.uptoBulk x.1 := by
        rw [hx]
        simp only [Rows.uptoBulk]
        omega
      omega
end
end Go.Proofs.Ytilcongilokppad
