/- From the rows' conditions to what the walks ask: texts, rule set. From the rows' conditions to what the walks ask: rules. From the rows' conditions to what the walks ask: no list is too long to be copied. -/
import Derived.Test.YtgeedaabdonjcaeGreatDoorK43
import Derived.Test.YtgeedaabdonjcaeGreatDoorK44
namespace Go.Proofs.YtgeedaabdonjcaeGreatDoor
section
set_option linter.unusedVariables false
set_option linter.unusedSimpArgs false
open Go.ChangeShapes Go.WideShapes Go.ChangeAt Go.RowKit

theorem own : ownKnob Tryz.prog.godebug = none := by kernel_rfl
theorem laidOut : laidOutB Tryz.prog = true := by kernel_rfl
theorem array6 {α : Type} {cs : Array α} (h : cs.size = 6) : ∃ a b c d e f, cs = #[a, b, c, d, e, f] := by
  obtain ⟨l⟩ := cs
  match l, h with
  | [a, b, c, d, e, f], _ => exact ⟨a, b, c, d, e, f, rfl⟩
theorem array2 {α : Type} {cs : Array α} (h : cs.size = 2) : ∃ a b, cs = #[a, b] := by
  obtain ⟨l⟩ := cs
  match l, h with
  | [a, b], _ => exact ⟨a, b, rfl⟩
theorem int_of {P : Program} {t : TypeId} {w : World} {r : Reach} {base : Nat} {v : Value} (ht : P.underlying t = some (.int .i64)) (h : Value.okWide P w r base t v) : ∃ n, v = .int .i64 n := okWide_int ht h
theorem cells25 : Tryz.prog.cellsOf 25 = 2 := by kernel_rfl
theorem cells43 : Tryz.prog.cellsOf 43 = 12 := by kernel_rfl
theorem cells1_22 : Tryz.prog.cellsOf 22 = 1 := by kernel_rfl
theorem cells1_23 : Tryz.prog.cellsOf 23 = 1 := by kernel_rfl
theorem bytes43 : Tryz.prog.bytesOf 43 = 144 := by kernel_rfl

/-- A text among the arguments. -/
theorem str_of {H : Type} {enc : TypeId × Value → H} {W : World} {s : ByteArray} {sp : Nat → Bool} {held : Bool} {fuel : Nat} {x : DataW H × List MemPlace} (h : DataW.trod enc Tryz.prog W 0 sp held fuel 9 [.string s] = some x) (hl : Lt 9 x.1) : s.size ≤ maxLen ∧ s.size ≤ 281474976710656 := by
  obtain ⟨s', hs, hx, hm⟩ := DataW.trod_string Tryz.underlying9 h
  simp at hs
  subst hs
  refine ⟨hm, ?_⟩
  have := hl s.data.toList.length (by rw [hx]; simp [DataW.weights])
  have h2 := reachBytes_lt
  have h3 : s.data.toList.length = s.size := Array.length_toList
  omega

/-- Texts that can be read lie in memory. -/
theorem strs_of_trod {H : Type} {enc : TypeId × Value → H} {w : World} {sp : Nat → Bool} {held : Bool} {fuel : Nat} {v : Value} {x : DataW H × List MemPlace} (h : DataW.trod enc Tryz.prog w 0 sp held fuel 22 [v] = some x) :
    ∃ (a : Option Addr) (cap : Nat) (l : List ByteArray), v = .slice a l.length cap ∧ l.length ≤ cap ∧ Strs w.heap.size w a l := by
  rcases DataW.trod_slice Tryz.underlying22 h with ⟨hv, _⟩ | ⟨a, len, cap, elems, rest, n, hn, hv, rfl, _, hlc, hcm, hel, hall, _, _⟩
  · simp at hv
    exact ⟨none, 0, [], hv, Nat.le_refl _, Strs.none _ _ _⟩
  · simp at hv
    have key : ∀ i, i < len → ∃ s : ByteArray, (i = 0 → a.spot = none) ∧ a.block < w.heap.size ∧ w.cell? ⟨a.block, a.off + i, none⟩ = some (.string s) ∧ s.size ≤ maxLen := by
      intro i hi
      have h1 := hall i hi
      rw [cells1_9, List.getElem?_eq_getElem (by omega), Nat.mul_one] at h1
      obtain ⟨cs, hcs, ht⟩ := Option.bind_eq_some_iff.1 h1
      unfold World.cells? at hcs
      rw [if_pos (Nat.zero_le _)] at hcs
      simp only [show List.range 1 = [0] from rfl, List.mapM_cons, List.mapM_nil, Option.bind_eq_bind, Option.bind_eq_some_iff, Option.pure_def, Option.some.injEq] at hcs
      obtain ⟨c0, g0, _, rfl, rfl⟩ := hcs
      obtain ⟨s, hs, _, hsz⟩ := DataW.trod_string Tryz.underlying9 ht
      simp at hs
      subst hs
      have hsp := World.cell?_spot g0
      have hadd : (a.add i).block = a.block ∧ (a.add i).off = a.off + i := by
        unfold Addr.add
        split
        · rename_i h; rw [h]; exact ⟨rfl, rfl⟩
        · exact ⟨rfl, rfl⟩
      have hz : ((a.add i).add 0) = a.add i := by
        unfold Addr.add
        split <;> split <;> simp_all
      rw [hz] at g0 hsp
      obtain ⟨b, o, spt⟩ := a
      have hsp2 : (Addr.add ⟨b, o, spt⟩ i) = ⟨b, o + i, none⟩ := by
        generalize hq : Addr.add ⟨b, o, spt⟩ i = q at hsp hadd
        obtain ⟨b', o', s'⟩ := q
        simp only at hsp hadd
        obtain ⟨h1, h2⟩ := hadd
        subst h1 h2 hsp
        rfl
      rw [hsp2] at g0
      refine ⟨s, ?_, World.block_lt_of_cell? w ⟨b, o + i, none⟩ g0, g0, hsz⟩
      intro h0
      subst h0
      simpa [Addr.add] using hsp
    obtain ⟨l, hdl, hd⟩ := pick_list _ len key
    refine ⟨some a, cap, l, by rw [hv, hdl], by omega, by unfold maxLen at hcm; omega, ?_, ?_⟩
    · intro s hs
      obtain ⟨i, hi⟩ := List.getElem?_of_mem hs
      exact (hd i s hi).2.2.2
    · by_cases h0 : l = []
      · exact Or.inl h0
      · have hpos : 0 < l.length := List.length_pos_iff.2 h0
        obtain ⟨hsp, hbl, _⟩ := hd 0 l[0] (List.getElem?_eq_getElem hpos)
        have hsp' := hsp rfl
        obtain ⟨b, o, spt⟩ := a
        simp only at hsp' hbl
        subst hsp'
        exact Or.inr ⟨b, o, rfl, hbl, fun i s hi => (hd i s hi).2.2.1⟩
end
section
set_option linter.unusedVariables false
set_option linter.unusedSimpArgs false
open Go.ChangeShapes Go.WideShapes Go.ChangeAt Go.RowKit

/-- Twelve cells in a row. -/
theorem twelve_cells {w : World} {a : Addr} {cs : List Value} (h : w.cells? 0 a 12 = some cs) : ∃ c0 c1 c2 c3 c4 c5 c6 c7 c8 c9 c10 c11, cs = [c0, c1, c2, c3, c4, c5, c6, c7, c8, c9, c10, c11] ∧ a.spot = none ∧ a.block < w.heap.size ∧ ∀ q, q < 12 → w.cell? ⟨a.block, a.off + q, none⟩ = (#[c0, c1, c2, c3, c4, c5, c6, c7, c8, c9, c10, c11] : Array Value)[q]? := by
  unfold World.cells? at h
  rw [if_pos (Nat.zero_le _)] at h
  simp only [show List.range 12 = [0, 1, 2, 3, 4, 5, 6, 7, 8, 9, 10, 11] from rfl, List.mapM_cons, List.mapM_nil, Option.bind_eq_bind, Option.bind_eq_some_iff, Option.pure_def, Option.some.injEq] at h
  obtain ⟨c0, h0, _, ⟨c1, h1, _, ⟨c2, h2, _, ⟨c3, h3, _, ⟨c4, h4, _, ⟨c5, h5, _, ⟨c6, h6, _, ⟨c7, h7, _, ⟨c8, h8, _, ⟨c9, h9, _, ⟨c10, h10, _, ⟨c11, h11, _, rfl, rfl⟩, rfl⟩, rfl⟩, rfl⟩, rfl⟩, rfl⟩, rfl⟩, rfl⟩, rfl⟩, rfl⟩, rfl⟩, rfl⟩ := h
  have hs : a.spot = none := by simpa [Addr.add] using World.cell?_spot h0
  obtain ⟨b, o, sp⟩ := a
  simp only at hs
  subst hs
  simp only [Addr.add] at h0 h1 h2 h3 h4 h5 h6 h7 h8 h9 h10 h11
  refine ⟨c0, c1, c2, c3, c4, c5, c6, c7, c8, c9, c10, c11, rfl, rfl, World.block_lt_of_cell? _ _ h0, fun q hq => ?_⟩
  match q, hq with
  | 0, _ => simpa using h0
  | 1, _ => simpa using h1
  | 2, _ => simpa using h2
  | 3, _ => simpa using h3
  | 4, _ => simpa using h4
  | 5, _ => simpa using h5
  | 6, _ => simpa using h6
  | 7, _ => simpa using h7
  | 8, _ => simpa using h8
  | 9, _ => simpa using h9
  | 10, _ => simpa using h10
  | 11, _ => simpa using h11

/-- What a rule among the arguments is. -/
theorem rule_of_trod {H : Type} {enc : TypeId × Value → H} {w : World} {sp : Nat → Bool} {held : Bool} {fuel : Nat} {c0 c1 c2 c3 c4 c5 c6 c7 c8 c9 c10 c11 : Value} {x : DataW H × List MemPlace}
    (ht : DataW.trod enc Tryz.prog w 0 sp held fuel 43 [c0, c1, c2, c3, c4, c5, c6, c7, c8, c9, c10, c11] = some x) (hx : Lt 43 x.1) :
    ∃ (p t : Dat) (pa ta : Option Addr) (pc tc : Nat), (#[c0, c1, c2, c3, c4, c5, c6, c7, c8, c9, c10, c11] : Array Value) = two p t pa ta pc tc ∧ p.name.size ≤ maxLen ∧ t.name.size ≤ maxLen ∧ p.kids.length ≤ pc ∧ t.kids.length ≤ tc ∧ Dn w fuel pa p.kids ∧ Dn w fuel ta t.kids ∧ smD p ∧ smD t := by
  obtain ⟨xs, m, hm, rfl, _, hxl, hf⟩ := DataW.trod_struct Tryz.underlying43 ht
  have e0 : DataW.trod enc Tryz.prog w 0 sp held m 28 (([c0, c1, c2, c3, c4, c5, c6, c7, c8, c9, c10, c11].drop 0).take (Tryz.prog.cellsOf 28)) = xs[0]? := hf 0 _ rfl
  have e1 : DataW.trod enc Tryz.prog w 0 sp held m 28 (([c0, c1, c2, c3, c4, c5, c6, c7, c8, c9, c10, c11].drop 6).take (Tryz.prog.cellsOf 28)) = xs[1]? := hf 1 _ rfl
  have hx2 : xs.length = 2 := hxl
  have W : ∀ (i : Nat) (t : TypeId) (y : DataW H × List MemPlace), xs[i]? = some y → ([28, 28] : List TypeId)[i]? = some t → Lt t y.1 := by
    intro i t y hy htt n hn
    refine hx n ?_
    unfold DataW.weights
    rw [Tryz.underlying43]
    exact DataW.weights_mem_each (j := i) (t := t) (d := y.1) htt (by rw [List.getElem?_map, hy]; rfl) n hn
  rw [List.getElem?_eq_getElem (by omega)] at e0 e1
  rw [cells28] at e0 e1
  simp only [List.drop_zero, List.take_succ_cons, List.take_zero, List.drop_succ_cons] at e0 e1
  obtain ⟨p, pa, pc, rfl, rfl, rfl, rfl, rfl, rfl, h1, h2, h3, h4⟩ := one_of_trod e0 (W 0 28 _ (List.getElem?_eq_getElem (by omega)) rfl)
  obtain ⟨t, ta, tc, rfl, rfl, rfl, rfl, rfl, rfl, k1, k2, k3, k4⟩ := one_of_trod e1 (W 1 28 _ (List.getElem?_eq_getElem (by omega)) rfl)
  have u1 := h3.upto (fuel - m)
  have u2 := k3.upto (fuel - m)
  rw [show m + (fuel - m) = fuel by omega] at u1 u2
  exact ⟨p, t, pa, ta, pc, tc, rfl, h1, k1, h2, k2, u1, u2, h4, k4⟩

theorem Lt.elem43 {H : Type} {elems spare : List (DataW H)} (h : Lt 23 (.slice elems spare)) {i : Nat} {d : DataW H} (hd : elems[i]? = some d) : Lt 43 d := fun n hn => by
  refine h n ?_
  unfold DataW.weights
  rw [Tryz.underlying23]
  exact List.mem_cons_of_mem _ (List.mem_append_left _ (weightsAll_mem hd n hn))
theorem Lt.len43 {H : Type} {elems spare : List (DataW H)} (h : Lt 23 (.slice elems spare)) : elems.length * 144 ≤ reachBytes := by
  have := h ((elems.length + spare.length) * Tryz.prog.bytesOf 43) (by
    unfold DataW.weights
    rw [Tryz.underlying23]
    exact List.mem_cons_self)
  rw [bytes43] at this
  have h2 : elems.length * 144 ≤ (elems.length + spare.length) * 144 := Nat.mul_le_mul_right _ (by omega)
  omega

/-- Rules that can be read lie in memory. -/
theorem rules_of_trod {H : Type} {enc : TypeId × Value → H} {w : World} {sp : Nat → Bool} {held : Bool} {fuel : Nat} {v : Value} {x : DataW H × List MemPlace} (h : DataW.trod enc Tryz.prog w 0 sp held fuel 23 [v] = some x) (hx : Lt 23 x.1) :
    ∃ (a : Option Addr) (cap g : Nat) (l : List (Dat × Dat)), v = .slice a l.length cap ∧ Rn w g a l ∧ l.length ≤ cap ∧ smR l ∧ l.length * 144 ≤ reachBytes := by
  rcases DataW.trod_slice Tryz.underlying23 h with ⟨hv, _⟩ | ⟨a, len, cap, elems, rest, n, hn, hv, rfl, _, hlc, hcm, hel, hall, _, _⟩
  · simp at hv
    exact ⟨none, 0, 0, [], hv, ⟨by simp, Or.inl rfl⟩, Nat.le_refl _, (fun p t h => by cases h), by simp [reachBytes]⟩
  · simp at hv
    have hlen : len * 144 ≤ reachBytes := by
      have := hx.len43
      rw [List.length_map, hel] at this
      exact this
    have key : ∀ i, i < len → ∃ r : Dat × Dat, ∃ pa ta pc tc, (i = 0 → a.spot = none) ∧ a.block < w.heap.size ∧ (∀ q, q < 12 → w.cell? ⟨a.block, a.off + i * 12 + q, none⟩ = (two r.1 r.2 pa ta pc tc)[q]?) ∧
        r.1.name.size ≤ maxLen ∧ r.2.name.size ≤ maxLen ∧ r.1.kids.length ≤ pc ∧ r.2.kids.length ≤ tc ∧ Dn w n pa r.1.kids ∧ Dn w n ta r.2.kids ∧ smD r.1 ∧ smD r.2 := by
      intro i hi
      have h1 := hall i hi
      rw [cells43, List.getElem?_eq_getElem (by omega)] at h1
      obtain ⟨cs, hcs, ht⟩ := Option.bind_eq_some_iff.1 h1
      obtain ⟨c0, c1, c2, c3, c4, c5, c6, c7, c8, c9, c10, c11, rfl, hs, hb, gg⟩ := twelve_cells hcs
      have hxi : Lt 43 (elems[i]'(by omega)).1 := hx.elem43 (i := i) (by rw [List.getElem?_map, List.getElem?_eq_getElem (by omega)]; rfl)
      obtain ⟨p, t, pa, ta, pc, tc, hcc, p1, p2, p3, p4, p5, p6, p7, p8⟩ := rule_of_trod ht hxi
      rw [hcc] at gg
      have hadd : (a.add (i * 12)).block = a.block ∧ (a.add (i * 12)).off = a.off + i * 12 := by
        unfold Addr.add
        split
        · rename_i h; rw [h]; exact ⟨rfl, rfl⟩
        · exact ⟨rfl, rfl⟩
      rw [hadd.1, hadd.2] at gg
      rw [hadd.1] at hb
      refine ⟨(p, t), pa, ta, pc, tc, ?_, hb, gg, p1, p2, p3, p4, p5, p6, p7, p8⟩
      intro h0
      subst h0
      simpa [Addr.add] using hs
    obtain ⟨l, hdl, hd⟩ := pick_list _ len key
    refine ⟨some a, cap, n, l, by rw [hv, hdl], ⟨by unfold maxLen at hcm; omega, ?_⟩, by omega, ?_, by rw [hdl]; exact hlen⟩
    · by_cases h0 : l = []
      · exact Or.inl h0
      · have hpos : 0 < l.length := List.length_pos_iff.2 h0
        obtain ⟨_, _, _, _, hsp, hbl, _⟩ := hd 0 l[0] (List.getElem?_eq_getElem hpos)
        have hsp' := hsp rfl
        obtain ⟨b, o, spt⟩ := a
        simp only at hsp' hbl
        subst hsp'
        refine Or.inr ⟨b, o, rfl, hbl, ?_⟩
        intro i p t hi
        obtain ⟨pa, ta, pc, tc, _, _, r0, r1, r2, r3, r4, r5, r6, _⟩ := hd i (p, t) hi
        exact ⟨pa, ta, pc, tc, r0, r1, r2, r3, r4, r5.lc, r6.lc⟩
    · intro p t hm
      obtain ⟨i, hi⟩ := List.getElem?_of_mem hm
      obtain ⟨_, _, _, _, _, _, _, _, _, _, _, _, _, _, r⟩ := hd i (p, t) hi
      exact r

/-- A rule set among the arguments. -/
theorem mac_of_trod {H : Type} {enc : TypeId × Value → H} {w : World} {sp : Nat → Bool} {held : Bool} {fuel : Nat} {c0 c1 : Value} {x : DataW H × List MemPlace}
    (ht : DataW.trod enc Tryz.prog w 0 sp held fuel 25 [c0, c1] = some x) (hx : Lt 25 x.1) :
    ∃ (li : List ByteArray) (ru : List (Dat × Dat)) (la ra : Option Addr) (lc rc gg : Nat), c0 = .slice la li.length lc ∧ c1 = .slice ra ru.length rc ∧ Strs w.heap.size w la li ∧ Rn w gg ra ru ∧ li.length ≤ lc ∧ ru.length ≤ rc ∧ smR ru ∧ ru.length * 144 ≤ reachBytes := by
  obtain ⟨xs, m, hm, rfl, _, hxl, hf⟩ := DataW.trod_struct Tryz.underlying25 ht
  have e0 : DataW.trod enc Tryz.prog w 0 sp held m 22 (([c0, c1].drop 0).take (Tryz.prog.cellsOf 22)) = xs[0]? := hf 0 _ rfl
  have e1 : DataW.trod enc Tryz.prog w 0 sp held m 23 (([c0, c1].drop 1).take (Tryz.prog.cellsOf 23)) = xs[1]? := hf 1 _ rfl
  have hx2 : xs.length = 2 := hxl
  have W : ∀ (i : Nat) (t : TypeId) (y : DataW H × List MemPlace), xs[i]? = some y → ([22, 23] : List TypeId)[i]? = some t → Lt t y.1 := by
    intro i t y hy htt n hn
    refine hx n ?_
    unfold DataW.weights
    rw [Tryz.underlying25]
    exact DataW.weights_mem_each (j := i) (t := t) (d := y.1) htt (by rw [List.getElem?_map, hy]; rfl) n hn
  rw [List.getElem?_eq_getElem (by omega)] at e0 e1
  rw [cells1_22] at e0
  rw [cells1_23] at e1
  simp only [List.drop_zero, List.take_succ_cons, List.take_zero, List.drop_succ_cons] at e0 e1
  obtain ⟨la, lc, li, h1, h2, h3⟩ := strs_of_trod e0
  obtain ⟨ra, rc, g, ru, k1, k2, k3, k4, k5⟩ := rules_of_trod e1 (W 1 23 _ (List.getElem?_eq_getElem (by omega)) rfl)
  exact ⟨li, ru, la, ra, lc, rc, g, h1, k1, h3, k2, h2, k3, k4, k5⟩
end
section
set_option linter.unusedVariables false
set_option linter.unusedSimpArgs false
open Go.ChangeShapes Go.WideShapes Go.ChangeAt Go.RowKit

theorem fewL_of {l : List Dat} : (∀ d ∈ l, fewD d) → fewL l := by
  induction l with
  | nil => intro _; rw [fewL]; trivial
  | cons x r ih => intro h; rw [fewL]; exact ⟨h x (by simp), ih fun d hd => h d (by simp [hd])⟩
def fewR (l : List (Dat × Dat)) : Prop := ∀ p t, (p, t) ∈ l → fewD p ∧ fewD t

/-- A datum's six values. -/
theorem datum_of_trodF {H : Type} {enc : TypeId × Value → H} {w : World} {sp : Nat → Bool} {held : Bool} {fuel : Nat} {c0 c1 c2 c3 c4 c5 : Value} {x : DataW H × List MemPlace}
    (ht : DataW.trod enc Tryz.prog w 0 sp held fuel 28 [c0, c1, c2, c3, c4, c5] = some x) (hx : Lt 28 x.1)
    (ih : ∀ m, m < fuel → ∀ (v : Value) (x : DataW H × List MemPlace), DataW.trod enc Tryz.prog w 0 sp held m 26 [v] = some x → Lt 26 x.1 → ∃ (a : Option Addr) (cap : Nat) (ds : List Dat), v = .slice a ds.length cap ∧ ds.length ≤ cap ∧ Dn w m a ds ∧ (smL ds ∧ fewL ds) ∧ ds.length * 72 ≤ reachBytes) :
    ∃ (d : Dat) (a : Option Addr) (cap : Nat), c0 = .int .i64 d.kind ∧ c1 = .int .i64 d.n ∧ c2 = .string d.name ∧ c3 = .int .i64 d.stamp ∧ c4 = .int .i64 d.lib ∧ c5 = .slice a d.kids.length cap ∧ d.name.size ≤ maxLen ∧ d.kids.length ≤ cap ∧ Dn w fuel a d.kids ∧ (smD d ∧ fewD d) := by
  obtain ⟨xs, m, hm, rfl, _, hxl, hf⟩ := DataW.trod_struct Tryz.underlying28 ht
  have e0 : DataW.trod enc Tryz.prog w 0 sp held m 3 (([c0, c1, c2, c3, c4, c5].drop 0).take (Tryz.prog.cellsOf 3)) = xs[0]? := hf 0 _ rfl
  have e1 : DataW.trod enc Tryz.prog w 0 sp held m 2 (([c0, c1, c2, c3, c4, c5].drop 1).take (Tryz.prog.cellsOf 2)) = xs[1]? := hf 1 _ rfl
  have e2 : DataW.trod enc Tryz.prog w 0 sp held m 9 (([c0, c1, c2, c3, c4, c5].drop 2).take (Tryz.prog.cellsOf 9)) = xs[2]? := hf 2 _ rfl
  have e3 : DataW.trod enc Tryz.prog w 0 sp held m 3 (([c0, c1, c2, c3, c4, c5].drop 3).take (Tryz.prog.cellsOf 3)) = xs[3]? := hf 3 _ rfl
  have e4 : DataW.trod enc Tryz.prog w 0 sp held m 3 (([c0, c1, c2, c3, c4, c5].drop 4).take (Tryz.prog.cellsOf 3)) = xs[4]? := hf 4 _ rfl
  have e5 : DataW.trod enc Tryz.prog w 0 sp held m 26 (([c0, c1, c2, c3, c4, c5].drop 5).take (Tryz.prog.cellsOf 26)) = xs[5]? := hf 5 _ rfl
  have hx6 : xs.length = 6 := hxl
  have W : ∀ (i : Nat) (t : TypeId) (y : DataW H × List MemPlace), xs[i]? = some y → ([3, 2, 9, 3, 3, 26] : List TypeId)[i]? = some t → Lt t y.1 := by
    intro i t y hy htt n hn
    refine hx n ?_
    unfold DataW.weights
    rw [Tryz.underlying28]
    exact DataW.weights_mem_each (j := i) (t := t) (d := y.1) htt (by rw [List.getElem?_map, hy]; rfl) n hn
  rw [List.getElem?_eq_getElem (by omega)] at e0 e1 e2 e3 e4 e5
  rw [cells1_3] at e0 e3 e4
  rw [cells1_2] at e1
  rw [cells1_9] at e2
  rw [cells1_26] at e5
  simp only [List.drop_zero, List.take_succ_cons, List.take_zero, List.drop_succ_cons] at e0 e1 e2 e3 e4 e5
  obtain ⟨k, hk, _, _⟩ := DataW.trod_int Tryz.underlying3 e0
  obtain ⟨nn, hnn, _, _⟩ := DataW.trod_int Tryz.underlying2 e1
  obtain ⟨s, hsn, hs2, hsz⟩ := DataW.trod_string Tryz.underlying9 e2
  obtain ⟨st, hst, _, _⟩ := DataW.trod_int Tryz.underlying3 e3
  obtain ⟨lb, hlb, _, _⟩ := DataW.trod_int Tryz.underlying3 e4
  obtain ⟨a', cap', ks, hks, hcp, hlk, ⟨hsm, hfw⟩, hbt⟩ := ih m (by omega) c5 _ e5 (W 5 26 _ (List.getElem?_eq_getElem (by omega)) rfl)
  have hlt : s.size ≤ 281474976710656 := by
    have := W 2 9 _ (List.getElem?_eq_getElem (by omega)) rfl s.data.toList.length (by rw [hs2]; simp [DataW.weights])
    have h2 := reachBytes_lt
    have h3 : s.data.toList.length = s.size := Array.length_toList
    omega
  simp at hk hnn hsn hst hlb
  subst hk hnn hsn hst hlb hks
  refine ⟨⟨k, nn, s, st, lb, ks⟩, a', cap', rfl, rfl, rfl, rfl, rfl, rfl, hsz, hcp, ?_, ?_⟩
  · have := hlk.upto (fuel - m)
    rwa [show m + (fuel - m) = fuel by omega] at this
  · rw [smD, fewD]
    refine ⟨⟨fun _ => hlt, fun _ => hsm⟩, ?_, hfw⟩
    have : reachBytes ≤ 140737488355328 := by unfold reachBytes; decide
    omega

/-- WHAT CAN BE READ AS DATA LIES IN MEMORY AS DATA DO. -/
theorem data_of_trodF {H : Type} {enc : TypeId × Value → H} {w : World} {sp : Nat → Bool} {held : Bool} : ∀ (F fuel : Nat), fuel ≤ F → ∀ (v : Value) (x : DataW H × List MemPlace), DataW.trod enc Tryz.prog w 0 sp held fuel 26 [v] = some x → Lt 26 x.1 →
    ∃ (a : Option Addr) (cap : Nat) (ds : List Dat), v = .slice a ds.length cap ∧ ds.length ≤ cap ∧ Dn w fuel a ds ∧ (smL ds ∧ fewL ds) ∧ ds.length * 72 ≤ reachBytes
  | 0, fuel, hF, v, x, h, hx => by
    obtain rfl : fuel = 0 := by omega
    simp [DataW.trod] at h
  | F + 1, fuel, hF, v, x, h, hx => by
    rcases DataW.trod_slice Tryz.underlying26 h with ⟨hv, _⟩ | ⟨a, len, cap, elems, rest, n, hn, hv, rfl, _, hlc, hcm, hel, hall, _, _⟩
    · simp at hv
      exact ⟨none, 0, [], hv, Nat.le_refl _, Dn.nil _ _ _, ⟨smL_of (by simp), fewL_of (by simp)⟩, by simp [reachBytes]⟩
    · simp at hv
      have hlen : len * 72 ≤ reachBytes := by
        have := hx.len
        rw [List.length_map, hel] at this
        exact this
      have key : ∀ i, i < len → ∃ d : Dat, ∃ a' cap', (i = 0 → a.spot = none) ∧ a.block < w.heap.size ∧
          w.cell? ⟨a.block, a.off + i * 6, none⟩ = some (.int .i64 d.kind) ∧ w.cell? ⟨a.block, a.off + i * 6 + 1, none⟩ = some (.int .i64 d.n) ∧ w.cell? ⟨a.block, a.off + i * 6 + 2, none⟩ = some (.string d.name) ∧
          w.cell? ⟨a.block, a.off + i * 6 + 3, none⟩ = some (.int .i64 d.stamp) ∧ w.cell? ⟨a.block, a.off + i * 6 + 4, none⟩ = some (.int .i64 d.lib) ∧ w.cell? ⟨a.block, a.off + i * 6 + 5, none⟩ = some (.slice a' d.kids.length cap') ∧
          d.name.size ≤ maxLen ∧ d.kids.length ≤ cap' ∧ Dn w n a' d.kids ∧ (smD d ∧ fewD d) := by
        intro i hi
        have h1 := hall i hi
        rw [cells28, List.getElem?_eq_getElem (by omega)] at h1
        obtain ⟨cs, hcs, ht⟩ := Option.bind_eq_some_iff.1 h1
        obtain ⟨c0, c1, c2, c3, c4, c5, rfl, hs, hb, g0, g1, g2, g3, g4, g5⟩ := six_cells hcs
        have hxi : Lt 28 (elems[i]'(by omega)).1 := hx.elem (i := i) (by rw [List.getElem?_map, List.getElem?_eq_getElem (by omega)]; rfl)
        obtain ⟨d, a', cap', rfl, rfl, rfl, rfl, rfl, rfl, p1, p2, p3, p4⟩ := datum_of_trodF ht hxi fun m hm v x h hx => data_of_trodF F m (by omega) v x h hx
        have hadd : (a.add (i * 6)).block = a.block ∧ (a.add (i * 6)).off = a.off + i * 6 := by
          unfold Addr.add
          split
          · rename_i h; rw [h]; exact ⟨rfl, rfl⟩
          · exact ⟨rfl, rfl⟩
        rw [hadd.1, hadd.2] at g0 g1 g2 g3 g4 g5
        rw [hadd.1] at hb
        refine ⟨d, a', cap', ?_, hb, g0, g1, g2, g3, g4, g5, p1, p2, p3, p4⟩
        intro h0
        subst h0
        simpa [Addr.add] using hs
      obtain ⟨ds, hdl, hd⟩ := pick_list _ len key
      refine ⟨some a, cap, ds, by rw [hv, hdl], by omega, ?_, ⟨smL_of fun d hdm => (?_ : smD d ∧ fewD d).1, fewL_of fun d hdm => (?_ : smD d ∧ fewD d).2⟩, by rw [hdl]; exact hlen⟩
      · rw [hn]
        refine ⟨by unfold maxLen at hcm; omega, ?_⟩
        by_cases h0 : ds = []
        · exact Or.inl h0
        · have hpos : 0 < ds.length := List.length_pos_iff.2 h0
          obtain ⟨_, _, hsp, hbl, _⟩ := hd 0 ds[0] (List.getElem?_eq_getElem hpos)
          have hsp' := hsp rfl
          obtain ⟨b, o, spt⟩ := a
          simp only at hsp' hbl
          subst hsp'
          refine Or.inr ⟨b, o, rfl, hbl, ?_⟩
          intro i d hi
          obtain ⟨a', cap', _, _, r0, r1, r2, r3, r4, r5, r6, r7, r8, _⟩ := hd i d hi
          exact ⟨a', cap', r0, r1, r2, r3, r4, r5, r6, r7, r8⟩
      all_goals
        obtain ⟨i, hi⟩ := List.getElem?_of_mem hdm
        obtain ⟨_, _, _, _, _, _, _, _, _, _, _, _, _, r⟩ := hd i d hi
        exact r

/-- A datum among the arguments. -/
theorem one_of_trodF {H : Type} {enc : TypeId × Value → H} {w : World} {sp : Nat → Bool} {held : Bool} {fuel : Nat} {c0 c1 c2 c3 c4 c5 : Value} {x : DataW H × List MemPlace}
    (ht : DataW.trod enc Tryz.prog w 0 sp held fuel 28 [c0, c1, c2, c3, c4, c5] = some x) (hx : Lt 28 x.1) :
    ∃ (d : Dat) (a : Option Addr) (cap : Nat), c0 = .int .i64 d.kind ∧ c1 = .int .i64 d.n ∧ c2 = .string d.name ∧ c3 = .int .i64 d.stamp ∧ c4 = .int .i64 d.lib ∧ c5 = .slice a d.kids.length cap ∧ d.name.size ≤ maxLen ∧ d.kids.length ≤ cap ∧ Dn w fuel a d.kids ∧ (smD d ∧ fewD d) :=
  datum_of_trodF ht hx fun m hm v x h hx => data_of_trodF m m (Nat.le_refl _) v x h hx

/-- What a rule among the arguments is. -/
theorem rule_of_trodF {H : Type} {enc : TypeId × Value → H} {w : World} {sp : Nat → Bool} {held : Bool} {fuel : Nat} {c0 c1 c2 c3 c4 c5 c6 c7 c8 c9 c10 c11 : Value} {x : DataW H × List MemPlace}
    (ht : DataW.trod enc Tryz.prog w 0 sp held fuel 43 [c0, c1, c2, c3, c4, c5, c6, c7, c8, c9, c10, c11] = some x) (hx : Lt 43 x.1) :
    ∃ (p t : Dat) (pa ta : Option Addr) (pc tc : Nat), (#[c0, c1, c2, c3, c4, c5, c6, c7, c8, c9, c10, c11] : Array Value) = two p t pa ta pc tc ∧ p.name.size ≤ maxLen ∧ t.name.size ≤ maxLen ∧ p.kids.length ≤ pc ∧ t.kids.length ≤ tc ∧ Dn w fuel pa p.kids ∧ Dn w fuel ta t.kids ∧ (smD p ∧ fewD p) ∧ (smD t ∧ fewD t) := by
  obtain ⟨xs, m, hm, rfl, _, hxl, hf⟩ := DataW.trod_struct Tryz.underlying43 ht
  have e0 : DataW.trod enc Tryz.prog w 0 sp held m 28 (([c0, c1, c2, c3, c4, c5, c6, c7, c8, c9, c10, c11].drop 0).take (Tryz.prog.cellsOf 28)) = xs[0]? := hf 0 _ rfl
  have e1 : DataW.trod enc Tryz.prog w 0 sp held m 28 (([c0, c1, c2, c3, c4, c5, c6, c7, c8, c9, c10, c11].drop 6).take (Tryz.prog.cellsOf 28)) = xs[1]? := hf 1 _ rfl
  have hx2 : xs.length = 2 := hxl
  have W : ∀ (i : Nat) (t : TypeId) (y : DataW H × List MemPlace), xs[i]? = some y → ([28, 28] : List TypeId)[i]? = some t → Lt t y.1 := by
    intro i t y hy htt n hn
    refine hx n ?_
    unfold DataW.weights
    rw [Tryz.underlying43]
    exact DataW.weights_mem_each (j := i) (t := t) (d := y.1) htt (by rw [List.getElem?_map, hy]; rfl) n hn
  rw [List.getElem?_eq_getElem (by omega)] at e0 e1
  rw [cells28] at e0 e1
  simp only [List.drop_zero, List.take_succ_cons, List.take_zero, List.drop_succ_cons] at e0 e1
  obtain ⟨p, pa, pc, rfl, rfl, rfl, rfl, rfl, rfl, h1, h2, h3, h4⟩ := one_of_trodF e0 (W 0 28 _ (List.getElem?_eq_getElem (by omega)) rfl)
  obtain ⟨t, ta, tc, rfl, rfl, rfl, rfl, rfl, rfl, k1, k2, k3, k4⟩ := one_of_trodF e1 (W 1 28 _ (List.getElem?_eq_getElem (by omega)) rfl)
  have u1 := h3.upto (fuel - m)
  have u2 := k3.upto (fuel - m)
  rw [show m + (fuel - m) = fuel by omega] at u1 u2
  exact ⟨p, t, pa, ta, pc, tc, rfl, h1, k1, h2, k2, u1, u2, h4, k4⟩

/-- Rules that can be read lie in memory. -/
theorem rules_of_trodF {H : Type} {enc : TypeId × Value → H} {w : World} {sp : Nat → Bool} {held : Bool} {fuel : Nat} {v : Value} {x : DataW H × List MemPlace} (h : DataW.trod enc Tryz.prog w 0 sp held fuel 23 [v] = some x) (hx : Lt 23 x.1) :
    ∃ (a : Option Addr) (cap g : Nat) (l : List (Dat × Dat)), v = .slice a l.length cap ∧ Rn w g a l ∧ l.length ≤ cap ∧ (smR l ∧ fewR l) ∧ l.length * 144 ≤ reachBytes := by
  rcases DataW.trod_slice Tryz.underlying23 h with ⟨hv, _⟩ | ⟨a, len, cap, elems, rest, n, hn, hv, rfl, _, hlc, hcm, hel, hall, _, _⟩
  · simp at hv
    exact ⟨none, 0, 0, [], hv, ⟨by simp, Or.inl rfl⟩, Nat.le_refl _, ⟨(fun p t h => by cases h), (fun p t h => by cases h)⟩, by simp [reachBytes]⟩
  · simp at hv
    have hlen : len * 144 ≤ reachBytes := by
      have := hx.len43
      rw [List.length_map, hel] at this
      exact this
    have key : ∀ i, i < len → ∃ r : Dat × Dat, ∃ pa ta pc tc, (i = 0 → a.spot = none) ∧ a.block < w.heap.size ∧ (∀ q, q < 12 → w.cell? ⟨a.block, a.off + i * 12 + q, none⟩ = (two r.1 r.2 pa ta pc tc)[q]?) ∧
        r.1.name.size ≤ maxLen ∧ r.2.name.size ≤ maxLen ∧ r.1.kids.length ≤ pc ∧ r.2.kids.length ≤ tc ∧ Dn w n pa r.1.kids ∧ Dn w n ta r.2.kids ∧ (smD r.1 ∧ fewD r.1) ∧ (smD r.2 ∧ fewD r.2) := by
      intro i hi
      have h1 := hall i hi
      rw [cells43, List.getElem?_eq_getElem (by omega)] at h1
      obtain ⟨cs, hcs, ht⟩ := Option.bind_eq_some_iff.1 h1
      obtain ⟨c0, c1, c2, c3, c4, c5, c6, c7, c8, c9, c10, c11, rfl, hs, hb, gg⟩ := twelve_cells hcs
      have hxi : Lt 43 (elems[i]'(by omega)).1 := hx.elem43 (i := i) (by rw [List.getElem?_map, List.getElem?_eq_getElem (by omega)]; rfl)
      obtain ⟨p, t, pa, ta, pc, tc, hcc, p1, p2, p3, p4, p5, p6, p7, p8⟩ := rule_of_trodF ht hxi
      rw [hcc] at gg
      have hadd : (a.add (i * 12)).block = a.block ∧ (a.add (i * 12)).off = a.off + i * 12 := by
        unfold Addr.add
        split
        · rename_i h; rw [h]; exact ⟨rfl, rfl⟩
        · exact ⟨rfl, rfl⟩
      rw [hadd.1, hadd.2] at gg
      rw [hadd.1] at hb
      refine ⟨(p, t), pa, ta, pc, tc, ?_, hb, gg, p1, p2, p3, p4, p5, p6, p7, p8⟩
      intro h0
      subst h0
      simpa [Addr.add] using hs
    obtain ⟨l, hdl, hd⟩ := pick_list _ len key
    refine ⟨some a, cap, n, l, by rw [hv, hdl], ⟨by unfold maxLen at hcm; omega, ?_⟩, by omega, ⟨fun p t hm => (?_ : (smD p ∧ fewD p) ∧ (smD t ∧ fewD t)).2.1, fun p t hm => (?_ : fewD p ∧ fewD t)⟩, by rw [hdl]; exact hlen⟩
    · by_cases h0 : l = []
      · exact Or.inl h0
      · have hpos : 0 < l.length := List.length_pos_iff.2 h0
        obtain ⟨_, _, _, _, hsp, hbl, _⟩ := hd 0 l[0] (List.getElem?_eq_getElem hpos)
        have hsp' := hsp rfl
        obtain ⟨b, o, spt⟩ := a
        simp only at hsp' hbl
        subst hsp'
        refine Or.inr ⟨b, o, rfl, hbl, ?_⟩
        intro i p t hi
        obtain ⟨pa, ta, pc, tc, _, _, r0, r1, r2, r3, r4, r5, r6, _⟩ := hd i (p, t) hi
        exact ⟨pa, ta, pc, tc, r0, r1, r2, r3, r4, r5.lc, r6.lc⟩
    · obtain ⟨i, hi⟩ := List.getElem?_of_mem hm
      obtain ⟨_, _, _, _, _, _, _, _, _, _, _, _, _, r⟩ := hd i (p, t) hi
      exact r
    · obtain ⟨i, hi⟩ := List.getElem?_of_mem hm
      obtain ⟨_, _, _, _, _, _, _, _, _, _, _, _, _, r⟩ := hd i (p, t) hi
      exact ⟨r.1.2, r.2.2⟩

/-- A rule set among the arguments. -/
theorem mac_of_trodF {H : Type} {enc : TypeId × Value → H} {w : World} {sp : Nat → Bool} {held : Bool} {fuel : Nat} {c0 c1 : Value} {x : DataW H × List MemPlace}
    (ht : DataW.trod enc Tryz.prog w 0 sp held fuel 25 [c0, c1] = some x) (hx : Lt 25 x.1) :
    ∃ (li : List ByteArray) (ru : List (Dat × Dat)) (la ra : Option Addr) (lc rc gg : Nat), c0 = .slice la li.length lc ∧ c1 = .slice ra ru.length rc ∧ Strs w.heap.size w la li ∧ Rn w gg ra ru ∧ li.length ≤ lc ∧ ru.length ≤ rc ∧ (smR ru ∧ fewR ru) ∧ ru.length * 144 ≤ reachBytes := by
  obtain ⟨xs, m, hm, rfl, _, hxl, hf⟩ := DataW.trod_struct Tryz.underlying25 ht
  have e0 : DataW.trod enc Tryz.prog w 0 sp held m 22 (([c0, c1].drop 0).take (Tryz.prog.cellsOf 22)) = xs[0]? := hf 0 _ rfl
  have e1 : DataW.trod enc Tryz.prog w 0 sp held m 23 (([c0, c1].drop 1).take (Tryz.prog.cellsOf 23)) = xs[1]? := hf 1 _ rfl
  have hx2 : xs.length = 2 := hxl
  have W : ∀ (i : Nat) (t : TypeId) (y : DataW H × List MemPlace), xs[i]? = some y → ([22, 23] : List TypeId)[i]? = some t → Lt t y.1 := by
    intro i t y hy htt n hn
    refine hx n ?_
    unfold DataW.weights
    rw [Tryz.underlying25]
    exact DataW.weights_mem_each (j := i) (t := t) (d := y.1) htt (by rw [List.getElem?_map, hy]; rfl) n hn
  rw [List.getElem?_eq_getElem (by omega)] at e0 e1
  rw [cells1_22] at e0
  rw [cells1_23] at e1
  simp only [List.drop_zero, List.take_succ_cons, List.take_zero, List.drop_succ_cons] at e0 e1
  obtain ⟨la, lc, li, h1, h2, h3⟩ := strs_of_trod e0
  obtain ⟨ra, rc, g, ru, k1, k2, k3, k4, k5⟩ := rules_of_trodF e1 (W 1 23 _ (List.getElem?_eq_getElem (by omega)) rfl)
  exact ⟨li, ru, la, ra, lc, rc, g, h1, k1, h3, k2, h2, k3, k4, k5⟩
end
end Go.Proofs.YtgeedaabdonjcaeGreatDoor
