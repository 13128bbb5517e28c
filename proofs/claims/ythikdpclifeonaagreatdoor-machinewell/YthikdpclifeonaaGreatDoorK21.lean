/- From the rows' conditions to an image in memory. -/
import Derived.ProofKit
import Derived.OpenShut
import Derived.SizedLaws
import Derived.Test.YthikdpclifeonaaGreatDoorK20
namespace Go.Proofs.YthikdpclifeonaaGreatDoor
set_option linter.unusedVariables false
set_option linter.unusedSimpArgs false
open Go.RowKit

theorem Dc.moreX {ok : Nat → Prop} {w : World} : ∀ (f : Nat) (a : Option Addr) (ds : List Dat), Dc ok w f a ds → Dc ok w (f + 1) a ds
  | 0, a, ds, h => by
    rw [show ds = [] from h]
    exact ⟨Nat.zero_le _, Or.inl rfl⟩
  | f + 1, a, ds, h => by
    obtain ⟨hl, h⟩ := h
    refine ⟨hl, ?_⟩
    rcases h with h | ⟨b, o, ha, hb, h⟩
    · exact Or.inl h
    · refine Or.inr ⟨b, o, ha, hb, fun i d hd => ?_⟩
      obtain ⟨a', cap, h0, h1, h2, h3, h4, h5, h6, h7, h8⟩ := h i d hd
      exact ⟨a', cap, h0, h1, h2, h3, h4, h5, h6, h7, Dc.moreX f a' _ h8⟩
theorem Dc.uptoX {ok : Nat → Prop} {w : World} {f : Nat} {a : Option Addr} {ds : List Dat} (h : Dc ok w f a ds) : ∀ k, Dc ok w (f + k) a ds
  | 0 => h
  | k + 1 => Dc.moreX _ _ _ (h.uptoX k)
theorem pick_list {α : Type} (p : Nat → α → Prop) : ∀ (n : Nat), (∀ i, i < n → ∃ x, p i x) → ∃ l : List α, l.length = n ∧ ∀ i x, l[i]? = some x → p i x
  | 0, _ => ⟨[], rfl, by simp⟩
  | n + 1, h => by
    obtain ⟨l, hl, hp⟩ := pick_list p n (fun i hi => h i (by omega))
    obtain ⟨x, hx⟩ := h n (by omega)
    refine ⟨l ++ [x], by simp [hl], ?_⟩
    intro i y hy
    by_cases hi : i < n
    · rw [List.getElem?_append_left (by omega)] at hy
      exact hp i y hy
    · have hlen := (List.getElem?_eq_some_iff.1 hy).1
      simp at hlen
      obtain rfl : i = n := by omega
      rw [List.getElem?_append_right (by omega)] at hy
      simp [hl] at hy
      subst hy
      exact hx
theorem add_at (a : Addr) (k : Nat) : (a.add k).block = a.block ∧ (a.add k).off = a.off + k := by
  unfold Addr.add
  split
  · rename_i h; rw [h]; exact ⟨rfl, rfl⟩
  · exact ⟨rfl, rfl⟩
theorem six_cells {w : World} {a : Addr} {cs : List Value} (h : w.cells? 0 a 6 = some cs) : ∃ c0 c1 c2 c3 c4 c5, cs = [c0, c1, c2, c3, c4, c5] ∧ a.spot = none ∧ a.block < w.heap.size ∧ ∀ q, q < 6 → w.cell? ⟨a.block, a.off + q, none⟩ = (#[c0, c1, c2, c3, c4, c5] : Array Value)[q]? := by
  unfold World.cells? at h
  rw [if_pos (Nat.zero_le _)] at h
  simp only [show List.range 6 = [0, 1, 2, 3, 4, 5] from rfl, List.mapM_cons, List.mapM_nil, Option.bind_eq_bind, Option.bind_eq_some_iff, Option.pure_def, Option.some.injEq] at h
  obtain ⟨c0, h0, _, ⟨c1, h1, _, ⟨c2, h2, _, ⟨c3, h3, _, ⟨c4, h4, _, ⟨c5, h5, _, rfl, rfl⟩, rfl⟩, rfl⟩, rfl⟩, rfl⟩, rfl⟩ := h
  have hs : a.spot = none := by simpa [Addr.add] using World.cell?_spot h0
  obtain ⟨b, o, sp⟩ := a
  simp only at hs
  subst hs
  simp only [Addr.add] at h0 h1 h2 h3 h4 h5
  refine ⟨c0, c1, c2, c3, c4, c5, rfl, rfl, World.block_lt_of_cell? _ _ h0, fun q hq => ?_⟩
  match q, hq with
  | 0, _ => simpa using h0
  | 1, _ => simpa using h1
  | 2, _ => simpa using h2
  | 3, _ => simpa using h3
  | 4, _ => simpa using h4
  | 5, _ => simpa using h5
theorem eleven_cells {w : World} {a : Addr} {cs : List Value} (h : w.cells? 0 a 11 = some cs) : ∃ c0 c1 c2 c3 c4 c5 c6 c7 c8 c9 c10, cs = [c0, c1, c2, c3, c4, c5, c6, c7, c8, c9, c10] ∧ a.spot = none ∧ a.block < w.heap.size ∧ ∀ q, q < 11 → w.cell? ⟨a.block, a.off + q, none⟩ = (#[c0, c1, c2, c3, c4, c5, c6, c7, c8, c9, c10] : Array Value)[q]? := by
  unfold World.cells? at h
  rw [if_pos (Nat.zero_le _)] at h
  simp only [show List.range 11 = [0, 1, 2, 3, 4, 5, 6, 7, 8, 9, 10] from rfl, List.mapM_cons, List.mapM_nil, Option.bind_eq_bind, Option.bind_eq_some_iff, Option.pure_def, Option.some.injEq] at h
  obtain ⟨c0, h0, _, ⟨c1, h1, _, ⟨c2, h2, _, ⟨c3, h3, _, ⟨c4, h4, _, ⟨c5, h5, _, ⟨c6, h6, _, ⟨c7, h7, _, ⟨c8, h8, _, ⟨c9, h9, _, ⟨c10, h10, _, rfl, rfl⟩, rfl⟩, rfl⟩, rfl⟩, rfl⟩, rfl⟩, rfl⟩, rfl⟩, rfl⟩, rfl⟩, rfl⟩ := h
  have hs : a.spot = none := by simpa [Addr.add] using World.cell?_spot h0
  obtain ⟨b, o, sp⟩ := a
  simp only at hs
  subst hs
  simp only [Addr.add] at h0 h1 h2 h3 h4 h5 h6 h7 h8 h9 h10
  refine ⟨c0, c1, c2, c3, c4, c5, c6, c7, c8, c9, c10, rfl, rfl, World.block_lt_of_cell? _ _ h0, fun q hq => ?_⟩
  match q, hq with
  | 0, _ => simpa using h0
  | 1, _ => simpa using h1
  | 2, _ => simpa using h2
  | 3, _ => simpa using h3
  | 4, _ => simpa using h4
  | 5, _ => simpa using h5
  | 6, _ => simpa using h6
  | 7, _ => simpa using h7
  | 8, _ => simpa using h8
  | 9, _ => simpa using h9
  | 10, _ => simpa using h10
theorem two_cells {w : World} {a : Addr} {cs : List Value} (h : w.cells? 0 a 2 = some cs) : ∃ c0 c1, cs = [c0, c1] ∧ a.spot = none ∧ a.block < w.heap.size ∧ ∀ q, q < 2 → w.cell? ⟨a.block, a.off + q, none⟩ = (#[c0, c1] : Array Value)[q]? := by
  unfold World.cells? at h
  rw [if_pos (Nat.zero_le _)] at h
  simp only [show List.range 2 = [0, 1] from rfl, List.mapM_cons, List.mapM_nil, Option.bind_eq_bind, Option.bind_eq_some_iff, Option.pure_def, Option.some.injEq] at h
  obtain ⟨c0, h0, _, ⟨c1, h1, _, rfl, rfl⟩, rfl⟩ := h
  have hs : a.spot = none := by simpa [Addr.add] using World.cell?_spot h0
  obtain ⟨b, o, sp⟩ := a
  simp only at hs
  subst hs
  simp only [Addr.add] at h0 h1
  refine ⟨c0, c1, rfl, rfl, World.block_lt_of_cell? _ _ h0, fun q hq => ?_⟩
  match q, hq with
  | 0, _ => simpa using h0
  | 1, _ => simpa using h1
theorem cof3 : Tryz.prog.cellsOf 3 = 1 := by kernel_rfl
theorem cof2 : Tryz.prog.cellsOf 2 = 1 := by kernel_rfl
theorem cof9 : Tryz.prog.cellsOf 9 = 1 := by kernel_rfl
theorem cof80 : Tryz.prog.cellsOf 80 = 1 := by kernel_rfl
theorem cof59 : Tryz.prog.cellsOf 59 = 1 := by kernel_rfl
theorem cof23 : Tryz.prog.cellsOf 23 = 1 := by kernel_rfl
theorem cof82 : Tryz.prog.cellsOf 82 = 6 := by kernel_rfl
theorem cof84 : Tryz.prog.cellsOf 84 = 11 := by kernel_rfl
theorem cof86 : Tryz.prog.cellsOf 86 = 2 := by kernel_rfl

/-- A datum's six values. -/
theorem datum_of_trod {H : Type} {enc : TypeId × Value → H} {w : World} {sp : Nat → Bool} {held : Bool} {fuel : Nat} {c0 c1 c2 c3 c4 c5 : Value} {x : DataW H × List MemPlace}
    (ht : DataW.trod enc Tryz.prog w 0 sp held fuel 82 [c0, c1, c2, c3, c4, c5] = some x)
    (ih : ∀ m, m < fuel → ∀ (v : Value) (x : DataW H × List MemPlace), DataW.trod enc Tryz.prog w 0 sp held m 80 [v] = some x → ∃ (a : Option Addr) (cap : Nat) (ds : List Dat), v = .slice a ds.length cap ∧ ds.length ≤ cap ∧ Dc (fun k => k < w.heap.size) w m a ds) :
    ∃ (d : Dat) (a : Option Addr) (cap : Nat), c0 = .int .i64 d.kind ∧ c1 = .int .i64 d.n ∧ c2 = .string d.name ∧ c3 = .int .i64 d.stamp ∧ c4 = .int .i64 d.lib ∧ c5 = .slice a d.kids.length cap ∧ d.name.size ≤ maxLen ∧ d.kids.length ≤ cap ∧ Dc (fun k => k < w.heap.size) w fuel a d.kids := by
  obtain ⟨xs, m, hm, rfl, _, hxl, hf⟩ := DataW.trod_struct Tryz.underlying82 ht
  have e0 : DataW.trod enc Tryz.prog w 0 sp held m 3 (([c0, c1, c2, c3, c4, c5].drop 0).take (Tryz.prog.cellsOf 3)) = xs[0]? := hf 0 _ rfl
  have e1 : DataW.trod enc Tryz.prog w 0 sp held m 2 (([c0, c1, c2, c3, c4, c5].drop 1).take (Tryz.prog.cellsOf 2)) = xs[1]? := hf 1 _ rfl
  have e2 : DataW.trod enc Tryz.prog w 0 sp held m 9 (([c0, c1, c2, c3, c4, c5].drop 2).take (Tryz.prog.cellsOf 9)) = xs[2]? := hf 2 _ rfl
  have e3 : DataW.trod enc Tryz.prog w 0 sp held m 3 (([c0, c1, c2, c3, c4, c5].drop 3).take (Tryz.prog.cellsOf 3)) = xs[3]? := hf 3 _ rfl
  have e4 : DataW.trod enc Tryz.prog w 0 sp held m 3 (([c0, c1, c2, c3, c4, c5].drop 4).take (Tryz.prog.cellsOf 3)) = xs[4]? := hf 4 _ rfl
  have e5 : DataW.trod enc Tryz.prog w 0 sp held m 80 (([c0, c1, c2, c3, c4, c5].drop 5).take (Tryz.prog.cellsOf 80)) = xs[5]? := hf 5 _ rfl
  have hxn : xs.length = 6 := hxl
  rw [List.getElem?_eq_getElem (by omega)] at e0 e1 e2 e3 e4 e5
  rw [cof3] at e0
  rw [cof2] at e1
  rw [cof9] at e2
  rw [cof3] at e3
  rw [cof3] at e4
  rw [cof80] at e5
  simp only [List.drop_zero, List.take_succ_cons, List.take_zero, List.drop_succ_cons] at e0 e1 e2 e3 e4 e5
  obtain ⟨k, hk, _, _⟩ := DataW.trod_int Tryz.underlying3 e0
  obtain ⟨nn, hnn, _, _⟩ := DataW.trod_int Tryz.underlying2 e1
  obtain ⟨s, hsn, hs2, hsz⟩ := DataW.trod_string Tryz.underlying9 e2
  obtain ⟨st, hst, _, _⟩ := DataW.trod_int Tryz.underlying3 e3
  obtain ⟨lb, hlb, _, _⟩ := DataW.trod_int Tryz.underlying3 e4
  obtain ⟨a', cap', ks, hks, hcp, hlk⟩ := ih m (by omega) c5 _ e5
  simp at hk hnn hsn hst hlb
  subst hk hnn hsn hst hlb hks
  refine ⟨⟨k, nn, s, st, lb, ks⟩, a', cap', rfl, rfl, rfl, rfl, rfl, rfl, hsz, hcp, ?_⟩
  have := hlk.uptoX (fuel - m)
  rwa [show m + (fuel - m) = fuel by omega] at this

/-- WHAT CAN BE READ AS DATA LIES IN MEMORY AS DATA DO. -/
theorem data_of_trod {H : Type} {enc : TypeId × Value → H} {w : World} {sp : Nat → Bool} {held : Bool} : ∀ (F fuel : Nat), fuel ≤ F → ∀ (v : Value) (x : DataW H × List MemPlace), DataW.trod enc Tryz.prog w 0 sp held fuel 80 [v] = some x →
    ∃ (a : Option Addr) (cap : Nat) (ds : List Dat), v = .slice a ds.length cap ∧ ds.length ≤ cap ∧ Dc (fun k => k < w.heap.size) w fuel a ds
  | 0, fuel, hF, v, x, h => by
    obtain rfl : fuel = 0 := by omega
    simp [DataW.trod] at h
  | F + 1, fuel, hF, v, x, h => by
    rcases DataW.trod_slice Tryz.underlying80 h with ⟨hv, _⟩ | ⟨a, len, cap, elems, rest, n, hn, hv, rfl, _, hlc, hcm, hel, hall, _, _⟩
    · simp at hv
      refine ⟨none, 0, [], hv, Nat.le_refl _, ?_⟩
      have := Dc.uptoX (ok := fun k => k < w.heap.size) (w := w) (f := 0) (a := none) (ds := []) rfl fuel
      rwa [Nat.zero_add] at this
    · simp at hv
      have key : ∀ i, i < len → ∃ d : Dat, ∃ a' cap', (i = 0 → a.spot = none) ∧ a.block < w.heap.size ∧
          w.cell? ⟨a.block, a.off + i * 6, none⟩ = some (.int .i64 d.kind) ∧ w.cell? ⟨a.block, a.off + i * 6 + 1, none⟩ = some (.int .i64 d.n) ∧ w.cell? ⟨a.block, a.off + i * 6 + 2, none⟩ = some (.string d.name) ∧
          w.cell? ⟨a.block, a.off + i * 6 + 3, none⟩ = some (.int .i64 d.stamp) ∧ w.cell? ⟨a.block, a.off + i * 6 + 4, none⟩ = some (.int .i64 d.lib) ∧ w.cell? ⟨a.block, a.off + i * 6 + 5, none⟩ = some (.slice a' d.kids.length cap') ∧
          d.name.size ≤ maxLen ∧ d.kids.length ≤ cap' ∧ Dc (fun k => k < w.heap.size) w n a' d.kids := by
        intro i hi
        have h1 := hall i hi
        rw [cof82, List.getElem?_eq_getElem (by omega)] at h1
        obtain ⟨cs, hcs, ht⟩ := Option.bind_eq_some_iff.1 h1
        obtain ⟨c0, c1, c2, c3, c4, c5, rfl, hs, hb, gg⟩ := six_cells hcs
        obtain ⟨d, a', cap', rfl, rfl, rfl, rfl, rfl, rfl, p1, p2, p3⟩ := datum_of_trod ht fun m hm v x h => data_of_trod F m (by omega) v x h
        rw [(add_at a _).1, (add_at a _).2] at gg
        rw [(add_at a _).1] at hb
        refine ⟨d, a', cap', ?_, hb, gg 0 (by decide), gg 1 (by decide), gg 2 (by decide), gg 3 (by decide), gg 4 (by decide), gg 5 (by decide), p1, p2, p3⟩
        intro h0
        subst h0
        simpa [Addr.add] using hs
      obtain ⟨ds, hdl, hd⟩ := pick_list _ len key
      refine ⟨some a, cap, ds, by rw [hv, hdl], by omega, ?_⟩
      rw [hn]
      refine ⟨by unfold maxLen at hcm; omega, ?_⟩
      by_cases h0 : ds = []
      · exact Or.inl h0
      · have hpos : 0 < ds.length := List.length_pos_iff.2 h0
        obtain ⟨_, _, hsp, hbl, _⟩ := hd 0 ds[0] (List.getElem?_eq_getElem hpos)
        have hsp' := hsp rfl
        obtain ⟨b, o, spt⟩ := a
        simp only at hsp' hbl
        subst hsp'
        refine Or.inr ⟨b, o, rfl, hbl, ?_⟩
        intro i d hi
        obtain ⟨a', cap', _, _, r0, r1, r2, r3, r4, r5, r6, r7, r8⟩ := hd i d hi
        exact ⟨a', cap', r0, r1, r2, r3, r4, r5, r6, r7, r8⟩
/-- An instruction's eleven values. -/
theorem ins_of_trod {H : Type} {enc : TypeId × Value → H} {w : World} {sp : Nat → Bool} {held : Bool} {fuel : Nat} {c0 c1 c2 c3 c4 c5 c6 c7 c8 c9 c10 : Value} {x : DataW H × List MemPlace} {b o : Nat}
    (ht : DataW.trod enc Tryz.prog w 0 sp held fuel 84 [c0, c1, c2, c3, c4, c5, c6, c7, c8, c9, c10] = some x) (gg : ∀ q, q < 11 → w.cell? ⟨b, o + q, none⟩ = (#[c0, c1, c2, c3, c4, c5, c6, c7, c8, c9, c10] : Array Value)[q]?) :
    ∃ (y : In) (qa : Option Addr) (qc : Nat), IL w.heap.size w b o y qa qc := by
  obtain ⟨xs, m, hm, rfl, _, hxl, hf⟩ := DataW.trod_struct Tryz.underlying84 ht
  have e0 : DataW.trod enc Tryz.prog w 0 sp held m 3 (([c0, c1, c2, c3, c4, c5, c6, c7, c8, c9, c10].drop 0).take (Tryz.prog.cellsOf 3)) = xs[0]? := hf 0 _ rfl
  have e1 : DataW.trod enc Tryz.prog w 0 sp held m 3 (([c0, c1, c2, c3, c4, c5, c6, c7, c8, c9, c10].drop 1).take (Tryz.prog.cellsOf 3)) = xs[1]? := hf 1 _ rfl
  have e2 : DataW.trod enc Tryz.prog w 0 sp held m 2 (([c0, c1, c2, c3, c4, c5, c6, c7, c8, c9, c10].drop 2).take (Tryz.prog.cellsOf 2)) = xs[2]? := hf 2 _ rfl
  have e3 : DataW.trod enc Tryz.prog w 0 sp held m 9 (([c0, c1, c2, c3, c4, c5, c6, c7, c8, c9, c10].drop 3).take (Tryz.prog.cellsOf 9)) = xs[3]? := hf 3 _ rfl
  have e4 : DataW.trod enc Tryz.prog w 0 sp held m 9 (([c0, c1, c2, c3, c4, c5, c6, c7, c8, c9, c10].drop 4).take (Tryz.prog.cellsOf 9)) = xs[4]? := hf 4 _ rfl
  have e5 : DataW.trod enc Tryz.prog w 0 sp held m 82 (([c0, c1, c2, c3, c4, c5, c6, c7, c8, c9, c10].drop 5).take (Tryz.prog.cellsOf 82)) = xs[5]? := hf 5 _ rfl
  have hxn : xs.length = 6 := hxl
  rw [List.getElem?_eq_getElem (by omega)] at e0 e1 e2 e3 e4 e5
  rw [cof3] at e0
  rw [cof3] at e1
  rw [cof2] at e2
  rw [cof9] at e3
  rw [cof9] at e4
  rw [cof82] at e5
  simp only [List.drop_zero, List.take_succ_cons, List.take_zero, List.drop_succ_cons] at e0 e1 e2 e3 e4 e5
  obtain ⟨k, hk, _, _⟩ := DataW.trod_int Tryz.underlying3 e0
  obtain ⟨ix, hix, _, _⟩ := DataW.trod_int Tryz.underlying3 e1
  obtain ⟨nn, hnn, _, _⟩ := DataW.trod_int Tryz.underlying2 e2
  obtain ⟨lb, hlb, hlb2, hlbz⟩ := DataW.trod_string Tryz.underlying9 e3
  obtain ⟨ow, how, how2, howz⟩ := DataW.trod_string Tryz.underlying9 e4
  obtain ⟨q, qa, qc, rfl, rfl, rfl, rfl, rfl, rfl, q1, q2, q3⟩ := datum_of_trod e5 fun m hm v x h => data_of_trod m m (Nat.le_refl _) v x h
  simp at hk hix hnn hlb how
  subst hk hix hnn hlb how
  exact ⟨⟨k, ix, nn, lb, ow, q⟩, qa, qc, gg 0 (by decide), gg 1 (by decide), gg 2 (by decide), gg 3 (by decide), gg 4 (by decide), gg 5 (by decide), gg 6 (by decide), gg 7 (by decide), gg 8 (by decide), gg 9 (by decide), gg 10 (by decide), hlbz, howz, q1, q2, m, q3⟩

/-- Instructions in a row. -/
theorem code_of_trod {H : Type} {enc : TypeId × Value → H} {w : World} {sp : Nat → Bool} {held : Bool} {fuel : Nat} {v : Value} {x : DataW H × List MemPlace} (h : DataW.trod enc Tryz.prog w 0 sp held fuel 59 [v] = some x) :
    ∃ (a : Option Addr) (cap : Nat) (l : List In), v = .slice a l.length cap ∧ l.length ≤ cap ∧ l.length ≤ 9223372036854775807 ∧ CL w.heap.size w a l := by
  rcases DataW.trod_slice Tryz.underlying59 h with ⟨hv, _⟩ | ⟨a, len, cap, elems, rest, n, hn, hv, rfl, _, hlc, hcm, hel, hall, _, _⟩
  · simp at hv
    exact ⟨none, 0, [], hv, Nat.le_refl _, Nat.zero_le _, Or.inl rfl⟩
  · simp at hv
    have key : ∀ i, i < len → ∃ y : In, (i = 0 → a.spot = none) ∧ a.block < w.heap.size ∧ ∃ qa qc, IL w.heap.size w a.block (a.off + i * 11) y qa qc := by
      intro i hi
      have h1 := hall i hi
      rw [cof84, List.getElem?_eq_getElem (by omega)] at h1
      obtain ⟨cs, hcs, ht⟩ := Option.bind_eq_some_iff.1 h1
      obtain ⟨c0, c1, c2, c3, c4, c5, c6, c7, c8, c9, c10, rfl, hs, hb, gg⟩ := eleven_cells hcs
      rw [(add_at a _).1, (add_at a _).2] at gg
      rw [(add_at a _).1] at hb
      obtain ⟨y, qa, qc, hy⟩ := ins_of_trod ht gg
      refine ⟨y, ?_, hb, qa, qc, hy⟩
      intro h0
      subst h0
      simpa [Addr.add] using hs
    obtain ⟨ds, hdl, hd⟩ := pick_list _ len key
    refine ⟨some a, cap, ds, by rw [hv, hdl], by omega, by unfold maxLen at hcm; omega, ?_⟩
    by_cases h0 : ds = []
    · exact Or.inl h0
    · have hpos : 0 < ds.length := List.length_pos_iff.2 h0
      obtain ⟨hsp, hbl, _⟩ := hd 0 ds[0] (List.getElem?_eq_getElem hpos)
      have hsp' := hsp rfl
      obtain ⟨b, o, spt⟩ := a
      simp only at hsp' hbl
      subst hsp'
      exact Or.inr ⟨b, o, rfl, hbl, fun i d hi => (hd i d hi).2.2⟩

/-- Procedures in a row. -/
theorem protos_of_trod {H : Type} {enc : TypeId × Value → H} {w : World} {sp : Nat → Bool} {held : Bool} {fuel : Nat} {v : Value} {x : DataW H × List MemPlace} (h : DataW.trod enc Tryz.prog w 0 sp held fuel 23 [v] = some x) :
    ∃ (a : Option Addr) (cap : Nat) (l : List Pro), v = .slice a l.length cap ∧ l.length ≤ cap ∧ l.length ≤ 9223372036854775807 ∧ PL w.heap.size w a l := by
  rcases DataW.trod_slice Tryz.underlying23 h with ⟨hv, _⟩ | ⟨a, len, cap, elems, rest, n, hn, hv, rfl, _, hlc, hcm, hel, hall, _, _⟩
  · simp at hv
    exact ⟨none, 0, [], hv, Nat.le_refl _, Nat.zero_le _, Or.inl rfl⟩
  · simp at hv
    have key : ∀ i, i < len → ∃ y : Pro, (i = 0 → a.spot = none) ∧ a.block < w.heap.size ∧ ∃ ca cc, w.cell? ⟨a.block, a.off + i * 2, none⟩ = some (.int .i64 y.args) ∧ w.cell? ⟨a.block, a.off + i * 2 + 1, none⟩ = some (.slice ca y.code.length cc) ∧ y.code.length ≤ cc ∧ CL w.heap.size w ca y.code := by
      intro i hi
      have h1 := hall i hi
      rw [cof86, List.getElem?_eq_getElem (by omega)] at h1
      obtain ⟨cs, hcs, ht⟩ := Option.bind_eq_some_iff.1 h1
      obtain ⟨c0, c1, rfl, hs, hb, gg⟩ := two_cells hcs
      rw [(add_at a _).1, (add_at a _).2] at gg
      rw [(add_at a _).1] at hb
      obtain ⟨xs, m, hm, _, _, hxl, hf⟩ := DataW.trod_struct Tryz.underlying86 ht
      have e0 : DataW.trod enc Tryz.prog w 0 sp held m 3 (([c0, c1].drop 0).take (Tryz.prog.cellsOf 3)) = xs[0]? := hf 0 _ rfl
      have e1 : DataW.trod enc Tryz.prog w 0 sp held m 59 (([c0, c1].drop 1).take (Tryz.prog.cellsOf 59)) = xs[1]? := hf 1 _ rfl
      have hxn : xs.length = 2 := hxl
      rw [List.getElem?_eq_getElem (by omega)] at e0 e1
      rw [cof3] at e0
      rw [cof59] at e1
      simp only [List.drop_zero, List.take_succ_cons, List.take_zero, List.drop_succ_cons] at e0 e1
      obtain ⟨k, hk, _, _⟩ := DataW.trod_int Tryz.underlying3 e0
      obtain ⟨ca, cc, l, hl, hlc', _, hcl⟩ := code_of_trod e1
      simp at hk
      subst hk hl
      refine ⟨⟨k, l⟩, ?_, hb, ca, cc, gg 0 (by decide), gg 1 (by decide), hlc', hcl⟩
      intro h0
      subst h0
      simpa [Addr.add] using hs
    obtain ⟨ds, hdl, hd⟩ := pick_list _ len key
    refine ⟨some a, cap, ds, by rw [hv, hdl], by omega, by unfold maxLen at hcm; omega, ?_⟩
    by_cases h0 : ds = []
    · exact Or.inl h0
    · have hpos : 0 < ds.length := List.length_pos_iff.2 h0
      obtain ⟨hsp, hbl, _⟩ := hd 0 ds[0] (List.getElem?_eq_getElem hpos)
      have hsp' := hsp rfl
      obtain ⟨b, o, spt⟩ := a
      simp only at hsp' hbl
      subst hsp'
      exact Or.inr ⟨b, o, rfl, hbl, fun i d hi => (hd i d hi).2.2⟩

theorem cof24 : Tryz.prog.cellsOf 24 = 1 := by kernel_rfl
theorem cof22 : Tryz.prog.cellsOf 22 = 1 := by kernel_rfl
theorem one_cell {w : World} {a : Addr} {cs : List Value} (h : w.cells? 0 a 1 = some cs) : ∃ c0, cs = [c0] ∧ a.spot = none ∧ a.block < w.heap.size ∧ w.cell? ⟨a.block, a.off, none⟩ = some c0 := by
  unfold World.cells? at h
  rw [if_pos (Nat.zero_le _)] at h
  simp only [show List.range 1 = [0] from rfl, List.mapM_cons, List.mapM_nil, Option.bind_eq_bind, Option.bind_eq_some_iff, Option.pure_def, Option.some.injEq] at h
  obtain ⟨c0, h0, _, rfl, rfl⟩ := h
  have hs : a.spot = none := by simpa [Addr.add] using World.cell?_spot h0
  obtain ⟨b, o, sp⟩ := a
  simp only at hs
  subst hs
  simp only [Addr.add] at h0
  exact ⟨c0, rfl, rfl, World.block_lt_of_cell? _ _ h0, by simpa using h0⟩
/-- Numbers in a row. -/
theorem ints_of_trod {H : Type} {enc : TypeId × Value → H} {w : World} {sp : Nat → Bool} {held : Bool} {fuel : Nat} {v : Value} {x : DataW H × List MemPlace} (h : DataW.trod enc Tryz.prog w 0 sp held fuel 24 [v] = some x) :
    ∃ (a : Option Addr) (cap : Nat) (l : List Int), v = .slice a l.length cap ∧ l.length ≤ cap ∧ NL w.heap.size w a l := by
  rcases DataW.trod_slice Tryz.underlying24 h with ⟨hv, _⟩ | ⟨a, len, cap, elems, rest, n, hn, hv, rfl, _, hlc, hcm, hel, hall, _, _⟩
  · simp at hv
    exact ⟨none, 0, [], hv, Nat.le_refl _, Or.inl rfl⟩
  · simp at hv
    have key : ∀ i, i < len → ∃ y : Int, (i = 0 → a.spot = none) ∧ a.block < w.heap.size ∧ w.cell? ⟨a.block, a.off + i, none⟩ = some (.int .i64 y) := by
      intro i hi
      have h1 := hall i hi
      rw [cof3, List.getElem?_eq_getElem (by omega)] at h1
      obtain ⟨cs, hcs, ht⟩ := Option.bind_eq_some_iff.1 h1
      obtain ⟨c0, rfl, hs, hb, gg⟩ := one_cell hcs
      rw [(add_at a _).1, (add_at a _).2, Nat.mul_one] at gg
      rw [(add_at a _).1] at hb
      obtain ⟨m, hm, _, hwf⟩ := DataW.trod_int Tryz.underlying3 ht
      simp at hm
      subst hm
      refine ⟨m, ?_, hb, gg⟩
      intro h0
      subst h0
      simpa [Addr.add] using hs
    obtain ⟨ds, hdl, hd⟩ := pick_list _ len key
    refine ⟨some a, cap, ds, by rw [hv, hdl], by omega, ?_⟩
    by_cases h0 : ds = []
    · exact Or.inl h0
    · have hpos : 0 < ds.length := List.length_pos_iff.2 h0
      obtain ⟨hsp, hbl, _⟩ := hd 0 ds[0] (List.getElem?_eq_getElem hpos)
      have hsp' := hsp rfl
      obtain ⟨b, o, spt⟩ := a
      simp only at hsp' hbl
      subst hsp'
      exact Or.inr ⟨b, o, rfl, hbl, fun i d hi => (hd i d hi).2.2⟩
/-- AN IMAGE AMONG THE ARGUMENTS. -/
theorem image_of_trod {H : Type} {enc : TypeId × Value → H} {w : World} {sp : Nat → Bool} {held : Bool} {fuel : Nat} {c0 c1 c2 : Value} {x : DataW H × List MemPlace} (ht : DataW.trod enc Tryz.prog w 0 sp held fuel 26 [c0, c1, c2] = some x) :
    ∃ (ga pa ba : Option Addr) (ng gc pc bc : Nat) (PP : List Pro) (ss : List Int), c0 = .slice ga ng gc ∧ c1 = .slice pa PP.length pc ∧ c2 = .slice ba ss.length bc ∧ PP.length ≤ pc ∧ ss.length ≤ bc ∧ PL w.heap.size w pa PP ∧ NL w.heap.size w ba ss := by
  obtain ⟨xs, m, hm, rfl, _, hxl, hf⟩ := DataW.trod_struct Tryz.underlying26 ht
  have e0 : DataW.trod enc Tryz.prog w 0 sp held m 22 (([c0, c1, c2].drop 0).take (Tryz.prog.cellsOf 22)) = xs[0]? := hf 0 _ rfl
  have e1 : DataW.trod enc Tryz.prog w 0 sp held m 23 (([c0, c1, c2].drop 1).take (Tryz.prog.cellsOf 23)) = xs[1]? := hf 1 _ rfl
  have e2 : DataW.trod enc Tryz.prog w 0 sp held m 24 (([c0, c1, c2].drop 2).take (Tryz.prog.cellsOf 24)) = xs[2]? := hf 2 _ rfl
  have hxn : xs.length = 3 := hxl
  rw [List.getElem?_eq_getElem (by omega)] at e0 e1 e2
  rw [cof22] at e0
  rw [cof23] at e1
  rw [cof24] at e2
  simp only [List.drop_zero, List.take_succ_cons, List.take_zero, List.drop_succ_cons] at e0 e1 e2
  obtain ⟨pa, pc, PP, h1, h2, _, h4⟩ := protos_of_trod e1
  obtain ⟨ba, bc, ss, h5, h6, h7⟩ := ints_of_trod e2
  rcases DataW.trod_slice Tryz.underlying22 e0 with ⟨hv, _⟩ | ⟨a, len, cap, elems, rest, n, hn, hv, _⟩
  · simp at hv
    exact ⟨none, pa, ba, 0, 0, pc, bc, PP, ss, hv, h1, h5, h2, h6, h4, h7⟩
  · simp at hv
    exact ⟨some a, pa, ba, len, cap, pc, bc, PP, ss, hv, h1, h5, h2, h6, h4, h7⟩
end Go.Proofs.YthikdpclifeonaaGreatDoor
