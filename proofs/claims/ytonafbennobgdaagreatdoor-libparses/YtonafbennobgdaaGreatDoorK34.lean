/- From the rows' conditions to what the walks ask: data, texts, files; the words of sets. -/
import Derived.ProofKit
import Derived.OpenShut
import Derived.SizedLaws
import Derived.ChangeAlike
import Derived.Lib.LaidTab
import Derived.Lay
import Derived.Deep.DeepHandedRow
import Derived.Deep.DeepWitnessRowRef
import Derived.Test.YtonafbennobgdaaGreatDoorRows
import Derived.Test.YtonafbennobgdaaGreatDoorK33
namespace Go.Proofs.YtonafbennobgdaaGreatDoor
set_option linter.unusedVariables false
set_option linter.unusedSimpArgs false
open Go.ChangeShapes Go.WideShapes Go.ChangeAt Go.RowKit
theorem reachBytes_ltG : reachBytes < 281474976710656 := by unfold reachBytes; decide
mutual
def smD : Dat → Prop
 | ⟨k, n, nm, st, lb, ks⟩ => (k = 3 → nm.size ≤ 281474976710656) ∧ (k = 4 → smL ks)
def smL : List Dat → Prop
 | [] => True
 | d :: r => smD d ∧ smL r
end
theorem Dn.nilG (w : World) (f : Nat) (a : Option Addr) : Dn w f a [] := Dc.nil _ _ _ _
theorem cells26 : Tryz.prog.cellsOf 26 = 6 := by kernel_rfl
theorem cells1_3 : Tryz.prog.cellsOf 3 = 1 := by kernel_rfl
theorem cells1_2 : Tryz.prog.cellsOf 2 = 1 := by kernel_rfl
theorem cells1_9 : Tryz.prog.cellsOf 9 = 1 := by kernel_rfl
theorem cells1_24 : Tryz.prog.cellsOf 24 = 1 := by kernel_rfl
theorem bytes26 : Tryz.prog.bytesOf 26 = 72 := by kernel_rfl
theorem six_cells {w : World} {a : Addr} {cs : List Value} (h : w.cells? 0 a 6 = some cs) : ∃ c0 c1 c2 c3 c4 c5, cs = [c0, c1, c2, c3, c4, c5] ∧ a.spot = none ∧ a.block < w.heap.size ∧
 w.cell? ⟨a.block, a.off, none⟩ = some c0 ∧ w.cell? ⟨a.block, a.off + 1, none⟩ = some c1 ∧ w.cell? ⟨a.block, a.off + 2, none⟩ = some c2 ∧ w.cell? ⟨a.block, a.off + 3, none⟩ = some c3 ∧ w.cell? ⟨a.block, a.off + 4, none⟩ = some c4 ∧ w.cell? ⟨a.block, a.off + 5, none⟩ = some c5 := by
 unfold World.cells? at h
 rw [if_pos (Nat.zero_le _)] at h
 simp only [show List.range 6 = [0, 1, 2, 3, 4, 5] from rfl, List.mapM_cons, List.mapM_nil, Option.bind_eq_bind, Option.bind_eq_some_iff, Option.pure_def, Option.some.injEq] at h
 obtain ⟨c0, h0, _, ⟨c1, h1, _, ⟨c2, h2, _, ⟨c3, h3, _, ⟨c4, h4, _, ⟨c5, h5, _, rfl, rfl⟩, rfl⟩, rfl⟩, rfl⟩, rfl⟩, rfl⟩ := h
 have hs : a.spot = none := by simpa [Addr.add] using World.cell?_spot h0
 obtain ⟨b, o, sp⟩ := a
 simp only at hs
 subst hs
 simp only [Addr.add] at h0 h1 h2 h3 h4 h5
 exact ⟨c0, c1, c2, c3, c4, c5, rfl, rfl, World.block_lt_of_cell? _ _ h0, h0, h1, h2, h3, h4, h5⟩
theorem weightsAll_mem {H : Type} {P : Program} {e : TypeId} : ∀ {ds : List (DataW H)} {i : Nat} {d : DataW H}, ds[i]? = some d → ∀ n ∈ d.weights P e, n ∈ DataW.weightsAll P e ds
 | [], i, d, h, n, hn => by cases h
 | x :: r, 0, d, h, n, hn => by
  simp at h
  subst h
  unfold DataW.weightsAll
  exact List.mem_append_left _ hn
 | x :: r, i + 1, d, h, n, hn => by
  unfold DataW.weightsAll
  exact List.mem_append_right _ (weightsAll_mem (by simpa using h) n hn)
def Lt {H : Type} (t : TypeId) (x : DataW H) : Prop := ∀ n ∈ x.weights Tryz.prog t, n ≤ reachBytes
theorem Lt.elem {H : Type} {elems spare : List (DataW H)} (h : Lt 24 (.slice elems spare)) {i : Nat} {d : DataW H} (hd : elems[i]? = some d) : Lt 26 d := fun n hn => by
 refine h n ?_
 unfold DataW.weights
 rw [Tryz.underlying24]
 exact List.mem_cons_of_mem _ (List.mem_append_left _ (weightsAll_mem hd n hn))
theorem Lt.len {H : Type} {elems spare : List (DataW H)} (h : Lt 24 (.slice elems spare)) : elems.length * 72 ≤ reachBytes := by
 have := h ((elems.length + spare.length) * Tryz.prog.bytesOf 26) (by
  unfold DataW.weights
  rw [Tryz.underlying24]
  exact List.mem_cons_self)
 rw [bytes26] at this
 have h2 : elems.length * 72 ≤ (elems.length + spare.length) * 72 := Nat.mul_le_mul_right _ (by omega)
 omega
theorem datum_of_trod {H : Type} {enc : TypeId × Value → H} {w : World} {sp : Nat → Bool} {held : Bool} {fuel : Nat} {c0 c1 c2 c3 c4 c5 : Value} {x : DataW H × List MemPlace}
 (ht : DataW.trod enc Tryz.prog w 0 sp held fuel 26 [c0, c1, c2, c3, c4, c5] = some x) (hx : Lt 26 x.1)
 (ih : ∀ m, m < fuel → ∀ (v : Value) (x : DataW H × List MemPlace), DataW.trod enc Tryz.prog w 0 sp held m 24 [v] = some x → Lt 24 x.1 → ∃ (a : Option Addr) (cap : Nat) (ds : List Dat), v = .slice a ds.length cap ∧ ds.length ≤ cap ∧ Dn w m a ds ∧ smL ds ∧ ds.length * 72 ≤ reachBytes) :
 ∃ (d : Dat) (a : Option Addr) (cap : Nat), c0 = .int .i64 d.kind ∧ c1 = .int .i64 d.n ∧ c2 = .string d.name ∧ c3 = .int .i64 d.stamp ∧ c4 = .int .i64 d.lib ∧ c5 = .slice a d.kids.length cap ∧ d.name.size ≤ maxLen ∧ d.kids.length ≤ cap ∧ Dn w fuel a d.kids ∧ smD d := by
 obtain ⟨xs, m, hm, rfl, _, hxl, hf⟩ := DataW.trod_struct Tryz.underlying26 ht
 have e0 : DataW.trod enc Tryz.prog w 0 sp held m 3 (([c0, c1, c2, c3, c4, c5].drop 0).take (Tryz.prog.cellsOf 3)) = xs[0]? := hf 0 _ rfl
 have e1 : DataW.trod enc Tryz.prog w 0 sp held m 2 (([c0, c1, c2, c3, c4, c5].drop 1).take (Tryz.prog.cellsOf 2)) = xs[1]? := hf 1 _ rfl
 have e2 : DataW.trod enc Tryz.prog w 0 sp held m 9 (([c0, c1, c2, c3, c4, c5].drop 2).take (Tryz.prog.cellsOf 9)) = xs[2]? := hf 2 _ rfl
 have e3 : DataW.trod enc Tryz.prog w 0 sp held m 3 (([c0, c1, c2, c3, c4, c5].drop 3).take (Tryz.prog.cellsOf 3)) = xs[3]? := hf 3 _ rfl
 have e4 : DataW.trod enc Tryz.prog w 0 sp held m 3 (([c0, c1, c2, c3, c4, c5].drop 4).take (Tryz.prog.cellsOf 3)) = xs[4]? := hf 4 _ rfl
 have e5 : DataW.trod enc Tryz.prog w 0 sp held m 24 (([c0, c1, c2, c3, c4, c5].drop 5).take (Tryz.prog.cellsOf 24)) = xs[5]? := hf 5 _ rfl
 have hx6 : xs.length = 6 := hxl
 have W : ∀ (i : Nat) (t : TypeId) (y : DataW H × List MemPlace), xs[i]? = some y → ([3, 2, 9, 3, 3, 24] : List TypeId)[i]? = some t → Lt t y.1 := by
  intro i t y hy htt n hn
  refine hx n ?_
  unfold DataW.weights
  rw [Tryz.underlying26]
  exact DataW.weights_mem_each (j := i) (t := t) (d := y.1) htt (by rw [List.getElem?_map, hy]; rfl) n hn
 rw [List.getElem?_eq_getElem (by omega)] at e0 e1 e2 e3 e4 e5
 rw [cells1_3] at e0 e3 e4
 rw [cells1_2] at e1
 rw [cells1_9] at e2
 rw [cells1_24] at e5
 simp only [List.drop_zero, List.take_succ_cons, List.take_zero, List.drop_succ_cons] at e0 e1 e2 e3 e4 e5
 obtain ⟨k, hk, _, _⟩ := DataW.trod_int Tryz.underlying3 e0
 obtain ⟨nn, hnn, _, _⟩ := DataW.trod_int Tryz.underlying2 e1
 obtain ⟨s, hsn, hs2, hsz⟩ := DataW.trod_string Tryz.underlying9 e2
 obtain ⟨st, hst, _, _⟩ := DataW.trod_int Tryz.underlying3 e3
 obtain ⟨lb, hlb, _, _⟩ := DataW.trod_int Tryz.underlying3 e4
 obtain ⟨a', cap', ks, hks, hcp, hlk, hsm, _⟩ := ih m (by omega) c5 _ e5 (W 5 24 _ (List.getElem?_eq_getElem (by omega)) rfl)
 have hlt : s.size ≤ 281474976710656 := by
  have := W 2 9 _ (List.getElem?_eq_getElem (by omega)) rfl s.data.toList.length (by rw [hs2]; simp [DataW.weights])
  have h2 := reachBytes_ltG
  have h3 : s.data.toList.length = s.size := Array.length_toList
  omega
 simp at hk hnn hsn hst hlb
 subst hk hnn hsn hst hlb hks
 refine ⟨⟨k, nn, s, st, lb, ks⟩, a', cap', rfl, rfl, rfl, rfl, rfl, rfl, hsz, hcp, ?_, ?_⟩
 ·have := hlk.upto (fuel - m)
  rwa [show m + (fuel - m) = fuel by omega] at this
 rw [smD]
 exact ⟨fun _ => hlt, fun _ => hsm⟩
theorem smL_of {l : List Dat} : (∀ d ∈ l, smD d) → smL l := by
 induction l with
 | nil => intro _; rw [smL]; trivial
 | cons x r ih => intro h; rw [smL]; exact ⟨h x (by simp), ih fun d hd => h d (by simp [hd])⟩
theorem data_of_trod {H : Type} {enc : TypeId × Value → H} {w : World} {sp : Nat → Bool} {held : Bool} : ∀ (F fuel : Nat), fuel ≤ F → ∀ (v : Value) (x : DataW H × List MemPlace), DataW.trod enc Tryz.prog w 0 sp held fuel 24 [v] = some x → Lt 24 x.1 →
 ∃ (a : Option Addr) (cap : Nat) (ds : List Dat), v = .slice a ds.length cap ∧ ds.length ≤ cap ∧ Dn w fuel a ds ∧ smL ds ∧ ds.length * 72 ≤ reachBytes
 | 0, fuel, hF, v, x, h, hx => by
  obtain rfl : fuel = 0 := by omega
  simp [DataW.trod] at h
 | F + 1, fuel, hF, v, x, h, hx => by
  rcases DataW.trod_slice Tryz.underlying24 h with ⟨hv, _⟩ | ⟨a, len, cap, elems, rest, n, hn, hv, rfl, _, hlc, hcm, hel, hall, _, _⟩
  ·simp at hv
   exact ⟨none, 0, [], hv, Nat.le_refl _, Dn.nilG _ _ _, smL_of (by simp), by simp [reachBytes]⟩
  simp at hv
  have hlen : len * 72 ≤ reachBytes := by
   have := hx.len
   rw [List.length_map, hel] at this
   exact this
  have key : ∀ i, i < len → ∃ d : Dat, ∃ a' cap', (i = 0 → a.spot = none) ∧ a.block < w.heap.size ∧
   w.cell? ⟨a.block, a.off + i * 6, none⟩ = some (.int .i64 d.kind) ∧ w.cell? ⟨a.block, a.off + i * 6 + 1, none⟩ = some (.int .i64 d.n) ∧ w.cell? ⟨a.block, a.off + i * 6 + 2, none⟩ = some (.string d.name) ∧
   w.cell? ⟨a.block, a.off + i * 6 + 3, none⟩ = some (.int .i64 d.stamp) ∧ w.cell? ⟨a.block, a.off + i * 6 + 4, none⟩ = some (.int .i64 d.lib) ∧ w.cell? ⟨a.block, a.off + i * 6 + 5, none⟩ = some (.slice a' d.kids.length cap') ∧
   d.name.size ≤ maxLen ∧ d.kids.length ≤ cap' ∧ Dn w n a' d.kids ∧ smD d := by
   intro i hi
   have h1 := hall i hi
   rw [cells26, List.getElem?_eq_getElem (by omega)] at h1
   obtain ⟨cs, hcs, ht⟩ := Option.bind_eq_some_iff.1 h1
   obtain ⟨c0, c1, c2, c3, c4, c5, rfl, hs, hb, g0, g1, g2, g3, g4, g5⟩ := six_cells hcs
   have hxi : Lt 26 (elems[i]'(by omega)).1 := hx.elem (i := i) (by rw [List.getElem?_map, List.getElem?_eq_getElem (by omega)]; rfl)
   obtain ⟨d, a', cap', rfl, rfl, rfl, rfl, rfl, rfl, p1, p2, p3, p4⟩ := datum_of_trod ht hxi fun m hm v x h hx => data_of_trod F m (by omega) v x h hx
   have hadd : (a.add (i * 6)).block = a.block ∧ (a.add (i * 6)).off = a.off + i * 6 := by
    unfold Addr.add
    split
    ·rename_i h; rw [h]; exact ⟨rfl, rfl⟩
    exact ⟨rfl, rfl⟩
   rw [hadd.1, hadd.2] at g0 g1 g2 g3 g4 g5
   rw [hadd.1] at hb
   refine ⟨d, a', cap', ?_, hb, g0, g1, g2, g3, g4, g5, p1, p2, p3, p4⟩
   intro h0
   subst h0
   simpa [Addr.add] using hs
  obtain ⟨ds, hdl, hd⟩ := pick_list _ len key
  refine ⟨some a, cap, ds, by rw [hv, hdl], by omega, ?_, smL_of ?_, by rw [hdl]; exact hlen⟩
  ·rw [hn]
   refine ⟨by unfold maxLen at hcm; omega, ?_⟩
   by_cases h0 : ds = []
   ·exact Or.inl h0
   have hpos : 0 < ds.length := List.length_pos_iff.2 h0
   obtain ⟨_, _, hsp, hbl, _⟩ := hd 0 ds[0] (List.getElem?_eq_getElem hpos)
   have hsp' := hsp rfl
   obtain ⟨b, o, spt⟩ := a
   simp only at hsp' hbl
   subst hsp'
   refine Or.inr ⟨b, o, rfl, hbl, ?_⟩
   intro i d hi
   obtain ⟨a', cap', _, _, r0, r1, r2, r3, r4, r5, r6, r7, r8, _⟩ := hd i d hi
   exact ⟨a', cap', r0, r1, r2, r3, r4, r5, r6, r7, r8⟩
  intro d hdm
  obtain ⟨i, hi⟩ := List.getElem?_of_mem hdm
  obtain ⟨_, _, _, _, _, _, _, _, _, _, _, _, _, r⟩ := hd i d hi
  exact r
theorem one_of_trod {H : Type} {enc : TypeId × Value → H} {w : World} {sp : Nat → Bool} {held : Bool} {fuel : Nat} {c0 c1 c2 c3 c4 c5 : Value} {x : DataW H × List MemPlace}
 (ht : DataW.trod enc Tryz.prog w 0 sp held fuel 26 [c0, c1, c2, c3, c4, c5] = some x) (hx : Lt 26 x.1) :
 ∃ (d : Dat) (a : Option Addr) (cap : Nat), c0 = .int .i64 d.kind ∧ c1 = .int .i64 d.n ∧ c2 = .string d.name ∧ c3 = .int .i64 d.stamp ∧ c4 = .int .i64 d.lib ∧ c5 = .slice a d.kids.length cap ∧ d.name.size ≤ maxLen ∧ d.kids.length ≤ cap ∧ Dn w fuel a d.kids ∧ smD d :=
 datum_of_trod ht hx fun m hm v x h hx => data_of_trod m m (Nat.le_refl _) v x h hx
theorem strs_of_trod {H : Type} {enc : TypeId × Value → H} {w : World} {sp : Nat → Bool} {held : Bool} {fuel : Nat} {v : Value} {x : DataW H × List MemPlace} (h : DataW.trod enc Tryz.prog w 0 sp held fuel 23 [v] = some x) :
 ∃ (l : List ByteArray), SV (fun k => k < w.heap.size) l v w ∧ l.length ≤ 9223372036854775807 := by
 rcases DataW.trod_slice Tryz.underlying23 h with ⟨hv, _⟩ | ⟨a, len, cap, elems, rest, n, hn, hv, rfl, _, hlc, hcm, hel, hall, _, _⟩
 ·simp at hv
  exact ⟨[], ⟨none, 0, hv, Nat.le_refl _, Or.inl rfl⟩, by decide⟩
 simp at hv
 have key : ∀ i, i < len → ∃ s : ByteArray, (i = 0 → a.spot = none) ∧ a.block < w.heap.size ∧ w.cell? ⟨a.block, a.off + i, none⟩ = some (.string s) ∧ s.size ≤ maxLen := by
  intro i hi
  have h1 := hall i hi
  rw [cells1_9, List.getElem?_eq_getElem (by omega), Nat.mul_one] at h1
  obtain ⟨cs, hcs, ht⟩ := Option.bind_eq_some_iff.1 h1
  unfold World.cells? at hcs
  rw [if_pos (Nat.zero_le _)] at hcs
  simp only [show List.range 1 = [0] from rfl, List.mapM_cons, List.mapM_nil, Option.bind_eq_bind, Option.bind_eq_some_iff, Option.pure_def, Option.some.injEq] at hcs
  obtain ⟨c0, g0, _, rfl, rfl⟩ := hcs
  obtain ⟨s, hs, _, hsz⟩ := DataW.trod_string Tryz.underlying9 ht
  simp at hs
  subst hs
  have hsp := World.cell?_spot g0
  have hadd : (a.add i).block = a.block ∧ (a.add i).off = a.off + i := by
   unfold Addr.add
   split
   ·rename_i h; rw [h]; exact ⟨rfl, rfl⟩
   exact ⟨rfl, rfl⟩
  have hz : ((a.add i).add 0) = a.add i := by
   unfold Addr.add
   split <;> split <;> simp_all
  rw [hz] at g0 hsp
  obtain ⟨b, o, spt⟩ := a
  have hsp2 : (Addr.add ⟨b, o, spt⟩ i) = ⟨b, o + i, none⟩ := by
   generalize hq : Addr.add ⟨b, o, spt⟩ i = q at hsp hadd
   obtain ⟨b', o', s'⟩ := q
   simp only at hsp hadd
   obtain ⟨h1, h2⟩ := hadd
   subst h1 h2 hsp
   rfl
  rw [hsp2] at g0
  refine ⟨s, ?_, World.block_lt_of_cell? w ⟨b, o + i, none⟩ g0, g0, hsz⟩
  intro h0
  subst h0
  simpa [Addr.add] using hsp
 obtain ⟨l, hdl, hd⟩ := pick_list _ len key
 refine ⟨l, ⟨some a, cap, by rw [hv, hdl], by omega, ?_⟩, by unfold maxLen at hcm; omega⟩
 by_cases h0 : l = []
 ·exact Or.inl h0
 have hpos : 0 < l.length := List.length_pos_iff.2 h0
 obtain ⟨hsp, hbl, _⟩ := hd 0 l[0] (List.getElem?_eq_getElem hpos)
 have hsp' := hsp rfl
 obtain ⟨b, o, spt⟩ := a
 simp only at hsp' hbl
 subst hsp'
 exact Or.inr ⟨b, o, rfl, hbl, fun i s hi => (hd i s hi).2.2.1⟩
theorem cells49 : Tryz.prog.cellsOf 49 = 2 := by kernel_rfl
theorem two_cells {w : World} {a : Addr} {cs : List Value} (h : w.cells? 0 a 2 = some cs) : ∃ c0 c1, cs = [c0, c1] ∧ a.spot = none ∧ a.block < w.heap.size ∧ w.cell? ⟨a.block, a.off, none⟩ = some c0 ∧ w.cell? ⟨a.block, a.off + 1, none⟩ = some c1 := by
 unfold World.cells? at h
 rw [if_pos (Nat.zero_le _)] at h
 simp only [show List.range 2 = [0, 1] from rfl, List.mapM_cons, List.mapM_nil, Option.bind_eq_bind, Option.bind_eq_some_iff, Option.pure_def, Option.some.injEq] at h
 obtain ⟨c0, h0, _, ⟨c1, h1, _, rfl, rfl⟩, rfl⟩ := h
 have hs : a.spot = none := by simpa [Addr.add] using World.cell?_spot h0
 obtain ⟨b, o, sp⟩ := a
 simp only at hs
 subst hs
 simp only [Addr.add] at h0 h1
 exact ⟨c0, c1, rfl, rfl, World.block_lt_of_cell? _ _ h0, h0, h1⟩
theorem file_of_trod {H : Type} {enc : TypeId × Value → H} {w : World} {sp : Nat → Bool} {held : Bool} {fuel : Nat} {c0 c1 : Value} {x : DataW H × List MemPlace}
 (ht : DataW.trod enc Tryz.prog w 0 sp held fuel 49 [c0, c1] = some x) : ∃ p : ByteArray × ByteArray, c0 = .string p.1 ∧ c1 = .string p.2 ∧ p.2.size ≤ maxLen := by
 obtain ⟨xs, m, hm, rfl, _, hxl, hf⟩ := DataW.trod_struct Tryz.underlying49 ht
 have e0 : DataW.trod enc Tryz.prog w 0 sp held m 9 (([c0, c1].drop 0).take (Tryz.prog.cellsOf 9)) = xs[0]? := hf 0 _ rfl
 have e1 : DataW.trod enc Tryz.prog w 0 sp held m 9 (([c0, c1].drop 1).take (Tryz.prog.cellsOf 9)) = xs[1]? := hf 1 _ rfl
 have hx2 : xs.length = 2 := hxl
 rw [List.getElem?_eq_getElem (by omega), cells1_9] at e0 e1
 simp only [List.drop_zero, List.take_succ_cons, List.take_zero, List.drop_succ_cons] at e0 e1
 obtain ⟨s0, h0, _, _⟩ := DataW.trod_string Tryz.underlying9 e0
 obtain ⟨s1, h1, _, hz⟩ := DataW.trod_string Tryz.underlying9 e1
 simp at h0 h1
 exact ⟨(s0, s1), h0, h1, hz⟩
theorem files_of_trod {H : Type} {enc : TypeId × Value → H} {w : World} {sp : Nat → Bool} {held : Bool} {fuel : Nat} {v : Value} {x : DataW H × List MemPlace} (h : DataW.trod enc Tryz.prog w 0 sp held fuel 22 [v] = some x) :
 ∃ (l : List (ByteArray × ByteArray)), FL (fun k => k < w.heap.size) l v w ∧ l.length ≤ 9223372036854775807 := by
 rcases DataW.trod_slice Tryz.underlying22 h with ⟨hv, _⟩ | ⟨a, len, cap, elems, rest, n, hn, hv, rfl, _, hlc, hcm, hel, hall, _, _⟩
 ·simp at hv
  exact ⟨[], ⟨none, 0, hv, Or.inl rfl⟩, by decide⟩
 simp at hv
 have key : ∀ i, i < len → ∃ p : ByteArray × ByteArray, (i = 0 → a.spot = none) ∧ a.block < w.heap.size ∧ w.cell? ⟨a.block, a.off + i * 2, none⟩ = some (.string p.1) ∧ w.cell? ⟨a.block, a.off + i * 2 + 1, none⟩ = some (.string p.2) ∧ p.2.size ≤ maxLen := by
  intro i hi
  have h1 := hall i hi
  rw [cells49, List.getElem?_eq_getElem (by omega)] at h1
  obtain ⟨cs, hcs, ht⟩ := Option.bind_eq_some_iff.1 h1
  obtain ⟨c0, c1, rfl, hs, hb, g0, g1⟩ := two_cells hcs
  obtain ⟨p, rfl, rfl, hz⟩ := file_of_trod ht
  have hadd : (a.add (i * 2)).block = a.block ∧ (a.add (i * 2)).off = a.off + i * 2 := by
   unfold Addr.add
   split
   ·rename_i h; rw [h]; exact ⟨rfl, rfl⟩
   exact ⟨rfl, rfl⟩
  rw [hadd.1, hadd.2] at g0 g1
  rw [hadd.1] at hb
  refine ⟨p, ?_, hb, g0, g1, hz⟩
  intro h0
  subst h0
  simpa [Addr.add] using hs
 obtain ⟨l, hdl, hd⟩ := pick_list _ len key
 refine ⟨l, ⟨some a, cap, by rw [hv, hdl], ?_⟩, by unfold maxLen at hcm; omega⟩
 by_cases h0 : l = []
 ·exact Or.inl h0
 have hpos : 0 < l.length := List.length_pos_iff.2 h0
 obtain ⟨hsp, hbl, _⟩ := hd 0 l[0] (List.getElem?_eq_getElem hpos)
 have hsp' := hsp rfl
 obtain ⟨b, o, spt⟩ := a
 simp only at hsp' hbl
 subst hsp'
 exact Or.inr ⟨b, o, rfl, hbl, fun i s hi => ⟨(hd i s hi).2.2.1, (hd i s hi).2.2.2.1, (hd i s hi).2.2.2.2⟩⟩
theorem own : ownKnob Tryz.prog.godebug = none := by kernel_rfl
theorem laidOut : laidOutB Tryz.prog = true := by kernel_rfl
theorem gWords : Tryz.prog.globalNamed "graftwood/lib.setWords" = some 0 := by kernel_rfl
theorem gWordsType : (Tryz.prog.globals[0]?).map (·.type) = some 140 := by kernel_rfl
theorem cells140 : Tryz.prog.cellsOf 140 = 6 := by kernel_rfl
theorem laid_tail {P : Program} {w : World} {n : String} {d : DataW Unit} {r : List (String × DataW Unit)} {ps : List MemPlace} (h : DataW.LaidVars P w ((n, d) :: r) ps) : ∃ q, DataW.LaidVars P w r q := by
 obtain ⟨_, _, _, _, _, q, _, _, _, _, h, _⟩ := h
 exact ⟨q, h⟩
theorem cells_of_strs {H : Type} {enc : TypeId × Value → H} {P : Program} {w : World} {base : Nat} {sp : Nat → Bool} {held : Bool} {fuel : Nat} {t e : TypeId} {n : Nat} {cs : List Value} {zs : List (List UInt8)} {p : List MemPlace}
 (ht : P.underlying t = some (.array n e)) (he : P.underlying e = some .string) (hce : P.cellsOf e = 1) (hct : P.cellsOf t = n)
 (h : DataW.trod enc P w base sp held fuel t cs = some (.agg (zs.map fun z => .lit (.string z)), p)) : cs = zs.map fun z => Value.string ⟨z.toArray⟩ := by
 cases fuel with
 | zero => simp [DataW.trod] at h
 | succ fuel =>
  simp only [DataW.trod, ht, hce, hct, Nat.mul_one] at h
  split at h
  ·rename_i hl
   obtain ⟨xs, hm, hx⟩ := Option.map_eq_some_iff.1 h
   have hxs : xs.map (·.1) = zs.map fun z => (DataW.lit (.string z) : DataW H) := by
    have := congrArg Prod.fst hx
    simpa using this
   have hxl : xs.length = n := by simpa using Lib.mapM_length hm
   have hzl : zs.length = n := by
    have := congrArg List.length hxs
    simp at this
    omega
   apply List.ext_getElem?
   intro i
   by_cases hi : i < n
   ·obtain ⟨b, hb, hf⟩ := Lib.mapM_at hm i i (by simp [hi])
    obtain ⟨s, hc, hb2, _⟩ := DataW.trod_string he hf
    have h1 : cs[i]? = some (.string s) := by
     have := congrArg (·[0]?) hc
     simpa [List.getElem?_take, List.getElem?_drop] using this
    have h2 : (xs.map (·.1))[i]? = some (DataW.lit (.string s.data.toList) : DataW H) := by
     rw [List.getElem?_map, hb]
     rw [hb2]; rfl
    rw [hxs] at h2
    simp only [List.getElem?_map, Option.map_eq_some_iff, DataW.lit.injEq, Lit.string.injEq] at h2
    obtain ⟨z', hz', rfl⟩ := h2
    simp [h1, hz']
   rw [List.getElem?_eq_none (by omega), List.getElem?_eq_none (by simp; omega)]
  cases h
theorem words_of {W : World} {x1 x2 x3 x4 x5 : String × DataW Unit} {r : List (String × DataW Unit)} (h : laidMet Tryz.prog (x1 :: x2 :: x3 :: x4 :: x5 :: ("graftwood/lib.setWords", Rows.laid_graftwood_lib_setWords) :: r) W) : TabW W ∧ 0 < W.heap.size := by
 obtain ⟨ps, hv, _⟩ := h
 obtain ⟨q1, hv1⟩ := laid_tail hv
 obtain ⟨q2, hv2⟩ := laid_tail hv1
 obtain ⟨q3, hv3⟩ := laid_tail hv2
 obtain ⟨q4, hv4⟩ := laid_tail hv3
 obtain ⟨q5, hv5⟩ := laid_tail hv4
 obtain ⟨g, t, cs, fuel, p, q, hg, hty, hvar, hd, _, _⟩ := hv5
 have hg0 : g = 0 := Option.some.inj (hg.symm.trans gWords)
 subst hg0
 have ht0 : t = 140 := Option.some.inj (hty.symm.trans gWordsType)
 subst ht0
 have hc := cells_of_strs (zs := [[], [], bOnly.data.toList, bExcept.data.toList, bPrefix.data.toList, bRename.data.toList]) Tryz.underlying140 Tryz.underlying9 cells1_9 cells140 hd
 have e : ∀ i, W.cell? ⟨0, i, none⟩ = _ := fun i => World.var?_cell gWords hvar i
 have hcs : cs = #[.string ⟨#[]⟩, .string ⟨#[]⟩, .string bOnly, .string bExcept, .string bPrefix, .string bRename] := by
  apply Array.ext'
  rw [hc]
  rfl
 have k : TabW W := by
  subst hcs
  exact ⟨e 0, e 1, e 2, e 3, e 4, e 5⟩
 exact ⟨k, World.block_lt_of_cell? _ _ k.c0⟩
end Go.Proofs.YtonafbennobgdaaGreatDoor
