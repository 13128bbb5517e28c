/- Data that can be read lie in memory. Chapter 5's laws: rows of data that lie anywhere. -/
import Derived.OpenShut
import Derived.ProofKit
import Derived.SizedLaws
import Derived.Test.YtgeedaabdonjcaeGreatDoorK40
import Derived.Test.YtgeedaabdonjcaeGreatDoorK42
namespace Go.Proofs.YtgeedaabdonjcaeGreatDoor
section
set_option linter.unusedVariables false
set_option linter.unusedSimpArgs false
open Go.RowKit

theorem pick_list {α : Type} (p : Nat → α → Prop) : ∀ (n : Nat), (∀ i, i < n → ∃ x, p i x) → ∃ l : List α, l.length = n ∧ ∀ i x, l[i]? = some x → p i x
  | 0, _ => ⟨[], rfl, by simp⟩
  | n + 1, h => by
    obtain ⟨l, hl, hp⟩ := pick_list p n (fun i hi => h i (by omega))
    obtain ⟨x, hx⟩ := h n (by omega)
    refine ⟨l ++ [x], by simp [hl], ?_⟩
    intro i y hy
    by_cases hi : i < n
    · rw [List.getElem?_append_left (by omega)] at hy
      exact hp i y hy
    · have hlen := (List.getElem?_eq_some_iff.1 hy).1
      simp at hlen
      obtain rfl : i = n := by omega
      rw [List.getElem?_append_right (by omega)] at hy
      simp [hl] at hy
      subst hy
      exact hx

theorem cells28 : Tryz.prog.cellsOf 28 = 6 := by kernel_rfl
theorem cells1_3 : Tryz.prog.cellsOf 3 = 1 := by kernel_rfl
theorem cells1_2 : Tryz.prog.cellsOf 2 = 1 := by kernel_rfl
theorem cells1_9 : Tryz.prog.cellsOf 9 = 1 := by kernel_rfl
theorem cells1_26 : Tryz.prog.cellsOf 26 = 1 := by kernel_rfl
theorem bytes28 : Tryz.prog.bytesOf 28 = 72 := by kernel_rfl

/-- Six cells in a row. -/
theorem six_cells {w : World} {a : Addr} {cs : List Value} (h : w.cells? 0 a 6 = some cs) : ∃ c0 c1 c2 c3 c4 c5, cs = [c0, c1, c2, c3, c4, c5] ∧ a.spot = none ∧ a.block < w.heap.size ∧
    w.cell? ⟨a.block, a.off, none⟩ = some c0 ∧ w.cell? ⟨a.block, a.off + 1, none⟩ = some c1 ∧ w.cell? ⟨a.block, a.off + 2, none⟩ = some c2 ∧ w.cell? ⟨a.block, a.off + 3, none⟩ = some c3 ∧ w.cell? ⟨a.block, a.off + 4, none⟩ = some c4 ∧ w.cell? ⟨a.block, a.off + 5, none⟩ = some c5 := by
  unfold World.cells? at h
  rw [if_pos (Nat.zero_le _)] at h
  simp only [show List.range 6 = [0, 1, 2, 3, 4, 5] from rfl, List.mapM_cons, List.mapM_nil, Option.bind_eq_bind, Option.bind_eq_some_iff, Option.pure_def, Option.some.injEq] at h
  obtain ⟨c0, h0, _, ⟨c1, h1, _, ⟨c2, h2, _, ⟨c3, h3, _, ⟨c4, h4, _, ⟨c5, h5, _, rfl, rfl⟩, rfl⟩, rfl⟩, rfl⟩, rfl⟩, rfl⟩ := h
  have hs : a.spot = none := by simpa [Addr.add] using World.cell?_spot h0
  obtain ⟨b, o, sp⟩ := a
  simp only at hs
  subst hs
  simp only [Addr.add] at h0 h1 h2 h3 h4 h5
  exact ⟨c0, c1, c2, c3, c4, c5, rfl, rfl, World.block_lt_of_cell? _ _ h0, h0, h1, h2, h3, h4, h5⟩

theorem weightsAll_mem {H : Type} {P : Program} {e : TypeId} : ∀ {ds : List (DataW H)} {i : Nat} {d : DataW H}, ds[i]? = some d → ∀ n ∈ d.weights P e, n ∈ DataW.weightsAll P e ds
  | [], i, d, h, n, hn => by cases h
  | x :: r, 0, d, h, n, hn => by
    simp at h
    subst h
    unfold DataW.weightsAll
    exact List.mem_append_left _ hn
  | x :: r, i + 1, d, h, n, hn => by
    unfold DataW.weightsAll
    exact List.mem_append_right _ (weightsAll_mem (by simpa using h) n hn)

/-- No part is great. -/
def Lt {H : Type} (t : TypeId) (x : DataW H) : Prop := ∀ n ∈ x.weights Tryz.prog t, n ≤ reachBytes

theorem Lt.elem {H : Type} {elems spare : List (DataW H)} (h : Lt 26 (.slice elems spare)) {i : Nat} {d : DataW H} (hd : elems[i]? = some d) : Lt 28 d := fun n hn => by
  refine h n ?_
  unfold DataW.weights
  rw [Tryz.underlying26]
  exact List.mem_cons_of_mem _ (List.mem_append_left _ (weightsAll_mem hd n hn))
theorem Lt.len {H : Type} {elems spare : List (DataW H)} (h : Lt 26 (.slice elems spare)) : elems.length * 72 ≤ reachBytes := by
  have := h ((elems.length + spare.length) * Tryz.prog.bytesOf 28) (by
    unfold DataW.weights
    rw [Tryz.underlying26]
    exact List.mem_cons_self)
  rw [bytes28] at this
  have h2 : elems.length * 72 ≤ (elems.length + spare.length) * 72 := Nat.mul_le_mul_right _ (by omega)
  omega

/-- A datum's six values. -/
theorem datum_of_trod {H : Type} {enc : TypeId × Value → H} {w : World} {sp : Nat → Bool} {held : Bool} {fuel : Nat} {c0 c1 c2 c3 c4 c5 : Value} {x : DataW H × List MemPlace}
    (ht : DataW.trod enc Tryz.prog w 0 sp held fuel 28 [c0, c1, c2, c3, c4, c5] = some x) (hx : Lt 28 x.1)
    (ih : ∀ m, m < fuel → ∀ (v : Value) (x : DataW H × List MemPlace), DataW.trod enc Tryz.prog w 0 sp held m 26 [v] = some x → Lt 26 x.1 → ∃ (a : Option Addr) (cap : Nat) (ds : List Dat), v = .slice a ds.length cap ∧ ds.length ≤ cap ∧ Dn w m a ds ∧ smL ds ∧ ds.length * 72 ≤ reachBytes) :
    ∃ (d : Dat) (a : Option Addr) (cap : Nat), c0 = .int .i64 d.kind ∧ c1 = .int .i64 d.n ∧ c2 = .string d.name ∧ c3 = .int .i64 d.stamp ∧ c4 = .int .i64 d.lib ∧ c5 = .slice a d.kids.length cap ∧ d.name.size ≤ maxLen ∧ d.kids.length ≤ cap ∧ Dn w fuel a d.kids ∧ smD d := by
  obtain ⟨xs, m, hm, rfl, _, hxl, hf⟩ := DataW.trod_struct Tryz.underlying28 ht
  have e0 : DataW.trod enc Tryz.prog w 0 sp held m 3 (([c0, c1, c2, c3, c4, c5].drop 0).take (Tryz.prog.cellsOf 3)) = xs[0]? := hf 0 _ rfl
  have e1 : DataW.trod enc Tryz.prog w 0 sp held m 2 (([c0, c1, c2, c3, c4, c5].drop 1).take (Tryz.prog.cellsOf 2)) = xs[1]? := hf 1 _ rfl
  have e2 : DataW.trod enc Tryz.prog w 0 sp held m 9 (([c0, c1, c2, c3, c4, c5].drop 2).take (Tryz.prog.cellsOf 9)) = xs[2]? := hf 2 _ rfl
  have e3 : DataW.trod enc Tryz.prog w 0 sp held m 3 (([c0, c1, c2, c3, c4, c5].drop 3).take (Tryz.prog.cellsOf 3)) = xs[3]? := hf 3 _ rfl
  have e4 : DataW.trod enc Tryz.prog w 0 sp held m 3 (([c0, c1, c2, c3, c4, c5].drop 4).take (Tryz.prog.cellsOf 3)) = xs[4]? := hf 4 _ rfl
  have e5 : DataW.trod enc Tryz.prog w 0 sp held m 26 (([c0, c1, c2, c3, c4, c5].drop 5).take (Tryz.prog.cellsOf 26)) = xs[5]? := hf 5 _ rfl
  have hx6 : xs.length = 6 := hxl
  have W : ∀ (i : Nat) (t : TypeId) (y : DataW H × List MemPlace), xs[i]? = some y → ([3, 2, 9, 3, 3, 26] : List TypeId)[i]? = some t → Lt t y.1 := by
    intro i t y hy htt n hn
    refine hx n ?_
    unfold DataW.weights
    rw [Tryz.underlying28]
    exact DataW.weights_mem_each (j := i) (t := t) (d := y.1) htt (by rw [List.getElem?_map, hy]; rfl) n hn
  rw [List.getElem?_eq_getElem (by omega)] at e0 e1 e2 e3 e4 e5
  rw [cells1_3] at e0 e3 e4
  rw [cells1_2] at e1
  rw [cells1_9] at e2
  rw [cells1_26] at e5
  simp only [List.drop_zero, List.take_succ_cons, List.take_zero, List.drop_succ_cons] at e0 e1 e2 e3 e4 e5
  obtain ⟨k, hk, _, _⟩ := DataW.trod_int Tryz.underlying3 e0
  obtain ⟨nn, hnn, _, _⟩ := DataW.trod_int Tryz.underlying2 e1
  obtain ⟨s, hsn, hs2, hsz⟩ := DataW.trod_string Tryz.underlying9 e2
  obtain ⟨st, hst, _, _⟩ := DataW.trod_int Tryz.underlying3 e3
  obtain ⟨lb, hlb, _, _⟩ := DataW.trod_int Tryz.underlying3 e4
  obtain ⟨a', cap', ks, hks, hcp, hlk, hsm, _⟩ := ih m (by omega) c5 _ e5 (W 5 26 _ (List.getElem?_eq_getElem (by omega)) rfl)
  have hlt : s.size ≤ 281474976710656 := by
    have := W 2 9 _ (List.getElem?_eq_getElem (by omega)) rfl s.data.toList.length (by rw [hs2]; simp [DataW.weights])
    have h2 := reachBytes_lt
    have h3 : s.data.toList.length = s.size := Array.length_toList
    omega
  simp at hk hnn hsn hst hlb
  subst hk hnn hsn hst hlb hks
  refine ⟨⟨k, nn, s, st, lb, ks⟩, a', cap', rfl, rfl, rfl, rfl, rfl, rfl, hsz, hcp, ?_, ?_⟩
  · have := hlk.upto (fuel - m)
    rwa [show m + (fuel - m) = fuel by omega] at this
  · rw [smD]
    exact ⟨fun _ => hlt, fun _ => hsm⟩

theorem smL_of {l : List Dat} : (∀ d ∈ l, smD d) → smL l := by
  induction l with
  | nil => intro _; rw [smL]; trivial
  | cons x r ih => intro h; rw [smL]; exact ⟨h x (by simp), ih fun d hd => h d (by simp [hd])⟩

/-- WHAT CAN BE READ AS DATA LIES IN MEMORY AS DATA DO. -/
theorem data_of_trod {H : Type} {enc : TypeId × Value → H} {w : World} {sp : Nat → Bool} {held : Bool} : ∀ (F fuel : Nat), fuel ≤ F → ∀ (v : Value) (x : DataW H × List MemPlace), DataW.trod enc Tryz.prog w 0 sp held fuel 26 [v] = some x → Lt 26 x.1 →
    ∃ (a : Option Addr) (cap : Nat) (ds : List Dat), v = .slice a ds.length cap ∧ ds.length ≤ cap ∧ Dn w fuel a ds ∧ smL ds ∧ ds.length * 72 ≤ reachBytes
  | 0, fuel, hF, v, x, h, hx => by
    obtain rfl : fuel = 0 := by omega
    simp [DataW.trod] at h
  | F + 1, fuel, hF, v, x, h, hx => by
    rcases DataW.trod_slice Tryz.underlying26 h with ⟨hv, _⟩ | ⟨a, len, cap, elems, rest, n, hn, hv, rfl, _, hlc, hcm, hel, hall, _, _⟩
    · simp at hv
      exact ⟨none, 0, [], hv, Nat.le_refl _, Dn.nil _ _ _, smL_of (by simp), by simp [reachBytes]⟩
    · simp at hv
      have hlen : len * 72 ≤ reachBytes := by
        have := hx.len
        rw [List.length_map, hel] at this
        exact this
      have key : ∀ i, i < len → ∃ d : Dat, ∃ a' cap', (i = 0 → a.spot = none) ∧ a.block < w.heap.size ∧
          w.cell? ⟨a.block, a.off + i * 6, none⟩ = some (.int .i64 d.kind) ∧ w.cell? ⟨a.block, a.off + i * 6 + 1, none⟩ = some (.int .i64 d.n) ∧ w.cell? ⟨a.block, a.off + i * 6 + 2, none⟩ = some (.string d.name) ∧
          w.cell? ⟨a.block, a.off + i * 6 + 3, none⟩ = some (.int .i64 d.stamp) ∧ w.cell? ⟨a.block, a.off + i * 6 + 4, none⟩ = some (.int .i64 d.lib) ∧ w.cell? ⟨a.block, a.off + i * 6 + 5, none⟩ = some (.slice a' d.kids.length cap') ∧
          d.name.size ≤ maxLen ∧ d.kids.length ≤ cap' ∧ Dn w n a' d.kids ∧ smD d := by
        intro i hi
        have h1 := hall i hi
        rw [cells28, List.getElem?_eq_getElem (by omega)] at h1
        obtain ⟨cs, hcs, ht⟩ := Option.bind_eq_some_iff.1 h1
        obtain ⟨c0, c1, c2, c3, c4, c5, rfl, hs, hb, g0, g1, g2, g3, g4, g5⟩ := six_cells hcs
        have hxi : Lt 28 (elems[i]'(by omega)).1 := hx.elem (i := i) (by rw [List.getElem?_map, List.getElem?_eq_getElem (by omega)]; rfl)
        obtain ⟨d, a', cap', rfl, rfl, rfl, rfl, rfl, rfl, p1, p2, p3, p4⟩ := datum_of_trod ht hxi fun m hm v x h hx => data_of_trod F m (by omega) v x h hx
        have hadd : (a.add (i * 6)).block = a.block ∧ (a.add (i * 6)).off = a.off + i * 6 := by
          unfold Addr.add
          split
          · rename_i h; rw [h]; exact ⟨rfl, rfl⟩
          · exact ⟨rfl, rfl⟩
        rw [hadd.1, hadd.2] at g0 g1 g2 g3 g4 g5
        rw [hadd.1] at hb
        refine ⟨d, a', cap', ?_, hb, g0, g1, g2, g3, g4, g5, p1, p2, p3, p4⟩
        intro h0
        subst h0
        simpa [Addr.add] using hs
      obtain ⟨ds, hdl, hd⟩ := pick_list _ len key
      refine ⟨some a, cap, ds, by rw [hv, hdl], by omega, ?_, smL_of ?_, by rw [hdl]; exact hlen⟩
      · rw [hn]
        refine ⟨by unfold maxLen at hcm; omega, ?_⟩
        by_cases h0 : ds = []
        · exact Or.inl h0
        · have hpos : 0 < ds.length := List.length_pos_iff.2 h0
          obtain ⟨_, _, hsp, hbl, _⟩ := hd 0 ds[0] (List.getElem?_eq_getElem hpos)
          have hsp' := hsp rfl
          obtain ⟨b, o, spt⟩ := a
          simp only at hsp' hbl
          subst hsp'
          refine Or.inr ⟨b, o, rfl, hbl, ?_⟩
          intro i d hi
          obtain ⟨a', cap', _, _, r0, r1, r2, r3, r4, r5, r6, r7, r8, _⟩ := hd i d hi
          exact ⟨a', cap', r0, r1, r2, r3, r4, r5, r6, r7, r8⟩
      · intro d hdm
        obtain ⟨i, hi⟩ := List.getElem?_of_mem hdm
        obtain ⟨_, _, _, _, _, _, _, _, _, _, _, _, _, r⟩ := hd i d hi
        exact r

/-- A datum among the arguments. -/
theorem one_of_trod {H : Type} {enc : TypeId × Value → H} {w : World} {sp : Nat → Bool} {held : Bool} {fuel : Nat} {c0 c1 c2 c3 c4 c5 : Value} {x : DataW H × List MemPlace}
    (ht : DataW.trod enc Tryz.prog w 0 sp held fuel 28 [c0, c1, c2, c3, c4, c5] = some x) (hx : Lt 28 x.1) :
    ∃ (d : Dat) (a : Option Addr) (cap : Nat), c0 = .int .i64 d.kind ∧ c1 = .int .i64 d.n ∧ c2 = .string d.name ∧ c3 = .int .i64 d.stamp ∧ c4 = .int .i64 d.lib ∧ c5 = .slice a d.kids.length cap ∧ d.name.size ≤ maxLen ∧ d.kids.length ≤ cap ∧ Dn w fuel a d.kids ∧ smD d :=
  datum_of_trod ht hx fun m hm v x h hx => data_of_trod m m (Nat.le_refl _) v x h hx
end
section
set_option linter.unusedVariables false
set_option linter.unusedSimpArgs false
open Go.RowKit Go.Maps Go.WideMaps

/-- A row of data that a call owns; what hangs below them lies in other blocks. -/
structure RowD (B : Nat) (v : Value) (es : List (Dat × Option Addr × Nat)) (w : World) : Prop where
  own : w.ownsRow B 28 6 v es.length (flat es)
  kids : ∀ e ∈ es, e.1.name.size ≤ maxLen ∧ e.1.kids.length ≤ e.2.2 ∧ ∃ f, Dc (fun b => b < w.heap.size ∧ some b ≠ v.ownBlock) w f e.2.1 e.1.kids
theorem RowD.below {B : Nat} {v : Value} {es : List (Dat × Option Addr × Nat)} {w w' : World} (h : RowD B v es w) (hk : Below w.heap.size w w') : RowD B v es w' := by
  refine ⟨h.own.kept (row := none) ⟨hk.os, hk.tape, hk.output, hk.size, fun k h1 _ => hk.block k h1⟩ (by cases hv : v.ownBlock <;> simp), fun e he => ?_⟩
  obtain ⟨hn, hc, f, hd⟩ := h.kids e he
  exact ⟨hn, hc, f, Dc.stay (fun k hk2 => hk.block k hk2.1) (fun k hk2 => ⟨Nat.lt_of_lt_of_le hk2.1 hk.size, hk2.2⟩) f _ _ hd⟩
/-- More data, that lie in world w. -/
theorem RowD.more {B : Nat} {v v' : Value} {es fs : List (Dat × Option Addr × Nat)} {w w1 w' : World} (h : RowD B v es w) (hb : Below w.heap.size w w1)
    (hd : ∀ e ∈ fs, e.1.name.size ≤ maxLen ∧ e.1.kids.length ≤ e.2.2 ∧ ∃ f, Dc (fun b => b < w1.heap.size ∧ some b ≠ v.ownBlock) w1 f e.2.1 e.1.kids)
    (hown : w'.ownsRow B 28 6 v' (es.length + fs.length) (flat es ++ flat fs))
    (hg : w1.grownBy w' v.ownBlock) (hw : v'.ownBlock = v.ownBlock ∨ v'.ownBlock = some w1.heap.size) : RowD B v' (es ++ fs) w' := by
  have hnew : ∀ k, k < w1.heap.size → some k ≠ v.ownBlock → some k ≠ v'.ownBlock := by
    intro k hk hne
    rcases hw with e | e
    · rw [e]; exact hne
    · rw [e]
      intro e2
      have := Option.some.inj e2
      omega
  refine ⟨?_, fun e he => ?_⟩
  · rw [show flat (es ++ fs) = flat es ++ flat fs by simp [flat], List.length_append]
    exact hown
  · rcases List.mem_append.1 he with he | he
    · obtain ⟨hn, hc, f, hd⟩ := (h.below hb).kids e he
      exact ⟨hn, hc, f, Dc.stay (fun k hk => hg.block k hk.1 hk.2) (fun k hk => ⟨Nat.lt_of_lt_of_le hk.1 hg.size, hnew k hk.1 hk.2⟩) f _ _ hd⟩
    · obtain ⟨hn, hc, f, hd⟩ := hd e he
      exact ⟨hn, hc, f, Dc.stay (fun k hk => hg.block k hk.1 hk.2) (fun k hk => ⟨Nat.lt_of_lt_of_le hk.1 hg.size, hnew k hk.1 hk.2⟩) f _ _ hd⟩

/-- What a row's value is, and how its data lie. -/
theorem RowD.lie {B : Nat} {v : Value} {es : List (Dat × Option Addr × Nat)} {w : World} (h : RowD B v es w) (hlen : es.length ≤ 9223372036854775807) : ∃ a cap f, v = .slice a (es.map (·.1)).length cap ∧ (es.map (·.1)).length ≤ cap ∧ Dc (fun b => b < w.heap.size) w f a (es.map (·.1)) := by
  -- one depth for all
  have hfuel : ∃ F, ∀ e ∈ es, Dc (fun b => b < w.heap.size) w F e.2.1 e.1.kids := by
    have aux : ∀ (l : List (Dat × Option Addr × Nat)), (∀ e ∈ l, ∃ f, Dc (fun b => b < w.heap.size) w f e.2.1 e.1.kids) → ∃ F, ∀ e ∈ l, Dc (fun b => b < w.heap.size) w F e.2.1 e.1.kids := by
      intro l
      induction l with
      | nil => exact fun _ => ⟨0, by simp⟩
      | cons x r ih =>
        intro hx
        obtain ⟨F, hF⟩ := ih (fun e he => hx e (List.mem_cons_of_mem _ he))
        obtain ⟨f, hf⟩ := hx x (by simp)
        refine ⟨f + F, fun e he => ?_⟩
        rcases List.mem_cons.1 he with rfl | he
        · exact hf.upto F
        · have := (hF e he).upto f
          rwa [Nat.add_comm] at this
    refine aux es (fun e he => ?_)
    obtain ⟨_, _, f, hd⟩ := h.kids e he
    exact ⟨f, Dc.stay (fun _ _ => rfl) (fun k hk => hk.1) f _ _ hd⟩
  obtain ⟨F, hF⟩ := hfuel
  rcases h.own.2 with ⟨rfl, h0⟩ | ⟨g, cap, cur, rfl, hbg, hg, hnc, hcm, hcs, htake⟩
  · have : es = [] := List.length_eq_zero_iff.1 h0
    subst this
    exact ⟨none, 0, 0, rfl, Nat.le_refl _, rfl⟩
  · refine ⟨some ⟨g, 0, none⟩, cap, F + 1, by simp, by simpa using hnc, ?_⟩
    refine ⟨by simp; exact hlen, ?_⟩
    refine Or.inr ⟨g, 0, rfl, (Array.getElem?_eq_some_iff.1 hg).1, ?_⟩
    intro i d hd
    rw [List.getElem?_map] at hd
    obtain ⟨e, he, rfl⟩ := Option.map_eq_some_iff.1 hd
    have hmem : e ∈ es := List.mem_of_getElem? he
    have hcell : ∀ j u, (flat es)[j]? = some u → w.cell? ⟨g, j, none⟩ = some u := by
      intro j u hu
      have := h.own.cells (g := g) rfl j u hu
      have hadd : (⟨g, 0, none⟩ : Addr).add j = ⟨g, j, none⟩ := by unfold Addr.add; split <;> simp_all
      rwa [hadd] at this
    have hflat : ∀ k, k < 6 → (flat es)[i * 6 + k]? = [Value.int .i64 e.1.kind, .int .i64 e.1.n, .string e.1.name, .int .i64 e.1.stamp, .int .i64 e.1.lib, .slice e.2.1 e.1.kids.length e.2.2][k]? := by
      have aux : ∀ (l : List (Dat × Option Addr × Nat)) (i : Nat), l[i]? = some e → ∀ k, k < 6 → (flat l)[i * 6 + k]? = [Value.int .i64 e.1.kind, .int .i64 e.1.n, .string e.1.name, .int .i64 e.1.stamp, .int .i64 e.1.lib, .slice e.2.1 e.1.kids.length e.2.2][k]? := by
        intro l
        induction l with
        | nil => intro i hi; simp at hi
        | cons x r ih =>
          intro i hi k hk
          have e1 : flat (x :: r) = [Value.int .i64 x.1.kind, .int .i64 x.1.n, .string x.1.name, .int .i64 x.1.stamp, .int .i64 x.1.lib, .slice x.2.1 x.1.kids.length x.2.2] ++ flat r := by simp [flat]
          rw [e1]
          cases i with
          | zero =>
            simp at hi
            subst hi
            rw [List.getElem?_append_left (by simp; omega)]
            simp
          | succ i =>
            rw [List.getElem?_append_right (by simp; omega)]
            have := ih i (by simpa using hi) k hk
            rw [← this]
            congr 1
            simp
            omega
      exact aux es i he
    refine ⟨e.2.1, e.2.2, ?_, ?_, ?_, ?_, ?_, ?_, (h.kids e hmem).1, (h.kids e hmem).2.1, hF e hmem⟩
    all_goals rw [Nat.zero_add]
    · exact hcell _ _ (hflat 0 (by decide))
    · exact hcell _ _ (hflat 1 (by decide))
    · exact hcell _ _ (hflat 2 (by decide))
    · exact hcell _ _ (hflat 3 (by decide))
    · exact hcell _ _ (hflat 4 (by decide))
    · exact hcell _ _ (hflat 5 (by decide))


theorem flat_atD (e : Dat × Option Addr × Nat) : ∀ (l : List (Dat × Option Addr × Nat)) (i : Nat), l[i]? = some e → ∀ k, k < 6 → (flat l)[i * 6 + k]? = [Value.int .i64 e.1.kind, .int .i64 e.1.n, .string e.1.name, .int .i64 e.1.stamp, .int .i64 e.1.lib, .slice e.2.1 e.1.kids.length e.2.2][k]? := by
  intro l
  induction l with
  | nil => intro i hi; simp at hi
  | cons x r ih =>
    intro i hi k hk
    have e1 : flat (x :: r) = [Value.int .i64 x.1.kind, .int .i64 x.1.n, .string x.1.name, .int .i64 x.1.stamp, .int .i64 x.1.lib, .slice x.2.1 x.1.kids.length x.2.2] ++ flat r := by simp [flat]
    rw [e1]
    cases i with
    | zero =>
      simp at hi
      subst hi
      rw [List.getElem?_append_left (by simp; omega)]
      simp
    | succ i =>
      rw [List.getElem?_append_right (by simp; omega)]
      have := ih i (by simpa using hi) k hk
      rw [show (i + 1) * 6 + k - [Value.int .i64 x.1.kind, .int .i64 x.1.n, .string x.1.name, .int .i64 x.1.stamp, .int .i64 x.1.lib, .slice x.2.1 x.1.kids.length x.2.2].length = i * 6 + k by simp; omega]
      exact this

/-- Data in memory, one by one. -/
theorem Dn.ents {w : World} {f : Nat} {a : Option Addr} {l : List Dat} (h : Dn w f a l) (h0 : l ≠ []) : ∃ f' b o es, a = some ⟨b, o, none⟩ ∧ b < w.heap.size ∧ es.map (·.1) = l ∧ (∀ j u, (flat es)[j]? = some u → w.cell? ⟨b, o + j, none⟩ = some u) ∧ ∀ e ∈ es, e.1.name.size ≤ maxLen ∧ e.1.kids.length ≤ e.2.2 ∧ Dn w f' e.2.1 e.1.kids := by
  obtain ⟨f', b, o, rfl, rfl, hb, hall⟩ := h.at h0
  obtain ⟨es, hl, hes⟩ := pick_list (α := Dat × Option Addr × Nat) (fun i e => l[i]? = some e.1 ∧ (∀ k, k < 6 → w.cell? ⟨b, o + i * 6 + k, none⟩ = [Value.int .i64 e.1.kind, .int .i64 e.1.n, .string e.1.name, .int .i64 e.1.stamp, .int .i64 e.1.lib, .slice e.2.1 e.1.kids.length e.2.2][k]?) ∧ e.1.name.size ≤ maxLen ∧ e.1.kids.length ≤ e.2.2 ∧ Dn w f' e.2.1 e.1.kids) l.length (fun i hi => by
    obtain ⟨a', cap, k0, k1, k2, k3, k4, k5, hn, hc, hk⟩ := hall i l[i] (List.getElem?_eq_getElem hi)
    refine ⟨(l[i], a', cap), List.getElem?_eq_getElem hi, ?_, hn, hc, hk⟩
    intro k hk
    match k, hk with
    | 0, _ => simpa using k0
    | 1, _ => simpa using k1
    | 2, _ => simpa using k2
    | 3, _ => simpa using k3
    | 4, _ => simpa using k4
    | 5, _ => simpa using k5)
  refine ⟨f', b, o, es, rfl, hb, ?_, ?_, ?_⟩
  · apply List.ext_getElem?
    intro i
    rw [List.getElem?_map]
    cases he : es[i]? with
    | none =>
      have : l.length ≤ i := by rw [← hl]; exact List.getElem?_eq_none_iff.1 he
      rw [List.getElem?_eq_none this]
      rfl
    | some e => exact (hes i e he).1.symm
  · intro j u hu
    have hj : j < es.length * 6 := by
      have := (List.getElem?_eq_some_iff.1 hu).1
      rwa [flat_len] at this
    have hi : j / 6 < es.length := by omega
    have he := hes (j / 6) es[j / 6] (List.getElem?_eq_getElem hi)
    have hk := he.2.1 (j % 6) (by omega)
    have hf := flat_atD es[j / 6] es (j / 6) (List.getElem?_eq_getElem hi) (j % 6) (by omega)
    rw [show j / 6 * 6 + j % 6 = j by omega, hu] at hf
    rw [show o + j / 6 * 6 + j % 6 = o + j by omega, ← hf] at hk
    exact hk
  · intro e he
    obtain ⟨i, hi⟩ := List.getElem?_of_mem he
    exact (hes i e hi).2.2

/-- A symbol with its stamp. -/
def ownS (sp lb : Int) (s : ByteArray) : Dat := ⟨3, 0, s, sp, lb, []⟩
theorem ret22 {ts : Array Value} {W : World} {R : Nat} {d : Dat} {v : Value} (h : Nod R d v W) (h6 : ts[4]? = some (.pointer (some ⟨R, 0, none⟩))) :
    (results Tryz.f22 ts).run Tryz.prog W = .ok (.agg #[.int .i64 d.kind, .int .i64 d.n, .string d.name, .int .i64 d.stamp, .int .i64 d.lib, v]) W := by
  obtain ⟨q, q0, q1, q2, q3, q4, q5, qz⟩ := h
  simp [results, Tryz.results22, go_sem, h6, q0, q1, q2, q3, q4, q5]
set_option maxRecDepth 100000 in
set_option maxHeartbeats 1600000 in
theorem own_any (s : ByteArray) (sp lb : Int) (p q : Nat) (w : World) (hp : w.cell? ⟨p, 0, none⟩ = some (.int .i64 sp)) (hq : w.cell? ⟨q, 0, none⟩ = some (.int .i64 lb)) :
    Calls Tryz.prog 22 #[.string s, .pointer (some ⟨p, 0, none⟩), .pointer (some ⟨q, 0, none⟩)] w fun e w' => e = .returned (dv (ownS sp lb s) none 0) ∧ Below w.heap.size w w' := by
  have lp := World.block_lt_of_cell? w ⟨p, 0, none⟩ hp
  have lq := World.block_lt_of_cell? w ⟨q, 0, none⟩ hq
  simp only at lp lq
  go_enter Tryz.func22, Tryz.ntmps22
  go_wp2_with fail
  refine bodyPost_ret (ret22 (d := ⟨3, 0, s, sp, lb, []⟩) (v := .slice none 0 0) (Nod.made w ⟨3, 0, s, sp, lb, []⟩ _) rfl) rfl ?_
  exact ⟨rfl, (Below.refl _ _).alloc (Nat.le_refl _) _⟩
end
end Go.Proofs.YtgeedaabdonjcaeGreatDoor
