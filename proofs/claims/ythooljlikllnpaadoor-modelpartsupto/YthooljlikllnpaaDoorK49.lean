/- From the rows' conditions to parts in memory. -/
import Derived.Test.YthooljlikllnpaaDoorK28
import Derived.Test.YthooljlikllnpaaDoorK48
namespace Go.Proofs.YthooljlikllnpaaDoor
set_option linter.unusedVariables false
set_option linter.unusedSimpArgs false
open Go.RowKit

def Dn (w : World) (f : Nat) (a : Option Addr) (ds : List Dat) : Prop := Dc (fun b => b < w.heap.size) w f a ds
mutual
def nmC : Cor → Prop
  | ⟨k, i, n, lb, ow, q, ks⟩ => lb.size ≤ 281474976710656 ∧ ow.size ≤ 281474976710656 ∧ nmL ks
def nmL : List Cor → Prop
  | [] => True
  | c :: r => nmC c ∧ nmL r
end
mutual
def smD : Dat → Prop
  | ⟨k, n, nm, st, lb, ks⟩ => (k = 3 → nm.size ≤ 281474976710656) ∧ (k = 4 → smL ks)
def smL : List Dat → Prop
  | [] => True
  | d :: r => smD d ∧ smL r
end
theorem Dn.nil (w : World) (f : Nat) (a : Option Addr) : Dn w f a [] := Dc.nil _ _ _ _
theorem Dn.upto {w : World} {f : Nat} {a : Option Addr} {ds : List Dat} (h : Dn w f a ds) (k : Nat) : Dn w (f + k) a ds := Dc.upto h k
theorem cells43 : Tryd.prog.cellsOf 43 = 6 := by kernel_rfl
theorem cells1_3 : Tryd.prog.cellsOf 3 = 1 := by kernel_rfl
theorem cells1_2 : Tryd.prog.cellsOf 2 = 1 := by kernel_rfl
theorem cells1_9 : Tryd.prog.cellsOf 9 = 1 := by kernel_rfl
theorem cells1_41 : Tryd.prog.cellsOf 41 = 1 := by kernel_rfl
theorem bytes43 : Tryd.prog.bytesOf 43 = 72 := by kernel_rfl

/-- Six cells in a row. -/
theorem six_cells {w : World} {a : Addr} {cs : List Value} (h : w.cells? 0 a 6 = some cs) : ∃ c0 c1 c2 c3 c4 c5, cs = [c0, c1, c2, c3, c4, c5] ∧ a.spot = none ∧ a.block < w.heap.size ∧
    w.cell? ⟨a.block, a.off, none⟩ = some c0 ∧ w.cell? ⟨a.block, a.off + 1, none⟩ = some c1 ∧ w.cell? ⟨a.block, a.off + 2, none⟩ = some c2 ∧ w.cell? ⟨a.block, a.off + 3, none⟩ = some c3 ∧ w.cell? ⟨a.block, a.off + 4, none⟩ = some c4 ∧ w.cell? ⟨a.block, a.off + 5, none⟩ = some c5 := by
  unfold World.cells? at h
  rw [if_pos (Nat.zero_le _)] at h
  simp only [show List.range 6 = [0, 1, 2, 3, 4, 5] from rfl, List.mapM_cons, List.mapM_nil, Option.bind_eq_bind, Option.bind_eq_some_iff, Option.pure_def, Option.some.injEq] at h
  obtain ⟨c0, h0, _, ⟨c1, h1, _, ⟨c2, h2, _, ⟨c3, h3, _, ⟨c4, h4, _, ⟨c5, h5, _, rfl, rfl⟩, rfl⟩, rfl⟩, rfl⟩, rfl⟩, rfl⟩ := h
  have hs : a.spot = none := by simpa [Addr.add] using World.cell?_spot h0
  obtain ⟨b, o, sp⟩ := a
  simp only at hs
  subst hs
  simp only [Addr.add] at h0 h1 h2 h3 h4 h5
  exact ⟨c0, c1, c2, c3, c4, c5, rfl, rfl, World.block_lt_of_cell? _ _ h0, h0, h1, h2, h3, h4, h5⟩

theorem weightsAll_mem {H : Type} {P : Program} {e : TypeId} : ∀ {ds : List (DataW H)} {i : Nat} {d : DataW H}, ds[i]? = some d → ∀ n ∈ d.weights P e, n ∈ DataW.weightsAll P e ds
  | [], i, d, h, n, hn => by cases h
  | x :: r, 0, d, h, n, hn => by
    simp at h
    subst h
    unfold DataW.weightsAll
    exact List.mem_append_left _ hn
  | x :: r, i + 1, d, h, n, hn => by
    unfold DataW.weightsAll
    exact List.mem_append_right _ (weightsAll_mem (by simpa using h) n hn)

/-- No part is great. -/
def Lt {H : Type} (t : TypeId) (x : DataW H) : Prop := ∀ n ∈ x.weights Tryd.prog t, n ≤ reachBytes

theorem Lt.elem {H : Type} {elems spare : List (DataW H)} (h : Lt 41 (.slice elems spare)) {i : Nat} {d : DataW H} (hd : elems[i]? = some d) : Lt 43 d := fun n hn => by
  refine h n ?_
  unfold DataW.weights
  rw [Tryd.underlying41]
  exact List.mem_cons_of_mem _ (List.mem_append_left _ (weightsAll_mem hd n hn))
theorem Lt.len {H : Type} {elems spare : List (DataW H)} (h : Lt 41 (.slice elems spare)) : elems.length * 72 ≤ reachBytes := by
  have := h ((elems.length + spare.length) * Tryd.prog.bytesOf 43) (by
    unfold DataW.weights
    rw [Tryd.underlying41]
    exact List.mem_cons_self)
  rw [bytes43] at this
  have h2 : elems.length * 72 ≤ (elems.length + spare.length) * 72 := Nat.mul_le_mul_right _ (by omega)
  omega

/-- A datum's six values. -/
theorem datum_of_trod {H : Type} {enc : TypeId × Value → H} {w : World} {sp : Nat → Bool} {held : Bool} {fuel : Nat} {c0 c1 c2 c3 c4 c5 : Value} {x : DataW H × List MemPlace}
    (ht : DataW.trod enc Tryd.prog w 0 sp held fuel 43 [c0, c1, c2, c3, c4, c5] = some x) (hx : Lt 43 x.1)
    (ih : ∀ m, m < fuel → ∀ (v : Value) (x : DataW H × List MemPlace), DataW.trod enc Tryd.prog w 0 sp held m 41 [v] = some x → Lt 41 x.1 → ∃ (a : Option Addr) (cap : Nat) (ds : List Dat), v = .slice a ds.length cap ∧ ds.length ≤ cap ∧ Dn w m a ds ∧ smL ds ∧ ds.length * 72 ≤ reachBytes) :
    ∃ (d : Dat) (a : Option Addr) (cap : Nat), c0 = .int .i64 d.kind ∧ c1 = .int .i64 d.n ∧ c2 = .string d.name ∧ c3 = .int .i64 d.stamp ∧ c4 = .int .i64 d.lib ∧ c5 = .slice a d.kids.length cap ∧ d.name.size ≤ maxLen ∧ d.kids.length ≤ cap ∧ Dn w fuel a d.kids ∧ smD d := by
  obtain ⟨xs, m, hm, rfl, _, hxl, hf⟩ := DataW.trod_struct Tryd.underlying43 ht
  have e0 : DataW.trod enc Tryd.prog w 0 sp held m 3 (([c0, c1, c2, c3, c4, c5].drop 0).take (Tryd.prog.cellsOf 3)) = xs[0]? := hf 0 _ rfl
  have e1 : DataW.trod enc Tryd.prog w 0 sp held m 2 (([c0, c1, c2, c3, c4, c5].drop 1).take (Tryd.prog.cellsOf 2)) = xs[1]? := hf 1 _ rfl
  have e2 : DataW.trod enc Tryd.prog w 0 sp held m 9 (([c0, c1, c2, c3, c4, c5].drop 2).take (Tryd.prog.cellsOf 9)) = xs[2]? := hf 2 _ rfl
  have e3 : DataW.trod enc Tryd.prog w 0 sp held m 3 (([c0, c1, c2, c3, c4, c5].drop 3).take (Tryd.prog.cellsOf 3)) = xs[3]? := hf 3 _ rfl
  have e4 : DataW.trod enc Tryd.prog w 0 sp held m 3 (([c0, c1, c2, c3, c4, c5].drop 4).take (Tryd.prog.cellsOf 3)) = xs[4]? := hf 4 _ rfl
  have e5 : DataW.trod enc Tryd.prog w 0 sp held m 41 (([c0, c1, c2, c3, c4, c5].drop 5).take (Tryd.prog.cellsOf 41)) = xs[5]? := hf 5 _ rfl
  have hx6 : xs.length = 6 := hxl
  have W : ∀ (i : Nat) (t : TypeId) (y : DataW H × List MemPlace), xs[i]? = some y → ([3, 2, 9, 3, 3, 41] : List TypeId)[i]? = some t → Lt t y.1 := by
    intro i t y hy htt n hn
    refine hx n ?_
    unfold DataW.weights
    rw [Tryd.underlying43]
    exact DataW.weights_mem_each (j := i) (t := t) (d := y.1) htt (by rw [List.getElem?_map, hy]; rfl) n hn
  rw [List.getElem?_eq_getElem (by omega)] at e0 e1 e2 e3 e4 e5
  rw [cells1_3] at e0 e3 e4
  rw [cells1_2] at e1
  rw [cells1_9] at e2
  rw [cells1_41] at e5
  simp only [List.drop_zero, List.take_succ_cons, List.take_zero, List.drop_succ_cons] at e0 e1 e2 e3 e4 e5
  obtain ⟨k, hk, _, _⟩ := DataW.trod_int Tryd.underlying3 e0
  obtain ⟨nn, hnn, _, _⟩ := DataW.trod_int Tryd.underlying2 e1
  obtain ⟨s, hsn, hs2, hsz⟩ := DataW.trod_string Tryd.underlying9 e2
  obtain ⟨st, hst, _, _⟩ := DataW.trod_int Tryd.underlying3 e3
  obtain ⟨lb, hlb, _, _⟩ := DataW.trod_int Tryd.underlying3 e4
  obtain ⟨a', cap', ks, hks, hcp, hlk, hsm, _⟩ := ih m (by omega) c5 _ e5 (W 5 41 _ (List.getElem?_eq_getElem (by omega)) rfl)
  have hlt : s.size ≤ 281474976710656 := by
    have := W 2 9 _ (List.getElem?_eq_getElem (by omega)) rfl s.data.toList.length (by rw [hs2]; simp [DataW.weights])
    have h2 := reachBytes_lt
    have h3 : s.data.toList.length = s.size := Array.length_toList
    omega
  simp at hk hnn hsn hst hlb
  subst hk hnn hsn hst hlb hks
  refine ⟨⟨k, nn, s, st, lb, ks⟩, a', cap', rfl, rfl, rfl, rfl, rfl, rfl, hsz, hcp, ?_, ?_⟩
  · have := hlk.upto (fuel - m)
    rwa [show m + (fuel - m) = fuel by omega] at this
  · rw [smD]
    exact ⟨fun _ => hlt, fun _ => hsm⟩

theorem smL_of {l : List Dat} : (∀ d ∈ l, smD d) → smL l := by
  induction l with
  | nil => intro _; rw [smL]; trivial
  | cons x r ih => intro h; rw [smL]; exact ⟨h x (by simp), ih fun d hd => h d (by simp [hd])⟩

/-- WHAT CAN BE READ AS DATA LIES IN MEMORY AS DATA DO. -/
theorem data_of_trod {H : Type} {enc : TypeId × Value → H} {w : World} {sp : Nat → Bool} {held : Bool} : ∀ (F fuel : Nat), fuel ≤ F → ∀ (v : Value) (x : DataW H × List MemPlace), DataW.trod enc Tryd.prog w 0 sp held fuel 41 [v] = some x → Lt 41 x.1 →
    ∃ (a : Option Addr) (cap : Nat) (ds : List Dat), v = .slice a ds.length cap ∧ ds.length ≤ cap ∧ Dn w fuel a ds ∧ smL ds ∧ ds.length * 72 ≤ reachBytes
  | 0, fuel, hF, v, x, h, hx => by
    obtain rfl : fuel = 0 := by omega
    simp [DataW.trod] at h
  | F + 1, fuel, hF, v, x, h, hx => by
    rcases DataW.trod_slice Tryd.underlying41 h with ⟨hv, _⟩ | ⟨a, len, cap, elems, rest, n, hn, hv, rfl, _, hlc, hcm, hel, hall, _, _⟩
    · simp at hv
      exact ⟨none, 0, [], hv, Nat.le_refl _, Dn.nil _ _ _, smL_of (by simp), by simp [reachBytes]⟩
    · simp at hv
      have hlen : len * 72 ≤ reachBytes := by
        have := hx.len
        rw [List.length_map, hel] at this
        exact this
      have key : ∀ i, i < len → ∃ d : Dat, ∃ a' cap', (i = 0 → a.spot = none) ∧ a.block < w.heap.size ∧
          w.cell? ⟨a.block, a.off + i * 6, none⟩ = some (.int .i64 d.kind) ∧ w.cell? ⟨a.block, a.off + i * 6 + 1, none⟩ = some (.int .i64 d.n) ∧ w.cell? ⟨a.block, a.off + i * 6 + 2, none⟩ = some (.string d.name) ∧
          w.cell? ⟨a.block, a.off + i * 6 + 3, none⟩ = some (.int .i64 d.stamp) ∧ w.cell? ⟨a.block, a.off + i * 6 + 4, none⟩ = some (.int .i64 d.lib) ∧ w.cell? ⟨a.block, a.off + i * 6 + 5, none⟩ = some (.slice a' d.kids.length cap') ∧
          d.name.size ≤ maxLen ∧ d.kids.length ≤ cap' ∧ Dn w n a' d.kids ∧ smD d := by
        intro i hi
        have h1 := hall i hi
        rw [cells43, List.getElem?_eq_getElem (by omega)] at h1
        obtain ⟨cs, hcs, ht⟩ := Option.bind_eq_some_iff.1 h1
        obtain ⟨c0, c1, c2, c3, c4, c5, rfl, hs, hb, g0, g1, g2, g3, g4, g5⟩ := six_cells hcs
        have hxi : Lt 43 (elems[i]'(by omega)).1 := hx.elem (i := i) (by rw [List.getElem?_map, List.getElem?_eq_getElem (by omega)]; rfl)
        obtain ⟨d, a', cap', rfl, rfl, rfl, rfl, rfl, rfl, p1, p2, p3, p4⟩ := datum_of_trod ht hxi fun m hm v x h hx => data_of_trod F m (by omega) v x h hx
        have hadd : (a.add (i * 6)).block = a.block ∧ (a.add (i * 6)).off = a.off + i * 6 := by
          unfold Addr.add
          split
          · rename_i h; rw [h]; exact ⟨rfl, rfl⟩
          · exact ⟨rfl, rfl⟩
        rw [hadd.1, hadd.2] at g0 g1 g2 g3 g4 g5
        rw [hadd.1] at hb
        refine ⟨d, a', cap', ?_, hb, g0, g1, g2, g3, g4, g5, p1, p2, p3, p4⟩
        intro h0
        subst h0
        simpa [Addr.add] using hs
      obtain ⟨ds, hdl, hd⟩ := pick_list _ len key
      refine ⟨some a, cap, ds, by rw [hv, hdl], by omega, ?_, smL_of ?_, by rw [hdl]; exact hlen⟩
      · rw [hn]
        refine ⟨by unfold maxLen at hcm; omega, ?_⟩
        by_cases h0 : ds = []
        · exact Or.inl h0
        · have hpos : 0 < ds.length := List.length_pos_iff.2 h0
          obtain ⟨_, _, hsp, hbl, _⟩ := hd 0 ds[0] (List.getElem?_eq_getElem hpos)
          have hsp' := hsp rfl
          obtain ⟨b, o, spt⟩ := a
          simp only at hsp' hbl
          subst hsp'
          refine Or.inr ⟨b, o, rfl, hbl, ?_⟩
          intro i d hi
          obtain ⟨a', cap', _, _, r0, r1, r2, r3, r4, r5, r6, r7, r8, _⟩ := hd i d hi
          exact ⟨a', cap', r0, r1, r2, r3, r4, r5, r6, r7, r8⟩
      · intro d hdm
        obtain ⟨i, hi⟩ := List.getElem?_of_mem hdm
        obtain ⟨_, _, _, _, _, _, _, _, _, _, _, _, _, r⟩ := hd i d hi
        exact r

/-- A datum among the arguments. -/
theorem one_of_trod {H : Type} {enc : TypeId × Value → H} {w : World} {sp : Nat → Bool} {held : Bool} {fuel : Nat} {c0 c1 c2 c3 c4 c5 : Value} {x : DataW H × List MemPlace}
    (ht : DataW.trod enc Tryd.prog w 0 sp held fuel 43 [c0, c1, c2, c3, c4, c5] = some x) (hx : Lt 43 x.1) :
    ∃ (d : Dat) (a : Option Addr) (cap : Nat), c0 = .int .i64 d.kind ∧ c1 = .int .i64 d.n ∧ c2 = .string d.name ∧ c3 = .int .i64 d.stamp ∧ c4 = .int .i64 d.lib ∧ c5 = .slice a d.kids.length cap ∧ d.name.size ≤ maxLen ∧ d.kids.length ≤ cap ∧ Dn w fuel a d.kids ∧ smD d :=
  datum_of_trod ht hx fun m hm v x h hx => data_of_trod m m (Nat.le_refl _) v x h hx

/-- Twelve cells in a row. -/
theorem twelve_cells {w : World} {a : Addr} {cs : List Value} (h : w.cells? 0 a 12 = some cs) : ∃ c0 c1 c2 c3 c4 c5 c6 c7 c8 c9 c10 c11, cs = [c0, c1, c2, c3, c4, c5, c6, c7, c8, c9, c10, c11] ∧ a.spot = none ∧ a.block < w.heap.size ∧ ∀ q, q < 12 → w.cell? ⟨a.block, a.off + q, none⟩ = (#[c0, c1, c2, c3, c4, c5, c6, c7, c8, c9, c10, c11] : Array Value)[q]? := by
  unfold World.cells? at h
  rw [if_pos (Nat.zero_le _)] at h
  simp only [show List.range 12 = [0, 1, 2, 3, 4, 5, 6, 7, 8, 9, 10, 11] from rfl, List.mapM_cons, List.mapM_nil, Option.bind_eq_bind, Option.bind_eq_some_iff, Option.pure_def, Option.some.injEq] at h
  obtain ⟨c0, h0, _, ⟨c1, h1, _, ⟨c2, h2, _, ⟨c3, h3, _, ⟨c4, h4, _, ⟨c5, h5, _, ⟨c6, h6, _, ⟨c7, h7, _, ⟨c8, h8, _, ⟨c9, h9, _, ⟨c10, h10, _, ⟨c11, h11, _, rfl, rfl⟩, rfl⟩, rfl⟩, rfl⟩, rfl⟩, rfl⟩, rfl⟩, rfl⟩, rfl⟩, rfl⟩, rfl⟩, rfl⟩ := h
  have hs : a.spot = none := by simpa [Addr.add] using World.cell?_spot h0
  obtain ⟨b, o, sp⟩ := a
  simp only at hs
  subst hs
  simp only [Addr.add] at h0 h1 h2 h3 h4 h5 h6 h7 h8 h9 h10 h11
  refine ⟨c0, c1, c2, c3, c4, c5, c6, c7, c8, c9, c10, c11, rfl, rfl, World.block_lt_of_cell? _ _ h0, fun q hq => ?_⟩
  match q, hq with
  | 0, _ => simpa using h0
  | 1, _ => simpa using h1
  | 2, _ => simpa using h2
  | 3, _ => simpa using h3
  | 4, _ => simpa using h4
  | 5, _ => simpa using h5
  | 6, _ => simpa using h6
  | 7, _ => simpa using h7
  | 8, _ => simpa using h8
  | 9, _ => simpa using h9
  | 10, _ => simpa using h10
  | 11, _ => simpa using h11


theorem cells45 : Tryd.prog.cellsOf 45 = 12 := by kernel_rfl
theorem cells1_37 : Tryd.prog.cellsOf 37 = 1 := by kernel_rfl
theorem Lt.elem45 {H : Type} {elems spare : List (DataW H)} (h : Lt 37 (.slice elems spare)) {i : Nat} {d : DataW H} (hd : elems[i]? = some d) : Lt 45 d := fun n hn => by
  refine h n ?_
  unfold DataW.weights
  rw [Tryd.underlying37]
  exact List.mem_cons_of_mem _ (List.mem_append_left _ (weightsAll_mem hd n hn))
theorem str_lt {H : Type} {s : ByteArray} {x : DataW H × List MemPlace} (hx : x = (.lit (.string s.data.toList), [])) (hl : Lt 9 x.1) : s.size ≤ 281474976710656 := by
  have := hl s.data.toList.length (by rw [hx]; simp [DataW.weights])
  have h2 := reachBytes_lt
  have h3 : s.data.toList.length = s.size := Array.length_toList
  omega
theorem Cc.more {B : Nat} {w : World} : ∀ (f : Nat) (a : Option Addr) (cs : List Cor), Cc B w f a cs → Cc B w (f + 1) a cs
  | 0, a, cs, h => by
    rw [show cs = [] from h]
    exact ⟨Nat.zero_le _, Or.inl rfl⟩
  | f + 1, a, cs, h => by
    obtain ⟨hl, h⟩ := h
    refine ⟨hl, ?_⟩
    rcases h with h | ⟨b, o, ha, hb, h⟩
    · exact Or.inl h
    · refine Or.inr ⟨b, o, ha, hb, fun i c hc => ?_⟩
      obtain ⟨qa, qc, ka, kc, h1, h2, h3, h4⟩ := h i c hc
      exact ⟨qa, qc, ka, kc, h1, h2, Dc.more _ _ _ h3, Cc.more f ka _ h4⟩
theorem Cc.upto {B : Nat} {w : World} {f : Nat} {a : Option Addr} {cs : List Cor} (h : Cc B w f a cs) : ∀ (k : Nat), Cc B w (f + k) a cs
  | 0 => h
  | k + 1 => Cc.more _ _ _ (h.upto k)
/-- An expression's twelve values. -/
theorem core_of_trod {H : Type} {enc : TypeId × Value → H} {w : World} {sp : Nat → Bool} {held : Bool} {fuel : Nat} {c0 c1 c2 c3 c4 c5 c6 c7 c8 c9 c10 c11 : Value} {x : DataW H × List MemPlace}
    (ht : DataW.trod enc Tryd.prog w 0 sp held fuel 45 [c0, c1, c2, c3, c4, c5, c6, c7, c8, c9, c10, c11] = some x) (hx : Lt 45 x.1)
    (ih : ∀ m, m < fuel → ∀ (v : Value) (x : DataW H × List MemPlace), DataW.trod enc Tryd.prog w 0 sp held m 37 [v] = some x → Lt 37 x.1 → ∃ (a : Option Addr) (cap : Nat) (cs : List Cor), v = .slice a cs.length cap ∧ cs.length ≤ cap ∧ Cc w.heap.size w m a cs ∧ nmL cs) :
    ∃ (c : Cor) (qa ka : Option Addr) (qc kc : Nat), (#[c0, c1, c2, c3, c4, c5, c6, c7, c8, c9, c10, c11] : Array Value) = #[.int .i64 c.kind, .int .i64 c.index, .int .i64 c.n, .string c.lib, .string c.own, .int .i64 c.quote.kind, .int .i64 c.quote.n, .string c.quote.name, .int .i64 c.quote.stamp, .int .i64 c.quote.lib, .slice qa c.quote.kids.length qc, .slice ka c.kids.length kc] ∧ NcOk c qc kc ∧ Dn w fuel qa c.quote.kids ∧ Cc w.heap.size w fuel ka c.kids ∧ nmC c := by
  obtain ⟨xs, m, hm, rfl, _, hxl, hf⟩ := DataW.trod_struct Tryd.underlying45 ht
  have e0 : DataW.trod enc Tryd.prog w 0 sp held m 3 (([c0, c1, c2, c3, c4, c5, c6, c7, c8, c9, c10, c11].drop 0).take (Tryd.prog.cellsOf 3)) = xs[0]? := hf 0 _ rfl
  have e1 : DataW.trod enc Tryd.prog w 0 sp held m 3 (([c0, c1, c2, c3, c4, c5, c6, c7, c8, c9, c10, c11].drop 1).take (Tryd.prog.cellsOf 3)) = xs[1]? := hf 1 _ rfl
  have e2 : DataW.trod enc Tryd.prog w 0 sp held m 2 (([c0, c1, c2, c3, c4, c5, c6, c7, c8, c9, c10, c11].drop 2).take (Tryd.prog.cellsOf 2)) = xs[2]? := hf 2 _ rfl
  have e3 : DataW.trod enc Tryd.prog w 0 sp held m 9 (([c0, c1, c2, c3, c4, c5, c6, c7, c8, c9, c10, c11].drop 3).take (Tryd.prog.cellsOf 9)) = xs[3]? := hf 3 _ rfl
  have e4 : DataW.trod enc Tryd.prog w 0 sp held m 9 (([c0, c1, c2, c3, c4, c5, c6, c7, c8, c9, c10, c11].drop 4).take (Tryd.prog.cellsOf 9)) = xs[4]? := hf 4 _ rfl
  have e5 : DataW.trod enc Tryd.prog w 0 sp held m 43 (([c0, c1, c2, c3, c4, c5, c6, c7, c8, c9, c10, c11].drop 5).take (Tryd.prog.cellsOf 43)) = xs[5]? := hf 5 _ rfl
  have e6 : DataW.trod enc Tryd.prog w 0 sp held m 37 (([c0, c1, c2, c3, c4, c5, c6, c7, c8, c9, c10, c11].drop 11).take (Tryd.prog.cellsOf 37)) = xs[6]? := hf 6 _ rfl
  have hx7 : xs.length = 7 := hxl
  have W : ∀ (i : Nat) (t : TypeId) (y : DataW H × List MemPlace), xs[i]? = some y → ([3, 3, 2, 9, 9, 43, 37] : List TypeId)[i]? = some t → Lt t y.1 := by
    intro i t y hy htt n hn
    refine hx n ?_
    unfold DataW.weights
    rw [Tryd.underlying45]
    exact DataW.weights_mem_each (j := i) (t := t) (d := y.1) htt (by rw [List.getElem?_map, hy]; rfl) n hn
  rw [List.getElem?_eq_getElem (by omega)] at e0 e1 e2 e3 e4 e5 e6
  rw [cells1_3] at e0 e1
  rw [cells1_2] at e2
  rw [cells1_9] at e3 e4
  rw [cells43] at e5
  rw [cells1_37] at e6
  simp only [List.drop_zero, List.take_succ_cons, List.take_zero, List.drop_succ_cons] at e0 e1 e2 e3 e4 e5 e6
  obtain ⟨k, hk, _, _⟩ := DataW.trod_int Tryd.underlying3 e0
  obtain ⟨ix, hix, _, _⟩ := DataW.trod_int Tryd.underlying3 e1
  obtain ⟨nn, hnn, _, _⟩ := DataW.trod_int Tryd.underlying2 e2
  obtain ⟨lb, hlb, hlb2, hlbz⟩ := DataW.trod_string Tryd.underlying9 e3
  obtain ⟨ow, how, how2, howz⟩ := DataW.trod_string Tryd.underlying9 e4
  obtain ⟨q, qa, qc, rfl, rfl, rfl, rfl, rfl, rfl, q1, q2, q3, _⟩ := one_of_trod e5 (W 5 43 _ (List.getElem?_eq_getElem (by omega)) rfl)
  obtain ⟨ka, kc, ks, hks, hkc, hkk, hnm⟩ := ih m (by omega) c11 _ e6 (W 6 37 _ (List.getElem?_eq_getElem (by omega)) rfl)
  have l1 := str_lt hlb2 (W 3 9 _ (List.getElem?_eq_getElem (by omega)) rfl)
  have l2 := str_lt how2 (W 4 9 _ (List.getElem?_eq_getElem (by omega)) rfl)
  simp at hk hix hnn hlb how
  subst hk hix hnn hlb how hks
  refine ⟨⟨k, ix, nn, lb, ow, q, ks⟩, qa, ka, qc, kc, rfl, ⟨hlbz, howz, q1, q2, hkc⟩, ?_, ?_, ?_⟩
  · have := q3.upto (fuel - m)
    rwa [show m + (fuel - m) = fuel by omega] at this
  · have := hkk.upto (fuel - m)
    rwa [show m + (fuel - m) = fuel by omega] at this
  · rw [nmC]
    exact ⟨l1, l2, hnm⟩
theorem nmL_of {l : List Cor} : (∀ c ∈ l, nmC c) → nmL l := by
  induction l with
  | nil => intro _; rw [nmL]; trivial
  | cons x r ih => intro h; rw [nmL]; exact ⟨h x (by simp), ih fun d hd => h d (by simp [hd])⟩
/-- WHAT CAN BE READ AS EXPRESSIONS LIES IN MEMORY AS THEY DO. -/
theorem cores_of_trod {H : Type} {enc : TypeId × Value → H} {w : World} {sp : Nat → Bool} {held : Bool} : ∀ (F fuel : Nat), fuel ≤ F → ∀ (v : Value) (x : DataW H × List MemPlace), DataW.trod enc Tryd.prog w 0 sp held fuel 37 [v] = some x → Lt 37 x.1 →
    ∃ (a : Option Addr) (cap : Nat) (cs : List Cor), v = .slice a cs.length cap ∧ cs.length ≤ cap ∧ Cc w.heap.size w fuel a cs ∧ nmL cs
  | 0, fuel, hF, v, x, h, hx => by
    obtain rfl : fuel = 0 := by omega
    simp [DataW.trod] at h
  | F + 1, fuel, hF, v, x, h, hx => by
    rcases DataW.trod_slice Tryd.underlying37 h with ⟨hv, _⟩ | ⟨a, len, cap, elems, rest, n, hn, hv, rfl, _, hlc, hcm, hel, hall, _, _⟩
    · simp at hv
      exact ⟨none, 0, [], hv, Nat.le_refl _, Cc.upto (f := 0) (show Cc _ _ 0 _ [] from rfl) fuel |> (fun h => by rwa [Nat.zero_add] at h), nmL_of (by simp)⟩
    · simp at hv
      have key : ∀ i, i < len → ∃ c : Cor, ∃ qa ka qc kc, (i = 0 → a.spot = none) ∧ a.block < w.heap.size ∧ Nc w a.block (a.off + i * 12) c qa qc ka kc ∧ NcOk c qc kc ∧ Dn w n qa c.quote.kids ∧ Cc w.heap.size w n ka c.kids ∧ nmC c := by
        intro i hi
        have h1 := hall i hi
        rw [cells45, List.getElem?_eq_getElem (by omega)] at h1
        obtain ⟨cs, hcs, ht⟩ := Option.bind_eq_some_iff.1 h1
        obtain ⟨c0, c1, c2, c3, c4, c5, c6, c7, c8, c9, c10, c11, rfl, hs, hb, gg⟩ := twelve_cells hcs
        have hxi : Lt 45 (elems[i]'(by omega)).1 := hx.elem45 (i := i) (by rw [List.getElem?_map, List.getElem?_eq_getElem (by omega)]; rfl)
        obtain ⟨c, qa, ka, qc, kc, hcc, p1, p2, p3, p4⟩ := core_of_trod ht hxi fun m hm v x h hx => cores_of_trod F m (by omega) v x h hx
        rw [hcc] at gg
        have hadd : (a.add (i * 12)).block = a.block ∧ (a.add (i * 12)).off = a.off + i * 12 := by
          unfold Addr.add
          split
          · rename_i h; rw [h]; exact ⟨rfl, rfl⟩
          · exact ⟨rfl, rfl⟩
        rw [hadd.1, hadd.2] at gg
        rw [hadd.1] at hb
        refine ⟨c, qa, ka, qc, kc, ?_, hb, ⟨gg 0 (by decide), gg 1 (by decide), gg 2 (by decide), gg 3 (by decide), gg 4 (by decide), gg 5 (by decide), gg 6 (by decide), gg 7 (by decide), gg 8 (by decide), gg 9 (by decide), gg 10 (by decide), gg 11 (by decide)⟩, p1, p2, p3, p4⟩
        intro h0
        subst h0
        simpa [Addr.add] using hs
      obtain ⟨ds, hdl, hd⟩ := pick_list _ len key
      refine ⟨some a, cap, ds, by rw [hv, hdl], by omega, ?_, nmL_of ?_⟩
      · rw [hn]
        refine ⟨by unfold maxLen at hcm; omega, ?_⟩
        by_cases h0 : ds = []
        · exact Or.inl h0
        · have hpos : 0 < ds.length := List.length_pos_iff.2 h0
          obtain ⟨_, _, _, _, hsp, hbl, _⟩ := hd 0 ds[0] (List.getElem?_eq_getElem hpos)
          have hsp' := hsp rfl
          obtain ⟨b, o, spt⟩ := a
          simp only at hsp' hbl
          subst hsp'
          refine Or.inr ⟨b, o, rfl, hbl, ?_⟩
          intro i d hi
          obtain ⟨qa, ka, qc, kc, _, _, r0, r1, r2, r3, _⟩ := hd i d hi
          exact ⟨qa, qc, ka, kc, r0, r1, r2, r3⟩
      · intro d hdm
        obtain ⟨i, hi⟩ := List.getElem?_of_mem hdm
        obtain ⟨_, _, _, _, _, _, _, _, _, _, r⟩ := hd i d hi
        exact r
/-- A part among the arguments. -/
theorem part_of_trod {H : Type} {enc : TypeId × Value → H} {w : World} {sp : Nat → Bool} {held : Bool} {fuel : Nat} {c0 c1 : Value} {x : DataW H × List MemPlace}
    (ht : DataW.trod enc Tryd.prog w 0 sp held fuel 39 [c0, c1] = some x) (hx : Lt 39 x.1) :
    ∃ (nm : ByteArray) (l : List Cor) (a : Option Addr) (cap F : Nat), c0 = .string nm ∧ c1 = .slice a l.length cap ∧ l.length ≤ cap ∧ Cc w.heap.size w F a l ∧ nmL l ∧ nm.size ≤ 281474976710656 := by
  obtain ⟨xs, m, hm, rfl, _, hxl, hf⟩ := DataW.trod_struct Tryd.underlying39 ht
  have e0 : DataW.trod enc Tryd.prog w 0 sp held m 9 (([c0, c1].drop 0).take (Tryd.prog.cellsOf 9)) = xs[0]? := hf 0 _ rfl
  have e1 : DataW.trod enc Tryd.prog w 0 sp held m 37 (([c0, c1].drop 1).take (Tryd.prog.cellsOf 37)) = xs[1]? := hf 1 _ rfl
  have hx2 : xs.length = 2 := hxl
  have W : ∀ (i : Nat) (t : TypeId) (y : DataW H × List MemPlace), xs[i]? = some y → ([9, 37] : List TypeId)[i]? = some t → Lt t y.1 := by
    intro i t y hy htt n hn
    refine hx n ?_
    unfold DataW.weights
    rw [Tryd.underlying39]
    exact DataW.weights_mem_each (j := i) (t := t) (d := y.1) htt (by rw [List.getElem?_map, hy]; rfl) n hn
  rw [List.getElem?_eq_getElem (by omega)] at e0 e1
  rw [cells1_9] at e0
  rw [cells1_37] at e1
  simp only [List.drop_zero, List.take_succ_cons, List.take_zero, List.drop_succ_cons] at e0 e1
  obtain ⟨nm, hnm, hnm2, _⟩ := DataW.trod_string Tryd.underlying9 e0
  have l1 := str_lt hnm2 (W 0 9 _ (List.getElem?_eq_getElem (by omega)) rfl)
  obtain ⟨a, cap, l, h1, h2, h3, h4⟩ := cores_of_trod m m (Nat.le_refl _) c1 _ e1 (W 1 37 _ (List.getElem?_eq_getElem (by omega)) rfl)
  simp at hnm
  exact ⟨nm, l, a, cap, m, hnm, h1, h2, h3, h4, l1⟩
theorem cells39' : Tryd.prog.cellsOf 39 = 2 := by kernel_rfl
theorem Lt.elem39 {H : Type} {elems spare : List (DataW H)} (h : Lt 22 (.slice elems spare)) {i : Nat} {d : DataW H} (hd : elems[i]? = some d) : Lt 39 d := fun n hn => by
  refine h n ?_
  unfold DataW.weights
  rw [Tryd.underlying22]
  exact List.mem_cons_of_mem _ (List.mem_append_left _ (weightsAll_mem hd n hn))
/-- Two cells in a row. -/
theorem two_cellsP {w : World} {a : Addr} {cs : List Value} (h : w.cells? 0 a 2 = some cs) : ∃ c0 c1, cs = [c0, c1] ∧ a.spot = none ∧ a.block < w.heap.size ∧ w.cell? ⟨a.block, a.off, none⟩ = some c0 ∧ w.cell? ⟨a.block, a.off + 1, none⟩ = some c1 := by
  unfold World.cells? at h
  rw [if_pos (Nat.zero_le _)] at h
  simp only [show List.range 2 = [0, 1] from rfl, List.mapM_cons, List.mapM_nil, Option.bind_eq_bind, Option.bind_eq_some_iff, Option.pure_def, Option.some.injEq] at h
  obtain ⟨c0, h0, _, ⟨c1, h1, _, rfl, rfl⟩, rfl⟩ := h
  have hs : a.spot = none := by simpa [Addr.add] using World.cell?_spot h0
  obtain ⟨b, o, sp⟩ := a
  simp only at hs
  subst hs
  simp only [Addr.add] at h0 h1
  exact ⟨c0, c1, rfl, rfl, World.block_lt_of_cell? _ _ h0, h0, h1⟩
/-- PARTS AMONG THE ARGUMENTS. -/
theorem parts_of_trod {H : Type} {enc : TypeId × Value → H} {w : World} {sp : Nat → Bool} {held : Bool} {fuel : Nat} {v : Value} {x : DataW H × List MemPlace} (h : DataW.trod enc Tryd.prog w 0 sp held fuel 22 [v] = some x) (hx : Lt 22 x.1) :
    ∃ (a : Option Addr) (cap : Nat) (ps : List (ByteArray × List Cor)), v = .slice a ps.length cap ∧ ps.length ≤ cap ∧ PsV w.heap.size w a ps := by
  rcases DataW.trod_slice Tryd.underlying22 h with ⟨hv, _⟩ | ⟨a, len, cap, elems, rest, n, hn, hv, rfl, _, hlc, hcm, hel, hall, _, _⟩
  · simp at hv
    exact ⟨none, 0, [], hv, Nat.le_refl _, by simp, Or.inl rfl⟩
  · simp at hv
    have key : ∀ i, i < len → ∃ p : ByteArray × List Cor, (i = 0 → a.spot = none) ∧ a.block < w.heap.size ∧ w.cell? ⟨a.block, a.off + i * 2, none⟩ = some (.string p.1) ∧ ∃ a' cap' g, w.cell? ⟨a.block, a.off + i * 2 + 1, none⟩ = some (.slice a' p.2.length cap') ∧ Cc w.heap.size w g a' p.2 ∧ p.2.length ≤ cap' := by
      intro i hi
      have h1 := hall i hi
      rw [cells39', List.getElem?_eq_getElem (by omega)] at h1
      obtain ⟨cs, hcs, ht⟩ := Option.bind_eq_some_iff.1 h1
      obtain ⟨c0, c1, rfl, hs, hb, g0, g1⟩ := two_cellsP hcs
      have hxi : Lt 39 (elems[i]'(by omega)).1 := hx.elem39 (i := i) (by rw [List.getElem?_map, List.getElem?_eq_getElem (by omega)]; rfl)
      obtain ⟨nm, l, a', cap', F, rfl, rfl, hcap, hcc, _, _⟩ := part_of_trod ht hxi
      have hadd : (a.add (i * 2)).block = a.block ∧ (a.add (i * 2)).off = a.off + i * 2 := by
        unfold Addr.add
        split
        · rename_i h; rw [h]; exact ⟨rfl, rfl⟩
        · exact ⟨rfl, rfl⟩
      rw [hadd.1, hadd.2] at g0 g1
      rw [hadd.1] at hb
      refine ⟨(nm, l), ?_, hb, g0, a', cap', F, g1, hcc, hcap⟩
      intro h0
      subst h0
      simpa [Addr.add] using hs
    obtain ⟨ps, hpl, hp⟩ := pick_list _ len key
    refine ⟨some a, cap, ps, by rw [hv, hpl], by omega, by unfold maxLen at hcm; omega, ?_⟩
    by_cases h0 : ps = []
    · exact Or.inl h0
    · have hpos : 0 < ps.length := List.length_pos_iff.2 h0
      obtain ⟨hsp, hbl, _⟩ := hp 0 ps[0] (List.getElem?_eq_getElem hpos)
      have hsp' := hsp rfl
      obtain ⟨b, o, spt⟩ := a
      simp only at hsp' hbl
      subst hsp'
      refine Or.inr ⟨b, o, rfl, hbl, ?_⟩
      intro j nm bd hj
      obtain ⟨_, _, r0, a', cap', g, r1, r2, r3⟩ := hp j (nm, bd) hj
      exact ⟨r0, a', cap', g, r1, r2, r3⟩
end Go.Proofs.YthooljlikllnpaaDoor
