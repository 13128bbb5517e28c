/- Package rule set: the things of a list of a template, one by one. Package rule set: is a template right? Symbols, and what is neither symbol nor list. -/
import Derived.LoopIn
import Derived.LoopNIn
import Derived.OwnWalkIn
import Derived.RangeFuncBound
import Derived.RangeFuncCalls
import Derived.RangeFuncLeaves
import Derived.RangeFuncNested
import Derived.Shelf.Abstract
import Derived.Shelf.RegionOpen
import Derived.TacticsInMore
import Derived.Test.YtgeedaabdonjcaeGreatDoorK09
namespace Go.Proofs.YtgeedaabdonjcaeGreatDoor
section
set_option linter.unusedVariables false
set_option linter.unusedSimpArgs false
open Go.RowKit Go.Shelf
attribute [local go_sem] Oper.semAt_some

/-- A thing of a list that lies in memory. -/
abbrev Thing (B g : Nat) (w : World) (l : List Dat) := { x : Dat × Option Addr × Nat × Bool // Lies B w g x.2.1 x.1.kids ∧ x.1.name.size ≤ maxLen ∧ (x.1, x.2.2.2) ∈ things l }
def encT {B g : Nat} {w : World} {l : List Dat} (x : Thing B g w l) : Array Value := #[dv x.1.1 x.1.2.1 x.1.2.2.1, .bool x.1.2.2.2]
def bareT {B g : Nat} {w : World} {l : List Dat} (ys : List (Thing B g w l)) : List (Dat × Bool) := ys.map fun x => (x.1.1, x.1.2.2.2)

/-- What a round must keep. -/
def KpT (B bx : Nat) (W W' : World) : Prop := W.heap.size ≤ W'.heap.size ∧ W'.heap[bx]? = W.heap[bx]? ∧ Old B W W'

set_option maxHeartbeats 400000 in
theorem things_any (a : Option Addr) (n cap : Nat) (w : World) :
    Calls Tryz.prog 86 #[.slice a n cap] w fun e w' => e = .returned (.func (.func 112) #[] #[.pointer (some ⟨w.heap.size, 0, none⟩)]) ∧ w' = w.alloc (.cells #[.slice a n cap] 26) := by
  go_enter Tryz.func86, Tryz.ntmps86
  go_wp2_with fail
  go_ret
  exact ⟨rfl, rfl⟩

theorem things_drop {l : List Dat} {k : Nat} {d : Dat} (h : l[k]? = some d) : things (l.drop k) = (d, headDots (l.drop (k + 1))) :: things (l.drop (if headDots (l.drop (k + 1)) then k + 2 else k + 1)) := by
  rw [drop_cons' h]
  cases hr : l.drop (k + 1) with
  | nil =>
    have e : headDots ([] : List Dat) = false := rfl
    rw [e]
    simp only [Bool.false_eq_true, if_false]
    rw [hr, things, things]
  | cons e r =>
    have hr2 : l.drop (k + 2) = r := by
      have := congrArg List.tail hr
      rw [List.tail_drop] at this
      exact this
    have e2 : headDots (e :: r) = isDots e := rfl
    rw [e2, things]
    cases he : isDots e with
    | true =>
      simp only [if_true]
      rw [hr2]
    | false =>
      simp only [Bool.false_eq_true, if_false]
      rw [hr]

theorem things_end {l : List Dat} {k : Nat} (h : l.length ≤ k) : things (l.drop k) = [] := by
  rw [List.drop_eq_nil_of_le h, things]

theorem headDots_lt {l : List Dat} {k : Nat} (h : headDots (l.drop k) = true) : k < l.length := by
  apply Classical.byContradiction
  intro hn
  rw [List.drop_eq_nil_of_le (by omega)] at h
  cases h

set_option maxRecDepth 100000 in
set_option maxHeartbeats 2000000 in
theorem things_in (B g m : Nat) (hm : 1 ≤ m) (lp bx : Nat) (a : Option Addr) (cap : Nat) (l : List Dat) (w W : World) (hl : Lies B w (g + 1) a l) (hB : B ≤ w.heap.size) (hW : Below w.heap.size w W) (hbx : W.heap[bx]? = some (.cells #[.slice a l.length cap] 26 (0, 0)))
    (J Jx : List (Thing B g w l) → World → Prop) (hJ : AbidesFrom W.heap.size J)
    (hY : ∀ pre x W1, J pre W1 → pre.length < l.length → YieldAt Fence.wide (m - 1) Tryz.prog lp (encT x) W1 fun e W' => (e = .returned (.bool true) ∧ J (pre ++ [x]) W' ∧ KpT B bx W1 W') ∨ (e = .returned (.bool false) ∧ Jx (pre ++ [x]) W'))
    (h0 : J [] W) :
    CallsIn Fence.wide m Tryz.prog 112 #[.func (.yield lp) #[] #[], .pointer (some ⟨bx, 0, none⟩)] W fun e W' => (∃ v, e = .returned v) ∧
      ((∃ ys, bareT ys = things l ∧ J ys W') ∨ (∃ pre, (∃ r, things l = bareT pre ++ r) ∧ Jx pre W')) := by
  have hlen := hl.len
  refine callsIn_of_wp Tryz.func112 rfl trivial ?_ rfl
  simp only [Tryz.ntmps112, List.size_toArray, List.length_cons, List.length_nil, Nat.reduceAdd, Nat.reduceSub, Array.replicate_succ, Array.replicate_zero, List.push_toArray, List.append_toArray, List.nil_append, List.cons_append]
  have HC : Hid (Lies B w (g + 1) a l ∧ B ≤ w.heap.size ∧ Below w.heap.size w W ∧ W.heap[bx]? = some (.cells #[.slice a l.length cap] 26 (0, 0))) := ⟨hl, hB, hW, hbx⟩
  clear hl hB hW hbx
  gi_wp2
  gi_loopw [3] (fun i wr => ∃ (k : Nat) (pre : List (Thing B g w l)), k ≤ l.length ∧ i = .int .i64 (k : Int) ∧ J pre wr ∧ Hid (things l = bareT pre ++ things (l.drop k) ∧ pre.length ≤ k ∧ KpT B bx W wr)) (fun i _ => l.length - (intOf i).toNat)
  case atStart => exact ⟨0, [], Nat.zero_le _, rfl, h0, by simp [bareT], by simp, Nat.le_refl _, rfl, Old.refl _ _⟩
  case round =>
    obtain ⟨k, pre, hk, rfl, hJs, HP⟩ := hrel
    have hbr : wr.heap[bx]? = some (.cells #[.slice a l.length cap] 26 (0, 0)) := HP.out.2.2.2.1.trans HC.out.2.2.2
    have hcb : wr.cell? ⟨bx, 0, none⟩ = some (.slice a l.length cap) := by simp [World.cell?, hbr]
    have HBR := hidd hbr
    clear hbr
    by_cases hlt : k < l.length
    · obtain ⟨d, hd⟩ : ∃ d, l[k]? = some d := ⟨l[k], List.getElem?_eq_getElem hlt⟩
      have hO : Old B w wr := fun k hk => (HP.out.2.2.2.2 k hk).trans (HC.out.2.2.1.block k (by have := HC.out.2.1; omega))
      have hLw : Lies B wr (g + 1) a l := Lies.stay hO _ _ _ HC.out.1
      have hne0 : l ≠ [] := by intro e; rw [e] at hlt; simp at hlt
      obtain ⟨g', b, o, hg, ha, hbB, hall⟩ := HC.out.1.at hne0
      subst ha
      obtain ⟨a', cap', k0, k1, k2, k3, k4, k5, hkn, hkk⟩ := hall k d hd
      have hg' : g' = g := by omega
      subst hg'
      have hmem : (d, headDots (l.drop (k + 1))) ∈ things l := by
        rw [HP.out.1, things_drop hd]
        simp
      have hpl : pre.length < l.length := Nat.lt_of_le_of_lt HP.out.2.1 hlt
      have HTD : Hid (things (l.drop k) = (d, headDots (l.drop (k + 1))) :: things (l.drop (if headDots (l.drop (k + 1)) then k + 2 else k + 1))) := things_drop hd
      have DB : Hid (Calls Tryz.prog 84 #[.slice (some ⟨b, o, none⟩) l.length cap, .int .i64 (k : Int)] wr fun e w' => e = .returned (.bool (headDots (l.drop (k + 1)))) ∧ Below wr.heap.size wr w') := dotsBehind_any B (g' + 1) l _ cap k wr hLw hlt
      have CE : Hid (∀ w1, Below wr.heap.size wr w1 → ∀ q, w1.cell? ⟨b, q, none⟩ = w.cell? ⟨b, q, none⟩) := fun w1 h1 q => (World.cell?_of_block (a := ⟨b, q, none⟩) ((h1.block b (by have := HP.out.2.2.1; have := HC.out.2.1; have := HC.out.2.2.1.size; omega)).trans (hO b hbB)))
      have HX : Hid (Lies B w g' a' d.kids ∧ d.name.size ≤ maxLen ∧ (d, headDots (l.drop (k + 1))) ∈ things l) := ⟨hkk, hkn, hmem⟩
      have HDL : Hid (headDots (l.drop (k + 1)) = true → k + 1 < l.length) := fun h => headDots_lt h
      clear hLw hne0 hall hd hkk hkn hmem hg hO
      generalize hq : headDots (l.drop (k + 1)) = dt at HTD DB HX HDL
      clear hq
      gi_wp2_with fail
      refine ⟨trivial, (callsIn_wide.2 DB.out).mono ?_⟩
      rintro e w1 ⟨rfl, hb1⟩
      have hJ1 : J pre w1 := hJ pre wr w1 none hJs ⟨hb1.os, hb1.tape, hb1.output, hb1.size, fun i hi _ => hb1.block i hi⟩ (fun r e => by cases e)
      have HB1 : Hid (Below wr.heap.size wr w1) := hb1
      have hbx1 : w1.heap[bx]? = some (.cells #[.slice (some ⟨b, o, none⟩) l.length cap] 26 (0, 0)) := (hb1.block bx (Array.getElem?_eq_some_iff.1 HBR.out).1).trans HBR.out
      have hcb1 : w1.cell? ⟨bx, 0, none⟩ = some (.slice (some ⟨b, o, none⟩) l.length cap) := by simp [World.cell?, hbx1]
      have c0 := (CE.out w1 hb1 _).trans k0
      have c1 := (CE.out w1 hb1 _).trans k1
      have c2 := (CE.out w1 hb1 _).trans k2
      have c3 := (CE.out w1 hb1 _).trans k3
      have c4 := (CE.out w1 hb1 _).trans k4
      have c5 := (CE.out w1 hb1 _).trans k5
      clear hb1 hbx1 k0 k1 k2 k3 k4 k5 hcb CE hJs
      obtain ⟨fn, tmps, assign, body, hy, hR⟩ := hY pre ⟨(d, a', cap', dt), HX.out⟩ w1 hJ1 hpl
      simp only [encT, dv] at hy
      gi_wp2
      refine hR.mono ?_
      have HN : Hid (things l = bareT (pre ++ [⟨(d, a', cap', dt), HX.out⟩]) ++ things (l.drop (if dt then k + 2 else k + 1))) := by
        refine HP.out.1.trans ?_
        rw [HTD.out]
        simp [bareT]
      rintro e W3 (⟨rfl, hJ3, hk3⟩ | ⟨rfl, hJx3⟩)
      · have HK3 : Hid (KpT B bx W W3) := ⟨Nat.le_trans HP.out.2.2.1 (Nat.le_trans HB1.out.size hk3.1), (hk3.2.1.trans (HB1.out.block bx (Array.getElem?_eq_some_iff.1 HBR.out).1)).trans HP.out.2.2.2.1, fun i hi => ((hk3.2.2 i hi).trans (HB1.out.block i (by have := HP.out.2.2.1; have := HC.out.2.1; have := HC.out.2.2.1.size; omega))).trans (HP.out.2.2.2.2 i hi)⟩
        clear hk3 hy c0 c1 c2 c3 c4 c5 hcb1
        cases dt with
        | true =>
          have h2 := HDL.out rfl
          gi_wp2
          go_roundw
          case rel => exact ⟨k + 2, _, by omega, by go_num, hJ3, HN.out, by simp; have := HP.out.2.1; omega, HK3.out⟩
          case measure => simp [intOf]; omega
        | false =>
          gi_wp2
          go_roundw
          case rel => exact ⟨k + 1, _, by omega, by go_num, hJ3, HN.out, by simp; have := HP.out.2.1; omega, HK3.out⟩
          case measure => simp [intOf]; omega
      · gi_wp2
        refine bodyPost_ret (results_none rfl _ _ _) rfl ?_
        exact ⟨⟨_, rfl⟩, .inr ⟨_, ⟨_, HN.out⟩, hJx3⟩⟩
    · obtain rfl : k = l.length := by omega
      gi_wp2
      go_end0
      refine ⟨⟨_, rfl⟩, .inl ⟨pre, ?_, hJs⟩⟩
      have := HP.out.1
      rw [things_end (Nat.le_refl _), List.append_nil] at this
      exact this.symm

theorem things_stops (B g m : Nat) (hm : 1 ≤ m) (bx : Nat) (a : Option Addr) (cap : Nat) (l : List Dat) (w : World) (hl : Lies B w (g + 1) a l) (hB : B ≤ w.heap.size) (hbx : w.heap[bx]? = some (.cells #[.slice a l.length cap] 26 (0, 0))) :
    SeqStopsK Fence.wide m Tryz.prog 112 #[.pointer (some ⟨bx, 0, none⟩)] (fun x : Thing B g w l => encT x) (KpT B bx) (fun ys => bareT ys = things l) (fun pre => ∃ r, things l = bareT pre ++ r) l.length w := fun lp J Jx W hW hJ _ hY h0 =>
  things_in B g m hm lp bx a cap l w W hl hB hW ((hW.block bx (Array.getElem?_eq_some_iff.1 hbx).1).trans hbx) J Jx hJ hY h0
end
section
set_option linter.unusedVariables false
set_option linter.unusedSimpArgs false
open Go.RowKit Go.Shelf
attribute [local go_sem] Oper.semAt_some

theorem heap_setCell {w : World} {g i : Nat} {cur : Array Value} {e : TypeId} (hg : w.heap[g]? = some (.cells cur e (0, 0))) (hi : i < cur.size) (u : Value) : (w.setCell ⟨g, i, none⟩ u).heap[g]? = some (.cells (cur.set! i u) e (0, 0)) := by
  have hlt := (Array.getElem?_eq_some_iff.1 hg).1
  have hg' : w.heap[g] = .cells cur e (0, 0) := by rw [Array.getElem?_eq_getElem hlt] at hg; simpa using hg
  simp [World.setCell, hlt, Array.getElem_modify, hg']

/-- What right keeps: the map, the datum, whether it is within, and what it answers. -/
structure RW (w : World) (vb : Nat) (D : Array Value) (wi res : Bool) (W : World) : Prop where
  old : Below w.heap.size w W
  b0 : W.heap[w.heap.size]? = some (.cells #[.map (some vb)] 74 (0, 0))
  b1 : W.heap[w.heap.size + 1]? = some (.cells D 28 (0, 0))
  b2 : W.heap[w.heap.size + 1 + 1]? = some (.cells #[.bool wi] 4 (0, 0))
  b3 : W.heap[w.heap.size + 1 + 1 + 1]? = some (.cells #[.bool res] 4 (0, 0))

section
variable {w W W' : World} {vb : Nat} {D : Array Value} {wi res : Bool}
theorem RW.size (h : RW w vb D wi res W) : w.heap.size + 1 + 1 + 1 < W.heap.size := (Array.getElem?_eq_some_iff.1 h.b3).1
theorem RW.start (w : World) (vb : Nat) (D : Array Value) (wi res : Bool) : RW w vb D wi res ((((w.alloc (.cells #[.map (some vb)] 74)).alloc (.cells D 28)).alloc (.cells #[.bool wi] 4)).alloc (.cells #[.bool res] 4)) := by
  have a0 := fun (u : World) (o : Obj) (k : Nat) (h : k < u.heap.size) => Below.heap_alloc u o k h
  have n0 := fun (u : World) (o : Obj) => World.alloc_heap_new u o
  refine ⟨((((Below.refl _ _).alloc (Nat.le_refl _) _).alloc (by simp only [World.size_alloc]; omega) _).alloc (by simp only [World.size_alloc]; omega) _).alloc (by simp only [World.size_alloc]; omega) _, ?_, ?_, ?_, ?_⟩
  · rw [a0 _ _ _ (by simp only [World.size_alloc]; omega), a0 _ _ _ (by simp only [World.size_alloc]; omega), a0 _ _ _ (by simp only [World.size_alloc]; omega)]
    exact n0 w _
  · rw [a0 _ _ _ (by simp only [World.size_alloc]; omega), a0 _ _ _ (by simp only [World.size_alloc]; omega)]
    have := n0 (w.alloc (.cells #[.map (some vb)] 74)) (.cells D 28)
    rwa [World.size_alloc] at this
  · rw [a0 _ _ _ (by simp)]
    have := n0 ((w.alloc (.cells #[.map (some vb)] 74)).alloc (.cells D 28)) (.cells #[.bool wi] 4)
    rwa [World.size_alloc, World.size_alloc] at this
  · have := n0 (((w.alloc (.cells #[.map (some vb)] 74)).alloc (.cells D 28)).alloc (.cells #[.bool wi] 4)) (.cells #[.bool res] 4)
    rwa [World.size_alloc, World.size_alloc, World.size_alloc] at this
theorem RW.kept (h : RW w vb D wi res W) (hb : Below (w.heap.size + 1 + 1 + 1 + 1) W W') : RW w vb D wi res W' :=
  ⟨h.old.trans (hb.mono (by omega)), (hb.block _ (by omega)).trans h.b0, (hb.block _ (by omega)).trans h.b1, (hb.block _ (by omega)).trans h.b2, (hb.block _ (by omega)).trans h.b3⟩
theorem RW.below (h : RW w vb D wi res W) (hb : Below W.heap.size W W') : RW w vb D wi res W' := h.kept (hb.mono h.size)
theorem RW.set (h : RW w vb D wi res W) (y : Bool) : RW w vb D wi y (W.setCell ⟨w.heap.size + 1 + 1 + 1, 0, none⟩ (.bool y)) := by
  have o : ∀ k, k ≠ w.heap.size + 1 + 1 + 1 → (W.setCell ⟨w.heap.size + 1 + 1 + 1, 0, none⟩ (.bool y)).heap[k]? = W.heap[k]? := fun k hk => Below.heap_setCell _ _ _ _ hk
  exact ⟨h.old.setCell (p := ⟨w.heap.size + 1 + 1 + 1, 0, none⟩) (by show _ ≤ w.heap.size + 1 + 1 + 1; omega) _, (o _ (by omega)).trans h.b0, (o _ (by omega)).trans h.b1, (o _ (by omega)).trans h.b2, heap_setCell h.b3 (by simp) _⟩
/-- The turn of a block that is no cells. -/
theorem RW.own (h : RW w vb D wi res W) {row : Option Nat} (hg : W.grownBy W' row) (hr : ∀ r, row = some r → w.heap.size ≤ r ∧ ∃ o : Obj, W.heap[r]? = some o ∧ o.isCells = false) : RW w vb D wi res W' := by
  have hk : ∀ (k : Nat) (c : Array Value) (e : TypeId) (f : Nat × Nat), W.heap[k]? = some (.cells c e f) → W'.heap[k]? = W.heap[k]? := fun k c e f h => hg.block k (Array.getElem?_eq_some_iff.1 h).1 fun q => by
    obtain ⟨_, o, h1, h2⟩ := hr k q.symm
    rw [h] at h1
    cases h1
    cases h2
  exact ⟨Below.grown h.old hg h.old.size fun k hk => (hr k hk).1, (hk _ _ _ _ h.b0).trans h.b0, (hk _ _ _ _ h.b1).trans h.b1, (hk _ _ _ _ h.b2).trans h.b2, (hk _ _ _ _ h.b3).trans h.b3⟩
theorem RW.cell0 (h : RW w vb D wi res W) : W.cell? ⟨w.heap.size, 0, none⟩ = some (.map (some vb)) := by simp [World.cell?, h.b0]
theorem RW.cell1 (h : RW w vb D wi res W) (j : Nat) : W.cell? ⟨w.heap.size + 1, j, none⟩ = D[j]? := by simp [World.cell?, h.b1]
theorem RW.cell2 (h : RW w vb D wi res W) : W.cell? ⟨w.heap.size + 1 + 1, 0, none⟩ = some (.bool wi) := by simp [World.cell?, h.b2]
theorem RW.cell3 (h : RW w vb D wi res W) : W.cell? ⟨w.heap.size + 1 + 1 + 1, 0, none⟩ = some (.bool res) := by simp [World.cell?, h.b3]
theorem RW.thaw3 (h : RW w vb D wi res W) : W.frozen? ⟨w.heap.size + 1 + 1 + 1, 0, none⟩ = false := by simp [World.frozen?, h.b3]
end

theorem ret62 (tmps : Array Value) (b : Nat) (x : Value) (w : World) (h6 : tmps.getD 6 undef = .pointer (some ⟨b, 0, none⟩)) (h : w.cell? ⟨b, 0, none⟩ = some x) :
    (results Tryz.f62 tmps).run Tryz.prog w = .ok x w := by
  rw [Array.getD_eq_getD_getElem?] at h6
  simp [results, Tryz.results62, h6, go_sem, h]

set_option maxRecDepth 100000 in
set_option maxHeartbeats 1600000 in
theorem right_sym (vb n : Nat) (v : ByteArray → Nat) (d : Dat) (a : Option Addr) (cap : Nat) (wi : Bool) (w : World) (hs : d.name.size ≤ maxLen) (hM : MapN vb n v w) (h3 : d.kind = 3) :
    Calls Tryz.prog 62 #[.map (some vb), dv d a cap, .bool wi] w fun e w' => e = .returned (.bool (rightD v d wi)) ∧ Below w.heap.size w w' := by
  have ID : Hid (∀ w, Calls Tryz.prog 61 #[dv d a cap] w fun e w' => e = .returned (.bool (isDots d)) ∧ Below w.heap.size w w') := fun w => isDots_any d a cap w
  have e1 : rightD v d wi = (!isDots d && (wi || !decide (v d.name = 2))) := by
    obtain ⟨k, n', nm, st, lbb, ks⟩ := d
    simp only at h3
    rw [rightD, if_pos h3]
    unfold isDots
    simp [h3]
  rw [e1]
  clear e1
  have HM := hidd hM
  clear hM
  obtain ⟨k, n', nm, st, lbb, ks⟩ := d
  unfold dv at ID ⊢
  simp only at h3 hs ID ⊢
  subst h3
  generalize isDots ⟨3, n', nm, st, lbb, ks⟩ = y at ID ⊢
  obtain ⟨c, HC⟩ : ∃ c, Hid (v nm = c) := ⟨_, rfl⟩
  rw [HC.out]
  go_enter Tryz.func62, Tryz.ntmps62
  go_wp2_with fail
  refine (ID.out _).mono ?_
  rintro e w1 ⟨rfl, hb1⟩
  have HR : Hid (RW w vb #[.int .i64 3, .int .i64 n', .string nm, .int .i64 st, .int .i64 lbb, .slice a ks.length cap] wi false w1) := (RW.start w vb _ wi false).below hb1
  have q0 := HR.out.cell0
  have q2 : w1.cell? ⟨w.heap.size + 1, 2, none⟩ = some (.string nm) := HR.out.cell1 2
  have q3 := HR.out.cell2
  have z3 := HR.out.thaw3
  have c3 := HR.out.cell3
  have hr := (HM.out.below HR.out.old).run (t := 74) Tryz.underlying74 nm hs
  clear hb1 ID
  rw [HC.out] at hr
  cases y with
  | true =>
    go_wp2_with fail
    exact bodyPost_ret (v := .bool false) (ret62 _ _ _ _ rfl (HR.out.set false).cell3) rfl ⟨rfl, (HR.out.set false).old⟩
  | false =>
    cases wi with
    | true =>
      go_wp2_with fail
      exact bodyPost_ret (v := .bool true) (ret62 _ _ _ _ rfl (HR.out.set true).cell3) rfl ⟨rfl, (HR.out.set true).old⟩
    | false =>
      by_cases h2 : c = 2
      · subst h2
        go_wp2_with fail
        exact bodyPost_ret (v := .bool false) (ret62 _ _ _ _ rfl (HR.out.set false).cell3) rfl ⟨rfl, (HR.out.set false).old⟩
      · have h2' : ((c : Int) != 2) = true := by simp; omega
        go_wp2_with fail
        exact bodyPost_ret (v := .bool true) (ret62 _ _ _ _ rfl (HR.out.set true).cell3) rfl ⟨by simp [h2], (HR.out.set true).old⟩

set_option maxRecDepth 100000 in
set_option maxHeartbeats 1600000 in
theorem right_else (vb : Nat) (v : ByteArray → Nat) (d : Dat) (a : Option Addr) (cap : Nat) (wi : Bool) (w : World) (h3 : d.kind ≠ 3) (h4 : d.kind ≠ 4) :
    Calls Tryz.prog 62 #[.map (some vb), dv d a cap, .bool wi] w fun e w' => e = .returned (.bool (rightD v d wi)) ∧ Below w.heap.size w w' := by
  obtain ⟨k, n', nm, st, lbb, ks⟩ := d
  simp only at h3 h4
  have e1 : rightD v ⟨k, n', nm, st, lbb, ks⟩ wi = true := by rw [rightD, if_neg h3, if_neg h4]
  rw [e1]
  have h3' : (k == 3) = false := by simpa using h3
  have h4' : (k == 4) = false := by simpa using h4
  have HR : Hid (RW w vb #[.int .i64 k, .int .i64 n', .string nm, .int .i64 st, .int .i64 lbb, .slice a ks.length cap] wi true _) := RW.start w vb _ wi true
  clear e1 h3 h4
  unfold dv
  simp only
  go_enter Tryz.func62, Tryz.ntmps62
  go_wp2_with fail
  exact bodyPost_ret (v := .bool true) (ret62 _ _ _ _ rfl HR.out.cell3) rfl ⟨rfl, HR.out.old⟩
end
end Go.Proofs.YtgeedaabdonjcaeGreatDoor
