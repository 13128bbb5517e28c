/- Chapter 11: numbers are written -/
import Derived.Test.YthikdpclifeonaaGreatDoorK25
import Derived.Test.YthikdpclifeonaaGreatDoorK26
import Derived.Deep.RegionWith
namespace Go.Proofs.YthikdpclifeonaaGreatDoor.V
set_option linter.unusedVariables false
set_option linter.unusedSimpArgs false
open Go.RowKit
open Go.Proofs.YthikdpclifeonaaGreatDoor

/-- The table of the powers of ten lies below B. -/
structure Tab (B : Nat) (w : World) : Prop where
  tab : Lib.TabIs Tryz.prog w Tryz.tabName .u64 Lib.pow10Tab
  low : ∃ g, Tryz.prog.globalNamed Tryz.tabName = some g ∧ g < B
theorem Tab.below {B : Nat} {w w' : World} (h : Tab B w) (hb : Below B w w') : Tab B w' := by
  obtain ⟨ht, g, hg, hlt⟩ := h
  exact ⟨var?_below hb hg hlt ht, g, hg, hlt⟩
theorem Tab.up {B B' : Nat} {w : World} (h : Tab B w) (hB : B ≤ B') : Tab B' w := by
  obtain ⟨ht, g, hg, hlt⟩ := h
  exact ⟨ht, g, hg, by omega⟩
theorem below_grown (w : World) (k : Nat) (os : Array Obj) : Below w.heap.size w (Sort.grow (w.drewN k) os) :=
  (below_drewN (Below.refl _ w) k).trans ⟨rfl, rfl, rfl, by simp [Sort.grow], fun i hi => by
    show (w.heap ++ os)[i]? = w.heap[i]?
    rw [Array.getElem?_append_left hi]⟩
theorem FormatInt_any (B : Nat) (n : Int) (h0 : -9223372036854775808 ≤ n) (h1 : n ≤ 9223372036854775807) (w : World) (ht : Tab B w) :
    Calls Tryz.prog 111 #[.int .i64 n, .int .i64 10] w fun e w' => e = .returned (.string ⟨(Lib.itoa n).toArray⟩) ∧ Below w.heap.size w w' := by
  refine (Tryz.strconv_FormatInt_10 n h0 h1 w ht.tab).mono ?_
  rintro e w' ⟨rfl, k, os, rfl⟩
  exact ⟨rfl, below_grown w k os⟩
/-- What is written to it next, nodes told apart. -/
theorem WV.node {B b : Nat} {p : Value} {k : Int} {l : List UInt8} {w : World} (h : WV B b p k l w) (k' : Int) : WV B b p k' l (w.setCell ⟨b, 2, none⟩ (.int .i64 k')) := by
  obtain ⟨hB, v, hb, hown, hne⟩ := h
  refine ⟨hB, v, (cell_setV hb _).trans rfl, ?_, hne⟩
  refine hown.kept (row := some b) ⟨rfl, rfl, rfl, by simp [World.setCell], fun k _ hk => Below.heap_setCell _ _ _ _ (fun e => hk (by simp [e]))⟩ (Or.inr hne)
theorem Wr.node {B b : Nat} {k : Int} {l : List UInt8} {w : World} (h : Wr B b k l w) (k' : Int) : Wr B b k' l (w.setCell ⟨b, 2, none⟩ (.int .i64 k')) := h.elim (fun x => Or.inl (x.node k')) (fun x => Or.inr (x.node k'))
theorem WV.below {B b : Nat} {p : Value} {k : Int} {l : List UInt8} {w w' : World} (h : WV B b p k l w) (hb : Below w.heap.size w w') : WV B b p k l w' := by
  obtain ⟨hB, v, hbk, hown, hne⟩ := h
  have hlt : b < w.heap.size := (Array.getElem?_eq_some_iff.1 hbk).1
  refine ⟨hB, v, (hb.block b hlt).trans hbk, ?_, hne⟩
  exact hown.kept (row := none) ⟨hb.os, hb.tape, hb.output, hb.size, fun i hi _ => hb.block i hi⟩ (by cases v.ownBlock <;> simp)
theorem Wr.below {B b : Nat} {k : Int} {l : List UInt8} {w w' : World} (h : Wr B b k l w) (hb : Below w.heap.size w w') : Wr B b k l w' := h.elim (fun x => Or.inl (x.below hb)) (fun x => Or.inr (x.below hb))
theorem Wr.drew {B b : Nat} {k : Int} {l : List UInt8} {w : World} (h : Wr B b k l w) : Wr B b k l w.drew := h.below (Below.drew (Below.refl _ _))
theorem Wr.parts {B b : Nat} {k : Int} {l : List UInt8} {w : World} (h : Wr B b k l w) : B ≤ b ∧ w.cell? ⟨b, 2, none⟩ = some (.int .i64 k) ∧ w.frozen? ⟨b, 2, none⟩ = false := by
  obtain ⟨p, _, hB, v, hb, _⟩ := h.at
  exact ⟨hB, (cellO hb).trans rfl, looseO hb⟩
set_option maxRecDepth 100000 in
set_option maxHeartbeats 3200000 in
theorem value_num (T B b : Nat) (k n : Int) (l : List UInt8) (w : World) (h : Wr B b k l w) (hk0 : 0 ≤ k) (hk : k ≤ 299) (hl : l.length ≤ 10000) (hBw : B ≤ w.heap.size) (ht : Tab T w) (hT : T ≤ B) (h1 : rangeN n = true) (hlen : (Lib.itoa n).length ≤ 100) :
    Calls Tryz.prog 140 #[.pointer (some ⟨b, 0, none⟩), .iface 162 (.int .i64 n)] w fun e w' => e = .returned (.tuple #[]) ∧ Wr B b (k + 1) (l ++ Lib.itoa n) w' ∧ Below B w w' := by
  obtain ⟨hB, c2, z2⟩ := h.parts
  have hta := assertN (.int .i64 n)
  have hkk : decide (k + 1 ≤ 300) = true := by simp; omega
  have HW := hidd (h.node (k + 1))
  have HB : Hid (Below B w (w.setCell ⟨b, 2, none⟩ (.int .i64 (k + 1)))) := (Below.refl B w).setCell (p := ⟨b, 2, none⟩) hB _
  have HT := hidd (ht.below (HB.out.mono hT))
  have HSZ : Hid (B ≤ (w.setCell ⟨b, 2, none⟩ (.int .i64 (k + 1))).heap.size) := by
    have e : (w.setCell ⟨b, 2, none⟩ (.int .i64 (k + 1))).heap.size = w.heap.size := by simp
    exact e ▸ hBw
  have hr := h1
  unfold rangeN at hr
  simp only [Bool.and_eq_true, decide_eq_true_eq] at hr
  have FI : Hid (∀ W, Tab T W → Calls Tryz.prog 111 #[.int .i64 n, .int .i64 10] W fun e w' => e = .returned (.string ⟨(Lib.itoa n).toArray⟩) ∧ Below W.heap.size W w') := fun W hW => FormatInt_any T n (by omega) (by omega) W hW
  obtain ⟨s, hs⟩ : ∃ s : List UInt8, s = Lib.itoa n := ⟨_, rfl⟩
  rw [← hs] at FI hlen ⊢
  have WS : Hid (∀ W, Wr B b (k + 1) l W → B ≤ W.heap.size → Calls Tryz.prog 159 #[.pointer (some ⟨b, 0, none⟩), .string ⟨s.toArray⟩] W fun e w' => e = .returned (.tuple #[.int .i64 (ByteArray.size ⟨s.toArray⟩), .nilIface]) ∧ Wr B b (k + 1) (l ++ s) w' ∧ Below B W w') := fun W hW hB => by
    have := WriteString_any B b (k + 1) l ⟨s.toArray⟩ W hW (by show l.length + s.toArray.size ≤ _; simp; omega) hB
    simpa using this
  clear hs hr h1 ht h
  obtain ⟨ws, hws⟩ : ∃ ws : Int, ws = (ByteArray.size ⟨s.toArray⟩ : Int) := ⟨_, rfl⟩
  rw [← hws] at WS
  obtain ⟨W1, hW1⟩ : ∃ W1, W1 = w.setCell ⟨b, 2, none⟩ (.int .i64 (k + 1)) := ⟨_, rfl⟩
  have d2 : W1.cell? ⟨b, 2, none⟩ = some (.int .i64 (k + 1)) := by rw [hW1]; exact HW.out.parts.2.1
  rw [← hW1] at HW HB HT HSZ
  have hw1 := hW1.symm
  clear hW1
  go_enter Tryz.func140, Tryz.ntmps140
  go_wp2_with fail
  refine (Must_yes _ _).mono ?_
  rintro e w1 ⟨rfl, rfl⟩
  go_wp2_with fail
  go_region_with (first | (go_at_call 111; refine (FI.out _ (HT.out.below (Below.drew (Below.refl _ _)))).mono ?_; rintro e w2 ⟨rfl, hb2⟩) | (go_at_call 159; refine (WS.out _ (HW.out.drew.below hb2) (Nat.le_trans HSZ.out hb2.size)).mono ?_; rintro e w3 ⟨rfl, hw3, hb3⟩))
  all_goals
    go_wp2_with fail
    go_end0
    exact ⟨rfl, hw3, (HB.out.trans ((Below.drew (Below.refl B w1)).trans (hb2.mono HSZ.out))).trans hb3⟩

end Go.Proofs.YthikdpclifeonaaGreatDoor.V
