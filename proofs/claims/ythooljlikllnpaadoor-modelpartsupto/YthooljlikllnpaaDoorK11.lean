/- Chapter 7: package value: a number is written, and a truth value. Chapter 7: package value: a truth value is written; what put puts out. Chapter 7: package value: put, where nothing was put out so far. Chapter 7: package value: out, where nothing was put out so far. Chapter 7: package model: out of a sum is evaluated. -/
import Derived.Deep.RegionWith
import Derived.Test.YthooljlikllnpaaDoorK09
import Derived.Test.YthooljlikllnpaaDoorK10
namespace Go.Proofs.YthooljlikllnpaaDoor
section
set_option linter.unusedVariables false
set_option linter.unusedSimpArgs false
open Go.RowKit

/-- The table of the powers of ten lies below B. -/
structure Tab (B : Nat) (w : World) : Prop where
  tab : Lib.TabIs Tryd.prog w Tryd.tabName .u64 Lib.pow10Tab
  low : ∃ g, Tryd.prog.globalNamed Tryd.tabName = some g ∧ g < B
theorem Tab.below {B : Nat} {w w' : World} (h : Tab B w) (hb : Below B w w') : Tab B w' := by
  obtain ⟨ht, g, hg, hlt⟩ := h
  exact ⟨var?_below hb hg hlt ht, g, hg, hlt⟩
theorem Tab.up {B B' : Nat} {w : World} (h : Tab B w) (hB : B ≤ B') : Tab B' w := by
  obtain ⟨ht, g, hg, hlt⟩ := h
  exact ⟨ht, g, hg, by omega⟩
theorem below_grown (w : World) (k : Nat) (os : Array Obj) : Below w.heap.size w (Sort.grow (w.drewN k) os) :=
  (below_drewN (Below.refl _ w) k).trans ⟨rfl, rfl, rfl, by simp [Sort.grow], fun i hi => by
    show (w.heap ++ os)[i]? = w.heap[i]?
    rw [Array.getElem?_append_left hi]⟩
theorem FormatInt_any (B : Nat) (n : Int) (h0 : -9223372036854775808 ≤ n) (h1 : n ≤ 9223372036854775807) (w : World) (ht : Tab B w) :
    Calls Tryd.prog 25 #[.int .i64 n, .int .i64 10] w fun e w' => e = .returned (.string ⟨(Lib.itoa n).toArray⟩) ∧ Below w.heap.size w w' := by
  refine (Tryd.strconv_FormatInt_10 n h0 h1 w ht.tab).mono ?_
  rintro e w' ⟨rfl, k, os, rfl⟩
  exact ⟨rfl, below_grown w k os⟩
/-- What is written to it next, nodes told apart. -/
theorem WV.node {B b : Nat} {p : Value} {k : Int} {l : List UInt8} {w : World} (h : WV B b p k l w) (k' : Int) : WV B b p k' l (w.setCell ⟨b, 2, none⟩ (.int .i64 k')) := by
  obtain ⟨hB, v, hb, hown, hne⟩ := h
  refine ⟨hB, v, (cell_setV hb _).trans rfl, ?_, hne⟩
  refine hown.kept (row := some b) ⟨rfl, rfl, rfl, by simp [World.setCell], fun k _ hk => Below.heap_setCell _ _ _ _ (fun e => hk (by simp [e]))⟩ (Or.inr hne)
theorem Wr.node {B b : Nat} {k : Int} {l : List UInt8} {w : World} (h : Wr B b k l w) (k' : Int) : Wr B b k' l (w.setCell ⟨b, 2, none⟩ (.int .i64 k')) := h.elim (fun x => Or.inl (x.node k')) (fun x => Or.inr (x.node k'))
theorem WV.below {B b : Nat} {p : Value} {k : Int} {l : List UInt8} {w w' : World} (h : WV B b p k l w) (hb : Below w.heap.size w w') : WV B b p k l w' := by
  obtain ⟨hB, v, hbk, hown, hne⟩ := h
  have hlt : b < w.heap.size := (Array.getElem?_eq_some_iff.1 hbk).1
  refine ⟨hB, v, (hb.block b hlt).trans hbk, ?_, hne⟩
  exact hown.kept (row := none) ⟨hb.os, hb.tape, hb.output, hb.size, fun i hi _ => hb.block i hi⟩ (by cases v.ownBlock <;> simp)
theorem Wr.below {B b : Nat} {k : Int} {l : List UInt8} {w w' : World} (h : Wr B b k l w) (hb : Below w.heap.size w w') : Wr B b k l w' := h.elim (fun x => Or.inl (x.below hb)) (fun x => Or.inr (x.below hb))
theorem Wr.drew {B b : Nat} {k : Int} {l : List UInt8} {w : World} (h : Wr B b k l w) : Wr B b k l w.drew := h.below (Below.drew (Below.refl _ _))
theorem Wr.parts {B b : Nat} {k : Int} {l : List UInt8} {w : World} (h : Wr B b k l w) : B ≤ b ∧ w.cell? ⟨b, 2, none⟩ = some (.int .i64 k) ∧ w.frozen? ⟨b, 2, none⟩ = false := by
  obtain ⟨p, _, hB, v, hb, _⟩ := h.at
  exact ⟨hB, (cellO hb).trans rfl, looseO hb⟩
set_option maxRecDepth 100000 in
set_option maxHeartbeats 3200000 in
theorem value_num (T B b : Nat) (k n : Int) (l : List UInt8) (w : World) (h : Wr B b k l w) (hk0 : 0 ≤ k) (hk : k ≤ 299) (hl : l.length ≤ 10000) (hBw : B ≤ w.heap.size) (ht : Tab T w) (hT : T ≤ B) (h1 : rangeN n = true) (hlen : (Lib.itoa n).length ≤ 100) :
    Calls Tryd.prog 81 #[.pointer (some ⟨b, 0, none⟩), .iface 104 (.int .i64 n)] w fun e w' => e = .returned (.tuple #[]) ∧ Wr B b (k + 1) (l ++ Lib.itoa n) w' ∧ Below B w w' := by
  obtain ⟨hB, c2, z2⟩ := h.parts
  have hta := assertN (.int .i64 n)
  have hkk : decide (k + 1 ≤ 300) = true := by simp; omega
  have HW := hidd (h.node (k + 1))
  have HB : Hid (Below B w (w.setCell ⟨b, 2, none⟩ (.int .i64 (k + 1)))) := (Below.refl B w).setCell (p := ⟨b, 2, none⟩) hB _
  have HT := hidd (ht.below (HB.out.mono hT))
  have HSZ : Hid (B ≤ (w.setCell ⟨b, 2, none⟩ (.int .i64 (k + 1))).heap.size) := by
    have e : (w.setCell ⟨b, 2, none⟩ (.int .i64 (k + 1))).heap.size = w.heap.size := by simp
    exact e ▸ hBw
  have hr := h1
  unfold rangeN at hr
  simp only [Bool.and_eq_true, decide_eq_true_eq] at hr
  have FI : Hid (∀ W, Tab T W → Calls Tryd.prog 25 #[.int .i64 n, .int .i64 10] W fun e w' => e = .returned (.string ⟨(Lib.itoa n).toArray⟩) ∧ Below W.heap.size W w') := fun W hW => FormatInt_any T n (by omega) (by omega) W hW
  obtain ⟨s, hs⟩ : ∃ s : List UInt8, s = Lib.itoa n := ⟨_, rfl⟩
  rw [← hs] at FI hlen ⊢
  have WS : Hid (∀ W, Wr B b (k + 1) l W → B ≤ W.heap.size → Calls Tryd.prog 88 #[.pointer (some ⟨b, 0, none⟩), .string ⟨s.toArray⟩] W fun e w' => e = .returned (.tuple #[.int .i64 (ByteArray.size ⟨s.toArray⟩), .nilIface]) ∧ Wr B b (k + 1) (l ++ s) w' ∧ Below B W w') := fun W hW hB => by
    have := WriteString_any B b (k + 1) l ⟨s.toArray⟩ W hW (by show l.length + s.toArray.size ≤ _; simp; omega) hB
    simpa using this
  clear hs hr h1 ht h
  obtain ⟨ws, hws⟩ : ∃ ws : Int, ws = (ByteArray.size ⟨s.toArray⟩ : Int) := ⟨_, rfl⟩
  rw [← hws] at WS
  obtain ⟨W1, hW1⟩ : ∃ W1, W1 = w.setCell ⟨b, 2, none⟩ (.int .i64 (k + 1)) := ⟨_, rfl⟩
  have d2 : W1.cell? ⟨b, 2, none⟩ = some (.int .i64 (k + 1)) := by rw [hW1]; exact HW.out.parts.2.1
  rw [← hW1] at HW HB HT HSZ
  have hw1 := hW1.symm
  clear hW1
  go_enter Tryd.func81, Tryd.ntmps81
  go_wp2_with fail
  refine (Must_yes _ _).mono ?_
  rintro e w1 ⟨rfl, rfl⟩
  go_wp2_with fail
  go_region_with (first | (go_at_call 25; refine (FI.out _ (HT.out.below (Below.drew (Below.refl _ _)))).mono ?_; rintro e w2 ⟨rfl, hb2⟩) | (go_at_call 88; refine (WS.out _ (HW.out.drew.below hb2) (Nat.le_trans HSZ.out hb2.size)).mono ?_; rintro e w3 ⟨rfl, hw3, hb3⟩))
  all_goals
    go_wp2_with fail
    go_end0
    exact ⟨rfl, hw3, (HB.out.trans ((Below.drew (Below.refl B w1)).trans (hb2.mono HSZ.out))).trans hb3⟩
end
section
set_option linter.unusedVariables false
set_option linter.unusedSimpArgs false
open Go.RowKit

def truthB (q : Bool) : List UInt8 := [35, if q then 116 else 102]
theorem assertNo (v : Value) (w : World) : (Instr.typeAssert (.iface 105 v) 77 104 true).run Tryd.prog w = .ok (.tuple #[.int .i64 0, .bool false]) w := by
  obtain ⟨i, hi, hz⟩ := Option.map_eq_some_iff.1 (show (Tryd.prog.info? 104).map (·.zero) = some (some (.int .i64 0)) by kernel_rfl)
  simp [Instr.typeAssert, run_underlying Tryd.underlying104, hi, hz]
theorem assertT (v : Value) (w : World) : (Instr.typeAssert (.iface 105 v) 77 105 true).run Tryd.prog w = .ok (.tuple #[v, .bool true]) w := by
  simp [Instr.typeAssert, run_underlying Tryd.underlying105]
set_option maxRecDepth 100000 in
set_option maxHeartbeats 1600000 in
theorem truth_any (B b : Nat) (k : Int) (q : Bool) (l : List UInt8) (w : World) (h : Wr B b k l w) (hl : l.length ≤ 10000) (hBw : B ≤ w.heap.size) :
    Calls Tryd.prog 89 #[.pointer (some ⟨b, 0, none⟩), .bool q] w fun e w' => e = .returned (.tuple #[]) ∧ Wr B b k (l ++ truthB q) w' ∧ Below B w w' := by
  have WS : Hid (Calls Tryd.prog 88 #[.pointer (some ⟨b, 0, none⟩), .string ⟨(truthB q).toArray⟩] w fun e w' => e = .returned (.tuple #[.int .i64 2, .nilIface]) ∧ Wr B b k (l ++ truthB q) w' ∧ Below B w w') := by
    have := WriteString_any B b k l ⟨(truthB q).toArray⟩ w h (by show l.length + (truthB q).toArray.size ≤ _; simp [truthB]; omega) hBw
    have e : ByteArray.size ⟨(truthB q).toArray⟩ = 2 := by cases q <;> rfl
    rw [e] at this
    exact this
  clear h
  cases q
  · go_enter Tryd.func89, Tryd.ntmps89
    go_wp2_with fail
    refine WS.out.mono ?_
    rintro e w3 ⟨rfl, hw3, hb3⟩
    go_wp2_with fail
    go_end0
    exact ⟨rfl, hw3, hb3⟩
  · go_enter Tryd.func89, Tryd.ntmps89
    go_wp2_with fail
    refine WS.out.mono ?_
    rintro e w3 ⟨rfl, hw3, hb3⟩
    go_wp2_with fail
    go_end0
    exact ⟨rfl, hw3, hb3⟩
set_option maxRecDepth 100000 in
set_option maxHeartbeats 3200000 in
theorem value_truth (B b : Nat) (k : Int) (q : Bool) (l : List UInt8) (w : World) (h : Wr B b k l w) (hk0 : 0 ≤ k) (hk : k ≤ 299) (hl : l.length ≤ 10000) (hBw : B ≤ w.heap.size) :
    Calls Tryd.prog 81 #[.pointer (some ⟨b, 0, none⟩), .iface 105 (.bool q)] w fun e w' => e = .returned (.tuple #[]) ∧ Wr B b (k + 1) (l ++ truthB q) w' ∧ Below B w w' := by
  obtain ⟨hB, c2, z2⟩ := h.parts
  have hta := assertNo (.bool q)
  have htb := assertT (.bool q)
  have hkk : decide (k + 1 ≤ 300) = true := by simp; omega
  have HW := hidd (h.node (k + 1))
  have HB : Hid (Below B w (w.setCell ⟨b, 2, none⟩ (.int .i64 (k + 1)))) := (Below.refl B w).setCell (p := ⟨b, 2, none⟩) hB _
  have HSZ : Hid (B ≤ (w.setCell ⟨b, 2, none⟩ (.int .i64 (k + 1))).heap.size) := by
    have e : (w.setCell ⟨b, 2, none⟩ (.int .i64 (k + 1))).heap.size = w.heap.size := by simp
    exact e ▸ hBw
  have TR := hidd (truth_any B b (k + 1) q l _ HW.out hl HSZ.out)
  clear h
  obtain ⟨W1, hW1⟩ : ∃ W1, W1 = w.setCell ⟨b, 2, none⟩ (.int .i64 (k + 1)) := ⟨_, rfl⟩
  have d2 : W1.cell? ⟨b, 2, none⟩ = some (.int .i64 (k + 1)) := by rw [hW1]; exact HW.out.parts.2.1
  rw [← hW1] at HW HB HSZ TR
  have hw1 := hW1.symm
  clear hW1
  go_enter Tryd.func81, Tryd.ntmps81
  go_wp2_with fail
  refine (Must_yes _ _).mono ?_
  rintro e w1 ⟨rfl, rfl⟩
  go_wp2_with fail
  refine TR.out.mono ?_
  rintro e w3 ⟨rfl, hw3, hb3⟩
  go_wp2_with fail
  go_end0
  exact ⟨rfl, hw3, HB.out.trans hb3⟩
end
section
set_option linter.unusedVariables false
set_option linter.unusedSimpArgs false
open Go.RowKit

theorem infoStr : (Tryd.prog.info? 9).map (fun i => (i.zero, i.size, i.bytes)) = some (some (.string ⟨#[]⟩), 1, 16) := by kernel_rfl
/-- The first text of a row. -/
theorem append_one (W : World) (g : Nat) (s : ByteArray) (h : W.cell? ⟨g, 0, none⟩ = some (.string s)) :
    ∃ cap cs, (Builtin.append_ #[23, 23] 23 #[.slice none 0 0, .slice (some ⟨g, 0, none⟩) 1 1]).run Tryd.prog W = .ok (.slice (some ⟨W.heap.size, 0, none⟩) 1 cap) (W.drew.alloc (.cells (#[.string s] ++ cs) 9)) := by
  obtain ⟨i0, hi, hz0, hz1, hz2⟩ := info_parts infoStr
  refine ⟨_, _, run_append_nil (P := Tryd.prog) (w := W) 23 23 9 i0 _ Tryd.underlying23 hi hz0 ⟨g, 0, none⟩ 1 1 [.string s] (by rw [hz1]; rfl) ?_ (by omega) (by omega) (by rw [hz2]; omega)⟩
  intro j v hj
  match j, hj with
  | 0, hj => simp at hj; subst hj; simpa [Addr.add] using h
theorem fresh_Wr (w : World) : Wr w.heap.size w.heap.size 0 [] (w.alloc (.cells #[.pointer none, .slice none 0 0, .int .i64 0] 175)) :=
  Or.inl ⟨Nat.le_refl _, .slice none 0 0, World.alloc_heap_new w _, World.ownsRowF_nil _ _ _ _, by simp [Value.ownBlock]⟩
/-- The end of put. -/
theorem put_end {rb : Nat} {left calls : Int} {gm : Value} {s : ByteArray} {w w3 : World} (cap : Nat) (A : Obj) (zs : Array Value) (hr : RN rb (.slice none 0 0) left calls gm w) (hrb : rb < w.heap.size) (hb : Below w.heap.size w w3) :
    Keep rb w (((w3.setCell ⟨rb, 0, none⟩ (.slice (some ⟨w3.heap.size + 1, 0, none⟩) 1 cap)).alloc A).alloc (.cells (#[.string s] ++ zs) 9)).drew ∧ ∃ G c, RN rb (.slice (some ⟨G, 0, none⟩) 1 c) left calls gm (((w3.setCell ⟨rb, 0, none⟩ (.slice (some ⟨w3.heap.size + 1, 0, none⟩) 1 cap)).alloc A).alloc (.cells (#[.string s] ++ zs) 9)).drew ∧
      (((w3.setCell ⟨rb, 0, none⟩ (.slice (some ⟨w3.heap.size + 1, 0, none⟩) 1 cap)).alloc A).alloc (.cells (#[.string s] ++ zs) 9)).drew.cell? ⟨G, 0, none⟩ = some (.string s) := by
  obtain ⟨W, hW⟩ : ∃ W, W = w3.setCell ⟨rb, 0, none⟩ (.slice (some ⟨w3.heap.size + 1, 0, none⟩) 1 cap) := ⟨_, rfl⟩
  have hk : Keep rb w W := by rw [hW]; exact ((Keep.refl rb w).below hb).setCell _ rfl _
  have hR : RN rb (.slice (some ⟨w3.heap.size + 1, 0, none⟩) 1 cap) left calls gm W := by rw [hW]; exact cell_setV ((hb.block rb hrb).trans hr) _
  have hs : W.heap.size = w3.heap.size := by rw [hW]; simp
  rw [← hW]
  clear hW
  have hlt : rb < W.heap.size := Nat.lt_of_lt_of_le hrb hk.size
  have e1 : (W.alloc A).heap.size = w3.heap.size + 1 := by show (W.heap.push A).size = _; rw [Array.size_push, hs]
  refine ⟨((hk.alloc _).alloc _).drew, w3.heap.size + 1, cap, ?_, ?_⟩
  · exact RN.stay ((Below.heap_alloc _ _ rb (Nat.lt_trans hlt (alloc_lt _ _))).trans (Below.heap_alloc _ _ rb hlt)) hR
  · rw [← e1]
    refine (cellO (World.alloc_heap_new (W.alloc A) _)).trans ?_
    rw [Array.getElem?_append_left (by simp)]
    rfl
set_option maxRecDepth 100000 in
set_option maxHeartbeats 3200000 in
theorem put_nil (rb T : Nat) (t : TypeId) (x : Value) (s : List UInt8) (left calls : Int) (gm : Value) (w : World) (hr : RN rb (.slice none 0 0) left calls gm w) (ht : Tab T w) (hT : T ≤ w.heap.size) (hrb : rb < w.heap.size) (hs : s ≠ [])
    (VAL : ∀ W, Wr w.heap.size w.heap.size 0 [] W → w.heap.size ≤ W.heap.size → Tab T W → Calls Tryd.prog 81 #[.pointer (some ⟨w.heap.size, 0, none⟩), .iface t x] W fun e w' => e = .returned (.tuple #[]) ∧ Wr w.heap.size w.heap.size 1 s w' ∧ Below w.heap.size W w') :
    Calls Tryd.prog 72 #[.pointer (some ⟨rb, 0, none⟩), .iface t x] w fun e w' => e = .returned (.tuple #[]) ∧ Keep rb w w' ∧ ∃ G cap, RN rb (.slice (some ⟨G, 0, none⟩) 1 cap) left calls gm w' ∧ w'.cell? ⟨G, 0, none⟩ = some (.string ⟨s.toArray⟩) := by
  have c0 : w.cell? ⟨rb, 0, none⟩ = some (.slice none 0 0) := (cellO hr).trans rfl
  have z0 := looseO (q := 0) hr
  have HBA : Hid (Below w.heap.size w (w.alloc (.cells #[.pointer none, .slice none 0 0, .int .i64 0] 175))) := (Below.refl w.heap.size w).alloc (Nat.le_refl _) _
  have HV := hidd (VAL _ (fresh_Wr w) HBA.out.size (ht.below (HBA.out.mono hT)))
  have ST : Hid (∀ W, Wr w.heap.size w.heap.size 1 s W → Calls Tryd.prog 82 #[.pointer (some ⟨w.heap.size, 0, none⟩)] W fun e w' => e = .returned (.string ⟨s.toArray⟩) ∧ Below w.heap.size W w') := fun W hW => String_some _ _ 1 s W hW hs
  have HR := hidd hr
  have HAP := hidd append_one
  clear VAL hr ht
  go_enter Tryd.func72, Tryd.ntmps72
  go_wp2_with fail
  refine (Must_yes _ _).mono ?_
  rintro e w1 ⟨rfl, rfl⟩
  go_wp2_with fail
  refine HV.out.mono ?_
  rintro e w2 ⟨rfl, hw2, hb2⟩
  have HB2 := hidd (HBA.out.trans hb2)
  have HW2 := hidd hw2
  have d0 : w2.cell? ⟨rb, 0, none⟩ = some (.slice none 0 0) := (HB2.out.cell (p := ⟨rb, 0, none⟩) hrb).trans c0
  clear hw2 hb2 HV HBA
  go_wp2_with fail
  go_region_with (go_at_call 82; refine (ST.out _ HW2.out.drew).mono ?_; rintro e w3 ⟨rfl, hb3⟩; have hb3' := HB2.out.trans ((Below.drew (Below.refl _ w2)).trans hb3); have hlt3 : rb < w3.heap.size := Nat.lt_of_lt_of_le hrb hb3'.size; have d3 : w3.cell? ⟨rb, 0, none⟩ = some (.slice none 0 0) := (hb3'.cell (p := ⟨rb, 0, none⟩) hrb).trans c0; have z3 : w3.frozen? ⟨rb, 0, none⟩ = false := (hb3'.frozen (p := ⟨rb, 0, none⟩) hrb).trans z0; obtain ⟨cap, cs, hap⟩ := HAP.out (w3.alloc (.cells #[.string ⟨s.toArray⟩] 9)) w3.heap.size ⟨s.toArray⟩ ((cellO (World.alloc_heap_new w3 _)).trans rfl))
  all_goals
    go_wp2_with fail
    go_end0
    exact ⟨rfl, put_end _ _ _ HR.out hrb hb3'⟩
end
section
set_option linter.unusedVariables false
set_option linter.unusedSimpArgs false
open Go.RowKit

def outB : ByteArray := ⟨#[111, 117, 116]⟩
/-- The runner with one text put out. -/
def RN1 (rb : Nat) (s : List UInt8) (left calls : Int) (gm : Value) (w : World) : Prop := ∃ G cap, RN rb (.slice (some ⟨G, 0, none⟩) 1 cap) left calls gm w ∧ w.cell? ⟨G, 0, none⟩ = some (.string ⟨s.toArray⟩)
set_option maxRecDepth 100000 in
set_option maxHeartbeats 3200000 in
theorem prim_out (rb ab ao : Nat) (t : TypeId) (x : Value) (s : List UInt8) (left calls : Int) (gm : Value) (w : World) (k0 : w.cell? ⟨ab, ao, none⟩ = some (.iface t x)) (hab : ab < w.heap.size) (hne : ab ≠ rb)
    (PUT : Calls Tryd.prog 72 #[.pointer (some ⟨rb, 0, none⟩), .iface t x] w fun e w' => e = .returned (.tuple #[]) ∧ Keep rb w w' ∧ RN1 rb s left calls gm w') :
    Calls Tryd.prog 59 #[.pointer (some ⟨rb, 0, none⟩), .string outB, .slice (some ⟨ab, ao, none⟩) 1 1] w fun e w' => e = .returned (.iface t x) ∧ Keep rb w w' ∧ RN1 rb s left calls gm w' := by
  have HP := hidd PUT
  have AR : Hid (∀ w, Calls Tryd.prog 64 #[.string outB] w fun e w' => e = .returned (.int .i64 1) ∧ w' = w) := fun w => by
    have e : argsB outB = 1 := by decide +kernel
    have := argsOf_any outB w
    rw [e] at this
    exact this
  obtain ⟨o, ho⟩ : ∃ o, o = outB := ⟨_, rfl⟩
  have c1 : (o.toList == [111, 117, 116]) = true := by rw [ho]; decide +kernel
  rw [← ho] at AR ⊢
  clear ho PUT
  go_enter Tryd.func59, Tryd.ntmps59
  go_wp2_with fail
  refine (AR.out _).mono ?_
  rintro e w1 ⟨rfl, rfl⟩
  go_wp2_with fail
  refine (Must_yes _ _).mono ?_
  rintro e w1 ⟨rfl, rfl⟩
  go_wp2_with fail
  refine HP.out.mono ?_
  rintro e w2 ⟨rfl, hk2, hr2⟩
  have d0 : w2.cell? ⟨ab, ao, none⟩ = some (.iface t x) := (hk2.cell (p := ⟨ab, ao, none⟩) hab hne).trans k0
  go_wp2_with fail
  go_ret
  exact ⟨rfl, hk2, hr2⟩
end
section
set_option linter.unusedVariables false
set_option linter.unusedSimpArgs false
open Go.RowKit

def opS (f : Fin 4) (a b : Int) : List UInt8 := match f with | 0 => Lib.itoa (a + b) | 1 => Lib.itoa (a - b) | 2 => Lib.itoa (a * b) | 3 => truthB (decide (a < b))
theorem value_op (f : Fin 4) (a b : Int) (T B c : Nat) (w : World) (h : Wr B c 0 [] w) (hBw : B ≤ w.heap.size) (ht : Tab T w) (hT : T ≤ B) (hq : opOk f a b = true) (hlen : ∀ n, rangeN n = true → (Lib.itoa n).length ≤ 100) :
    Calls Tryd.prog 81 #[.pointer (some ⟨c, 0, none⟩), .iface (opT f) (opX f a b)] w fun e w' => e = .returned (.tuple #[]) ∧ Wr B c 1 (opS f a b) w' ∧ Below B w w' := by
  match f, hq with
  | 0, hq => exact value_num T B c 0 _ [] w h (by omega) (by omega) (by simp) hBw ht hT hq (hlen _ hq)
  | 1, hq => exact value_num T B c 0 _ [] w h (by omega) (by omega) (by simp) hBw ht hT hq (hlen _ hq)
  | 2, hq => exact value_num T B c 0 _ [] w h (by omega) (by omega) (by simp) hBw ht hT hq (hlen _ hq)
  | 3, _ => exact value_truth B c 0 _ [] w h (by omega) (by omega) (by simp) hBw
theorem eval_out (f : Fin 4) (a b : Int) (rb cb co lb lo cap mb mo cap2 T : Nat) (gm fr : Value) (left calls : Int) (w : World)
    (hr : RN rb (.slice none 0 0) left calls gm w) (hl : 6 ≤ left) (hl9 : left ≤ 1000000) (hc : rb ≠ cb) (hlb : rb ≠ lb) (hmb : rb ≠ mb) (hlw : lb < w.heap.size) (hmw : mb < w.heap.size) (hrb : rb < w.heap.size) (hcap : 2 ≤ cap) (hcap2 : 3 ≤ cap2)
    (ht : Tab T w) (hT : T ≤ rb) (hlen : ∀ n, rangeN n = true → (Lib.itoa n).length ≤ 100) (hne : ∀ n, Lib.itoa n ≠ [])
    (h1 : rangeN a = true) (h2 : rangeN b = true)
    (k0 : w.cell? ⟨cb, co, none⟩ = some (.int .i64 9)) (k11 : w.cell? ⟨cb, co + 11, none⟩ = some (.slice (some ⟨lb, lo, none⟩) 2 cap))
    (o0 : w.cell? ⟨lb, lo, none⟩ = some (.int .i64 6)) (o4 : w.cell? ⟨lb, lo + 4, none⟩ = some (.string outB))
    (n0 : w.cell? ⟨lb, lo + 12, none⟩ = some (.int .i64 9)) (n11 : w.cell? ⟨lb, lo + 12 + 11, none⟩ = some (.slice (some ⟨mb, mo, none⟩) 3 cap2))
    (p0 : w.cell? ⟨mb, mo, none⟩ = some (.int .i64 6)) (p4 : w.cell? ⟨mb, mo + 4, none⟩ = some (.string (opB f)))
    (q0 : w.cell? ⟨mb, mo + 12, none⟩ = some (.int .i64 1)) (q2 : w.cell? ⟨mb, mo + 12 + 2, none⟩ = some (.int .i64 a))
    (s0 : w.cell? ⟨mb, mo + 24, none⟩ = some (.int .i64 1)) (s2 : w.cell? ⟨mb, mo + 24 + 2, none⟩ = some (.int .i64 b)) :
    Calls Tryd.prog 28 #[.pointer (some ⟨rb, 0, none⟩), .pointer (some ⟨cb, co, none⟩), fr] w (Ev rb (opOk f a b) (.iface (opT f) (opX f a b)) (endP 6) (RN1 rb (opS f a b) (left - 6) calls gm) (RN rb (.slice none 0 0) (left - 6) calls gm) w) := by
  have cell : ∀ W, Keep rb w W → ∀ q, W.cell? ⟨lb, q, none⟩ = w.cell? ⟨lb, q, none⟩ := fun W hk q => hk.cell (p := ⟨lb, q, none⟩) hlw (fun e => hlb e.symm)
  have cellM : ∀ W, Keep rb w W → ∀ q, W.cell? ⟨mb, q, none⟩ = w.cell? ⟨mb, q, none⟩ := fun W hk q => hk.cell (p := ⟨mb, q, none⟩) hmw (fun e => hmb e.symm)
  cases hq : opOk f a b
  · refine eval_call rb cb co lb lo 2 cap (.slice none 0 0) gm fr left calls (fun j => decide (j = 0)) (fun j => if j = 0 then 114 else opT f) (fun j => if j = 0 then .string outB else opX f a b)
      true false (opT f) (opX f a b) (endP 6) (fun j W => RN rb (.slice none 0 0) (left - 1 - (if j = 0 then 0 else if j = 1 then 1 else 5)) calls gm W ∧ j ≤ 1) _ _ w hr (by omega) hl9 hc (by omega) hcap hrb k0 k11 (fun j W W' e h => ⟨RN.stay e h.1, h.2⟩) (fun W h => ⟨by simpa using h, by omega⟩) ?_ ?_ (fun h => absurd (h 1 (by omega)) (by decide)) (fun _ => rfl)
    · intro j W hj hk hR
      match j, hj with
      | 0, _ =>
        have := Ev.prim (fr := fr) (E := endP 6) (D := RN rb (.slice none 0 0) (left - 6) calls gm) hR.1 (by simp; omega) (by simp; omega) hlb ((cell W hk _).trans o0) ((cell W hk _).trans o4)
        refine (show Calls Tryd.prog 28 _ W _ by simpa using this).mono ?_
        rintro e w' ⟨g1, g2⟩
        refine ⟨g1, ?_⟩
        rcases g2 with ⟨_, g3, g4⟩ | ⟨g3, _⟩
        · exact Or.inl ⟨rfl, g3, by simpa using g4, by omega⟩
        · cases g3
      | 1, _ =>
        have := eval_sum f a b rb lb (lo + 12) mb mo cap2 (.slice none 0 0) gm fr (left - 2) calls W (by have := hR.1; simp at this; exact (show left - 1 - 1 = left - 2 by omega) ▸ this) (by omega) (by omega) hlb hmb (Nat.lt_of_lt_of_le hmw hk.size) (Nat.lt_of_lt_of_le hrb hk.size) hcap2 h1 h2 ((cell W hk _).trans n0) ((cell W hk _).trans n11) ((cellM W hk _).trans p0) ((cellM W hk _).trans p4) ((cellM W hk _).trans q0) ((cellM W hk _).trans q2) ((cellM W hk _).trans s0) ((cellM W hk _).trans s2)
        rw [hq, show left - 2 - 4 = left - 6 by omega] at this
        refine (show Calls Tryd.prog 28 _ W _ by simpa using this).mono ?_
        rintro e w' ⟨g1, g2⟩
        refine ⟨g1, ?_⟩
        rcases g2 with ⟨g3, _⟩ | ⟨_, g3, g4⟩
        · cases g3
        · exact Or.inr ⟨rfl, g3, g4⟩
    · intro N W hN hNW hk hR hcs
      exact absurd hR.2 (by omega)
  · refine eval_call rb cb co lb lo 2 cap (.slice none 0 0) gm fr left calls (fun _ => true) (fun j => if j = 0 then 114 else opT f) (fun j => if j = 0 then .string outB else opX f a b)
      true true (opT f) (opX f a b) (endP 6) (fun j W => RN rb (.slice none 0 0) (left - 1 - (if j = 0 then 0 else if j = 1 then 1 else 5)) calls gm W) _ _ w hr (by omega) hl9 hc (by omega) hcap hrb k0 k11 (fun j W W' e h => RN.stay e h) (fun W h => by simpa using h) ?_ ?_ (fun _ => rfl) (fun ⟨j, _, h⟩ => absurd h (by simp))
    · intro j W hj hk hR
      match j, hj with
      | 0, _ =>
        have := Ev.prim (fr := fr) (E := endP 6) (D := RN rb (.slice none 0 0) (left - 6) calls gm) hR (by simp; omega) (by simp; omega) hlb ((cell W hk _).trans o0) ((cell W hk _).trans o4)
        simpa using this
      | 1, _ =>
        have := eval_sum f a b rb lb (lo + 12) mb mo cap2 (.slice none 0 0) gm fr (left - 2) calls W (by have := hR; simp at this; exact (show left - 1 - 1 = left - 2 by omega) ▸ this) (by omega) (by omega) hlb hmb (Nat.lt_of_lt_of_le hmw hk.size) (Nat.lt_of_lt_of_le hrb hk.size) hcap2 h1 h2 ((cell W hk _).trans n0) ((cell W hk _).trans n11) ((cellM W hk _).trans p0) ((cellM W hk _).trans p4) ((cellM W hk _).trans q0) ((cellM W hk _).trans q2) ((cellM W hk _).trans s0) ((cellM W hk _).trans s2)
        rw [hq, show left - 2 - 4 = left - 6 by omega] at this
        have e : left - 1 - 5 = left - 6 := by omega
        simpa [e] using this
    · intro N W hN hNW hk hR hcs
      have g0 := hcs 0 (by omega)
      have g1 := hcs 1 (by omega)
      have hR' : RN rb (.slice none 0 0) (left - 6) calls gm W := by
        have e : left - 1 - 5 = left - 6 := by omega
        simpa [e] using hR
      refine call_prim1 rb N outB true (opT f) (opX f a b) (endP 6) _ _ W (by simpa using g0) ?_
      have hrbW : rb < W.heap.size := Nat.lt_of_lt_of_le hrb hk.size
      have htW : Tab T W := ht.below (hk.toBelow hT (by omega))
      have hsn : opS f a b ≠ [] := by match f with | 0 => exact hne _ | 1 => exact hne _ | 2 => exact hne _ | 3 => simp [opS, truthB]
      refine (prim_out rb N 1 (opT f) (opX f a b) (opS f a b) (left - 6) calls gm W (by simpa using g1) hNW (by omega) ?_).mono ?_
      · exact put_nil rb T (opT f) (opX f a b) (opS f a b) (left - 6) calls gm W hR' htW (by omega) hrbW hsn (fun W' hW' hs' ht' => value_op f a b T _ _ W' hW' hs' ht' (by omega) hq hlen)
      · rintro e w' ⟨rfl, hk', hr'⟩
        exact ⟨hk', Or.inl ⟨rfl, rfl, hr'⟩⟩
end
end Go.Proofs.YthooljlikllnpaaDoor
