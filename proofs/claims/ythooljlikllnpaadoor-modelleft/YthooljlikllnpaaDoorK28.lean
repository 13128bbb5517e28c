/- Chapter 7: package value: pairs: made, written. -/
import Derived.Test.YthooljlikllnpaaDoorK27
namespace Go.Proofs.YthooljlikllnpaaDoor
set_option linter.unusedVariables false
set_option linter.unusedSimpArgs false
open Go.RowKit

def consB : ByteArray := ⟨#[99, 111, 110, 115]⟩
/-- A pair of two numbers. -/
def Pr (P : Nat) (a b : Int) (w : World) : Prop := w.heap[P]? = some (.cells #[.iface 104 (.int .i64 a), .iface 104 (.int .i64 b), .slice none 0 0] 160 (0, 0))
set_option maxRecDepth 100000 in
set_option maxHeartbeats 3200000 in
theorem ofTwo_cons (a b : Int) (w : World) : Calls Tryd.prog 74 #[.string consB, .iface 104 (.int .i64 a), .iface 104 (.int .i64 b)] w fun e w' => e = .returned (.iface 158 (.pointer (some ⟨w.heap.size, 0, none⟩))) ∧ w' = w.alloc (.cells #[.iface 104 (.int .i64 a), .iface 104 (.int .i64 b), .slice none 0 0] 160) := by
  obtain ⟨s, hs⟩ : ∃ s, s = consB := ⟨_, rfl⟩
  have c1 : (s.toList == [99, 111, 110, 115]) = true := by rw [hs]; decide +kernel
  rw [← hs]
  clear hs
  go_enter Tryd.func74, Tryd.ntmps74
  go_wp2_with fail
  go_ret
  exact ⟨rfl, rfl⟩
set_option maxRecDepth 100000 in
set_option maxHeartbeats 3200000 in
theorem prim_cons (a b : Int) (rb ab ao c : Nat) (w : World) (k0 : w.cell? ⟨ab, ao, none⟩ = some (.iface 104 (.int .i64 a))) (k1 : w.cell? ⟨ab, ao + 1, none⟩ = some (.iface 104 (.int .i64 b))) :
    Calls Tryd.prog 59 #[.pointer (some ⟨rb, 0, none⟩), .string consB, .slice (some ⟨ab, ao, none⟩) 2 c] w (EvV rb (fun t x W => t = 158 ∧ x = .pointer (some ⟨w.heap.size, 0, none⟩) ∧ Pr w.heap.size a b W ∧ Below w.heap.size w W) w) := by
  have OT := hidd (fun w => ofTwo_cons a b w)
  obtain ⟨s, hs⟩ : ∃ s, s = consB := ⟨_, rfl⟩
  have AR : Hid (∀ w, Calls Tryd.prog 64 #[.string s] w fun e w' => e = .returned (.int .i64 2) ∧ w' = w) := fun w => by
    have e : argsB s = 2 := by rw [hs]; decide +kernel
    have := argsOf_any s w
    rw [e] at this
    exact this
  have c1 : (s.toList == [111, 117, 116]) = false := by rw [hs]; decide +kernel
  rw [← hs] at OT ⊢
  clear hs
  go_enter Tryd.func59, Tryd.ntmps59
  go_wp2_with fail
  refine (AR.out _).mono ?_
  rintro e w1 ⟨rfl, rfl⟩
  go_wp2_with fail
  refine (Must_yes _ _).mono ?_
  rintro e w1 ⟨rfl, rfl⟩
  go_wp2_with fail
  go_region_with (go_at_call 74; refine (OT.out _).mono ?_; rintro e w2 ⟨rfl, rfl⟩)
  all_goals
    have HB : Below w1.heap.size w1 (w1.drew.alloc (.cells #[.iface 104 (.int .i64 a), .iface 104 (.int .i64 b), .slice none 0 0] 160)) := (Below.drew (Below.refl _ _)).alloc (Nat.le_refl _) _
    have HP : Pr w1.heap.size a b (w1.drew.alloc (.cells #[.iface 104 (.int .i64 a), .iface 104 (.int .i64 b), .slice none 0 0] 160)) := World.alloc_heap_new w1.drew _
    have HBB := hidd HB
    have HPP := hidd HP
    clear HB HP
    go_wp2_with fail
    go_ret
    exact ⟨Keep.ofBelow HBB.out, _, _, rfl, rfl, rfl, HPP.out, HBB.out⟩
set_option maxRecDepth 100000 in
set_option maxHeartbeats 800000 in
theorem values_num (P : Nat) (a b : Int) (w : World) (h : Pr P a b w) : Calls Tryd.prog 84 #[.pointer (some ⟨P, 0, none⟩)] w fun e w' => e = .returned (.tuple #[.iface 104 (.int .i64 a), .iface 104 (.int .i64 b)]) ∧ Below w.heap.size w w' := by
  have c0 : w.cell? ⟨P, 0, none⟩ = some (.iface 104 (.int .i64 a)) := (cellO h).trans rfl
  have c1 : w.cell? ⟨P, 1, none⟩ = some (.iface 104 (.int .i64 b)) := (cellO h).trans rfl
  have c2 : w.cell? ⟨P, 2, none⟩ = some (.slice none 0 0) := (cellO h).trans rfl
  clear h
  go_enter Tryd.func84, Tryd.ntmps84
  go_wp2_with fail
  go_region
  all_goals
    go_wp2_with fail
    exact bodyPost_ret (v := .tuple #[.iface 104 (.int .i64 a), .iface 104 (.int .i64 b)]) (by simp [results, Tryd.results84, go_sem]) rfl ⟨rfl, Below.drew (Below.refl _ _)⟩
/-- How a pair of numbers is written. -/
def pairB (a b : Int) : List UInt8 := [40] ++ Lib.itoa a ++ [32, 46, 32] ++ Lib.itoa b ++ [41]
theorem assertPP (v : Value) (w : World) : (Instr.typeAssert (.iface 104 v) 77 158 true).run Tryd.prog w = .ok (.tuple #[.pointer none, .bool false]) w := by
  obtain ⟨i, hi, hz⟩ := Option.map_eq_some_iff.1 (show (Tryd.prog.info? 158).map (·.zero) = some (some (.pointer none)) by kernel_rfl)
  simp [Instr.typeAssert, run_underlying Tryd.underlying158, hi, hz]
theorem equalIn_other (d : Nat) (t u : TypeId) (x y : Value) (h : t ≠ u) (w : World) : (Op.equalIn (d + 1) 77 (.iface t x) (.iface u y)).run Tryd.prog w = .ok false w := by
  simp [Op.equalIn, run_underlying Tryd.underlying77, h]
theorem neq_nothing (y : Int) (w : World) : (binOp BinOp.neq 77 (.iface 104 (.int .i64 y)) (.iface 157 (.agg #[]))).run Tryd.prog w = .ok (.bool true) w := by
  have e : (Op.equal 77 (.iface 104 (.int .i64 y)) (.iface 157 (.agg #[]))).run Tryd.prog w = .ok false w := equalIn_other 9999 104 157 (.int .i64 y) (.agg #[]) (by decide) w
  simp [binOp, e]
theorem writeB (B b : Nat) (k : Int) (l : List UInt8) (c : UInt8) (ci : Int) (hc : (c.toNat : Int) = ci) (w : World) (h : Wr B b k l w) (hlen : l.length ≤ 10000) (hBw : B ≤ w.heap.size) :
    Calls Tryd.prog 96 #[.pointer (some ⟨b, 0, none⟩), .int .u8 ci] w fun e w' => e = .returned .nilIface ∧ Wr B b k (l ++ [c]) w' ∧ Below B w w' := by
  subst hc
  exact WriteByte_any B b k l c w h (by omega) hBw
def dotB : ByteArray := ⟨#[32, 46, 32]⟩
set_option maxRecDepth 100000 in
set_option maxHeartbeats 3200000 in
theorem pair_num (T B b P : Nat) (k x y : Int) (w : World) (h : Wr B b k [] w) (hk0 : 0 ≤ k) (hk : k ≤ 200) (hBw : B ≤ w.heap.size) (ht : Tab T w) (hT : T ≤ B) (hP : Pr P x y w) (hPB : P < B)
    (h1 : rangeN x = true) (h2 : rangeN y = true) (hl1 : (Lib.itoa x).length ≤ 100) (hl2 : (Lib.itoa y).length ≤ 100) :
    Calls Tryd.prog 90 #[.pointer (some ⟨b, 0, none⟩), .pointer (some ⟨P, 0, none⟩)] w fun e w' => e = .returned (.tuple #[]) ∧ Wr B b (k + 2) (pairB x y) w' ∧ Below B w w' := by
  have W1 : Hid (∀ W l, Wr B b k l W → l.length ≤ 10000 → B ≤ W.heap.size → Calls Tryd.prog 96 #[.pointer (some ⟨b, 0, none⟩), .int .u8 40] W fun e w' => e = .returned .nilIface ∧ Wr B b k (l ++ [40]) w' ∧ Below B W w') := fun W l h1 h2 h3 => writeB B b k l 40 40 rfl W h1 h2 h3
  have W2 : Hid (∀ W l, Wr B b (k + 2) l W → l.length ≤ 10000 → B ≤ W.heap.size → Calls Tryd.prog 96 #[.pointer (some ⟨b, 0, none⟩), .int .u8 41] W fun e w' => e = .returned .nilIface ∧ Wr B b (k + 2) (l ++ [41]) w' ∧ Below B W w') := fun W l h1 h2 h3 => writeB B b (k + 2) l 41 41 rfl W h1 h2 h3
  have WD : Hid (∀ W l, Wr B b (k + 1) l W → l.length ≤ 10000 → B ≤ W.heap.size → Calls Tryd.prog 88 #[.pointer (some ⟨b, 0, none⟩), .string dotB] W fun e w' => e = .returned (.tuple #[.int .i64 3, .nilIface]) ∧ Wr B b (k + 1) (l ++ [32, 46, 32]) w' ∧ Below B W w') := fun W l h1 h2 h3 => by
    have e : dotB.size = 3 := rfl
    have := WriteString_any B b (k + 1) l dotB W h1 (by rw [e]; omega) h3
    rw [e] at this
    exact this
  have VX : Hid (∀ W l, Wr B b k l W → l.length ≤ 10000 → B ≤ W.heap.size → Tab T W → Calls Tryd.prog 81 #[.pointer (some ⟨b, 0, none⟩), .iface 104 (.int .i64 x)] W fun e w' => e = .returned (.tuple #[]) ∧ Wr B b (k + 1) (l ++ Lib.itoa x) w' ∧ Below B W w') := fun W l q1 q2 q3 q4 => value_num T B b k x l W q1 hk0 (by omega) q2 q3 q4 hT h1 hl1
  have VY : Hid (∀ W l, Wr B b (k + 1) l W → l.length ≤ 10000 → B ≤ W.heap.size → Tab T W → Calls Tryd.prog 81 #[.pointer (some ⟨b, 0, none⟩), .iface 104 (.int .i64 y)] W fun e w' => e = .returned (.tuple #[]) ∧ Wr B b (k + 2) (l ++ Lib.itoa y) w' ∧ Below B W w') := fun W l q1 q2 q3 q4 => by
    have := value_num T B b (k + 1) y l W q1 (by omega) (by omega) q2 q3 q4 hT h2 hl2
    rw [show k + 1 + 1 = k + 2 by omega] at this
    exact this
  have VS := hidd (fun W (hb : Below B w W) => values_num P x y W ((hb.block P hPB).trans hP))
  have hta := assertPP (.int .i64 y)
  have hnt := neq_nothing y
  have HW := hidd h
  have HT := hidd ht
  have HL : Hid ((Lib.itoa x).length ≤ 100 ∧ (Lib.itoa y).length ≤ 100 ∧ B ≤ w.heap.size ∧ T ≤ B) := ⟨hl1, hl2, hBw, hT⟩
  have HPB : Hid (pairB x y = [] ++ [40] ++ Lib.itoa x ++ [32, 46, 32] ++ Lib.itoa y ++ [41]) := by simp [pairB, Hid]
  clear h ht hP hPB h1 h2 hl1 hl2 hk0 hk hBw hT
  generalize Lib.itoa x = sx at *
  generalize Lib.itoa y = sy at *
  have hd : dotB = ⟨#[32, 46, 32]⟩ := rfl
  rw [hd] at WD
  clear hd
  go_enter Tryd.func90, Tryd.ntmps90
  go_wp2_with fail
  refine (W1.out w [] HW.out (by simp) HL.out.2.2.1).mono ?_
  rintro e w1 ⟨rfl, hw1, hb1⟩
  have HB1 := hidd hb1
  have HW1 := hidd hw1
  clear hw1 hb1
  go_wp2_with fail
  refine (VS.out _ HB1.out).mono ?_
  rintro e w2 ⟨rfl, hb2⟩
  have HB2 := hidd (HB1.out.trans (hb2.mono (Nat.le_trans HL.out.2.2.1 HB1.out.size)))
  have HW2 := hidd (HW1.out.below hb2)
  clear hb2 HB1 HW1
  go_wp2_with fail
  refine (VX.out w2 _ HW2.out (by simp) (Nat.le_trans HL.out.2.2.1 HB2.out.size) (HT.out.below (HB2.out.mono HL.out.2.2.2))).mono ?_
  rintro e w3 ⟨rfl, hw3, hb3⟩
  have HB3 := hidd (HB2.out.trans hb3)
  have HW3 := hidd hw3
  clear hw3 hb3
  go_wp2_with fail
  refine wp_loop_rounds 1 ?_
  rw [rounds_succ]
  go_wp2_with fail
  refine (WD.out w3 _ HW3.out (by have := HL.out.1; simp; omega) (Nat.le_trans HL.out.2.2.1 HB3.out.size)).mono ?_
  rintro e w4 ⟨rfl, hw4, hb4⟩
  have HB4 := hidd (HB3.out.trans hb4)
  have HW4 := hidd hw4
  clear hw4 hb4
  go_wp2_with fail
  refine (VY.out w4 _ HW4.out (by have := HL.out.1; simp; omega) (Nat.le_trans HL.out.2.2.1 HB4.out.size) (HT.out.below (HB4.out.mono HL.out.2.2.2))).mono ?_
  rintro e w5 ⟨rfl, hw5, hb5⟩
  have HB5 := hidd (HB4.out.trans hb5)
  have HW5 := hidd hw5
  clear hw5 hb5
  go_wp2_with fail
  refine (W2.out w5 _ HW5.out (by have := HL.out.1; have := HL.out.2.1; simp; omega) (Nat.le_trans HL.out.2.2.1 HB5.out.size)).mono ?_
  rintro e w6 ⟨rfl, hw6, hb6⟩
  have HB6 := hidd (HB5.out.trans hb6)
  go_wp2_with fail
  go_end0
  exact ⟨rfl, HPB.out ▸ hw6, HB6.out⟩
theorem assertNoP (v : Value) (w : World) : (Instr.typeAssert (.iface 158 v) 77 104 true).run Tryd.prog w = .ok (.tuple #[.int .i64 0, .bool false]) w := by
  obtain ⟨i, hi, hz⟩ := Option.map_eq_some_iff.1 (show (Tryd.prog.info? 104).map (·.zero) = some (some (.int .i64 0)) by kernel_rfl)
  simp [Instr.typeAssert, run_underlying Tryd.underlying104, hi, hz]
theorem assertTrP (v : Value) (w : World) : (Instr.typeAssert (.iface 158 v) 77 105 true).run Tryd.prog w = .ok (.tuple #[.bool false, .bool false]) w := by
  obtain ⟨i, hi, hz⟩ := Option.map_eq_some_iff.1 (show (Tryd.prog.info? 105).map (·.zero) = some (some (.bool false)) by kernel_rfl)
  simp [Instr.typeAssert, run_underlying Tryd.underlying105, hi, hz]
theorem assertSyP (v : Value) (w : World) : (Instr.typeAssert (.iface 158 v) 77 137 true).run Tryd.prog w = .ok (.tuple #[.string ⟨#[]⟩, .bool false]) w := by
  obtain ⟨i, hi, hz⟩ := Option.map_eq_some_iff.1 (show (Tryd.prog.info? 137).map (·.zero) = some (some (.string ⟨#[]⟩)) by kernel_rfl)
  simp [Instr.typeAssert, run_underlying Tryd.underlying137, hi, hz]
theorem assertNtP (v : Value) (w : World) : (Instr.typeAssert (.iface 158 v) 77 157 true).run Tryd.prog w = .ok (.tuple #[.agg #[], .bool false]) w := by
  obtain ⟨i, hi, hz⟩ := Option.map_eq_some_iff.1 (show (Tryd.prog.info? 157).map (·.zero) = some (some (.agg #[])) by kernel_rfl)
  simp [Instr.typeAssert, run_underlying Tryd.underlying157, hi, hz]
theorem assertPrP (v : Value) (w : World) : (Instr.typeAssert (.iface 158 v) 77 158 true).run Tryd.prog w = .ok (.tuple #[v, .bool true]) w := by
  simp [Instr.typeAssert, run_underlying Tryd.underlying158]
set_option maxRecDepth 100000 in
set_option maxHeartbeats 1600000 in
theorem value_pair (T B b P : Nat) (x y : Int) (w : World) (h : Wr B b 0 [] w) (hBw : B ≤ w.heap.size) (ht : Tab T w) (hT : T ≤ B) (hP : Pr P x y w) (hPB : P < B)
    (h1 : rangeN x = true) (h2 : rangeN y = true) (hl1 : (Lib.itoa x).length ≤ 100) (hl2 : (Lib.itoa y).length ≤ 100) :
    Calls Tryd.prog 81 #[.pointer (some ⟨b, 0, none⟩), .iface 158 (.pointer (some ⟨P, 0, none⟩))] w fun e w' => e = .returned (.tuple #[]) ∧ Wr B b 3 (pairB x y) w' ∧ Below B w w' := by
  obtain ⟨hB, c2, z2⟩ := h.parts
  have a1 := assertNoP (.pointer (some ⟨P, 0, none⟩))
  have a2 := assertTrP (.pointer (some ⟨P, 0, none⟩))
  have a3 := assertSyP (.pointer (some ⟨P, 0, none⟩))
  have a4 := assertNtP (.pointer (some ⟨P, 0, none⟩))
  have a5 := assertPrP (.pointer (some ⟨P, 0, none⟩))
  have HW := hidd (h.node 1)
  have HB : Hid (Below B w (w.setCell ⟨b, 2, none⟩ (.int .i64 1))) := (Below.refl B w).setCell (p := ⟨b, 2, none⟩) hB _
  have HSZ : Hid (B ≤ (w.setCell ⟨b, 2, none⟩ (.int .i64 1)).heap.size) := by
    have e : (w.setCell ⟨b, 2, none⟩ (.int .i64 1)).heap.size = w.heap.size := by simp
    exact e ▸ hBw
  have TR := hidd (pair_num T B b P 1 x y _ HW.out (by omega) (by omega) HSZ.out (ht.below (HB.out.mono hT)) hT ((HB.out.block P hPB).trans hP) hPB h1 h2 hl1 hl2)
  clear h hP ht
  obtain ⟨W1, hW1⟩ : ∃ W1, W1 = w.setCell ⟨b, 2, none⟩ (.int .i64 1) := ⟨_, rfl⟩
  have d2 : W1.cell? ⟨b, 2, none⟩ = some (.int .i64 1) := by rw [hW1]; exact HW.out.parts.2.1
  rw [← hW1] at HW HB HSZ TR
  have hw1 := hW1.symm
  clear hW1
  go_enter Tryd.func81, Tryd.ntmps81
  go_wp2_with fail
  refine (Must_yes _ _).mono ?_
  rintro e w1 ⟨rfl, rfl⟩
  go_wp2_with fail
  refine TR.out.mono ?_
  rintro e w3 ⟨rfl, hw3, hb3⟩
  go_wp2_with fail
  go_end0
  exact ⟨rfl, hw3, HB.out.trans hb3⟩
end Go.Proofs.YthooljlikllnpaaDoor
