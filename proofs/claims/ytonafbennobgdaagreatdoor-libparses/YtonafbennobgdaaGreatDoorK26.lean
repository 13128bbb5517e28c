/- Chapter 3: whether a requirement holds, path by path. -/
import Derived.Test.YtonafbennobgdaaGreatDoorK25
import Derived.Test.YtonafbennobgdaaGreatDoorK16
namespace Go.Proofs.YtonafbennobgdaaGreatDoor
set_option linter.unusedVariables false
set_option linter.unusedSimpArgs false
open Go.RowKit
set_option maxRecDepth 100000
set_option maxHeartbeats 6400000
theorem e133 (d : Dat) (a : Option Addr) (kn cap : Nat) {pb : Nat} {f2 f3 : Value} {w : World} (hq1 : w.cell? ⟨pb, 1, none⟩ = some f2) (hq2 : w.cell? ⟨pb, 2, none⟩ = some f3) (hpl : pb < w.heap.size) : ∃ W0, ((w.alloc (.cells #[.pointer (some ⟨pb, 0, none⟩)] 84)).alloc (.cells #[.int .i64 d.kind, .int .i64 d.n, .string d.name, .int .i64 d.stamp, .int .i64 d.lib, .slice a kn cap] 26)) = W0 ∧ Hid (Below w.heap.size w W0) ∧ Hid (∀ W, Below W0.heap.size W0 W → W.cell? ⟨w.heap.size, 0, none⟩ = some (.pointer (some ⟨pb, 0, none⟩)) ∧ W.cell? ⟨pb, 1, none⟩ = some f2 ∧ W.cell? ⟨pb, 2, none⟩ = some f3) ∧ (W0.cell? ⟨w.heap.size, 0, none⟩ = some (.pointer (some ⟨pb, 0, none⟩)) ∧ W0.cell? ⟨pb, 1, none⟩ = some f2 ∧ W0.cell? ⟨pb, 2, none⟩ = some f3) ∧ W0.cell? ⟨w.heap.size + 1, 0, none⟩ = some (.int .i64 d.kind) ∧ W0.cell? ⟨w.heap.size + 1, 1, none⟩ = some (.int .i64 d.n) ∧ W0.cell? ⟨w.heap.size + 1, 2, none⟩ = some (.string d.name) ∧ W0.cell? ⟨w.heap.size + 1, 3, none⟩ = some (.int .i64 d.stamp) ∧ W0.cell? ⟨w.heap.size + 1, 4, none⟩ = some (.int .i64 d.lib) ∧ W0.cell? ⟨w.heap.size + 1, 5, none⟩ = some (.slice a kn cap) := by
 obtain ⟨W0, hW0⟩ : ∃ W0, W0 = ((w.alloc (.cells #[.pointer (some ⟨pb, 0, none⟩)] 84)).alloc (.cells #[.int .i64 d.kind, .int .i64 d.n, .string d.name, .int .i64 d.stamp, .int .i64 d.lib, .slice a kn cap] 26)) := ⟨_, rfl⟩
 have g1 : Below w.heap.size w W0 := by rw [hW0]; exact ((Below.refl _ _).alloc (Nat.le_refl _) _).alloc (by simp) _
 have g2 : W0.heap[w.heap.size]? = some (.cells #[.pointer (some ⟨pb, 0, none⟩)] 84 (0, 0)) := by
  rw [hW0, Below.heap_alloc _ _ _ (by simp)]; exact World.alloc_heap_new w _
 have g3 : W0.heap[w.heap.size + 1]? = some (.cells #[.int .i64 d.kind, .int .i64 d.n, .string d.name, .int .i64 d.stamp, .int .i64 d.lib, .slice a kn cap] 26 (0, 0)) := by
  rw [hW0]
  have := World.alloc_heap_new (w.alloc (.cells #[.pointer (some ⟨pb, 0, none⟩)] 84)) (.cells #[.int .i64 d.kind, .int .i64 d.n, .string d.name, .int .i64 d.stamp, .int .i64 d.lib, .slice a kn cap] 26)
  simpa using this
 have g4 : W0.heap.size = w.heap.size + 2 := by rw [hW0]; simp
 have HB0 : Hid (Below w.heap.size w W0) := g1
 have HQ : Hid (∀ W, Below W0.heap.size W0 W → W.cell? ⟨w.heap.size, 0, none⟩ = some (.pointer (some ⟨pb, 0, none⟩)) ∧ W.cell? ⟨pb, 1, none⟩ = some f2 ∧ W.cell? ⟨pb, 2, none⟩ = some f3) := fun W hb => ⟨(hb.cell (p := ⟨w.heap.size, 0, none⟩) (show w.heap.size < W0.heap.size by omega)).trans ((cellO g2).trans rfl), ((g1.trans (hb.mono g1.size)).cell (p := ⟨pb, 1, none⟩) hpl).trans hq1, ((g1.trans (hb.mono g1.size)).cell (p := ⟨pb, 2, none⟩) hpl).trans hq2⟩
 obtain ⟨x0, x1, x2⟩ := HQ.out W0 (Below.refl _ _)
 have y0 : W0.cell? ⟨w.heap.size + 1, 0, none⟩ = some (.int .i64 d.kind) := (cellO g3).trans rfl
 have y1 : W0.cell? ⟨w.heap.size + 1, 1, none⟩ = some (.int .i64 d.n) := (cellO g3).trans rfl
 have y2 : W0.cell? ⟨w.heap.size + 1, 2, none⟩ = some (.string d.name) := (cellO g3).trans rfl
 have y3 : W0.cell? ⟨w.heap.size + 1, 3, none⟩ = some (.int .i64 d.stamp) := (cellO g3).trans rfl
 have y4 : W0.cell? ⟨w.heap.size + 1, 4, none⟩ = some (.int .i64 d.lib) := (cellO g3).trans rfl
 have y5 : W0.cell? ⟨w.heap.size + 1, 5, none⟩ = some (.slice a kn cap) := (cellO g3).trans rfl
 have hw0 := hW0.symm
 exact ⟨W0, hw0, HB0, HQ, ⟨x0, x1, x2⟩, y0, y1, y2, y3, y4, y5⟩
theorem holds_sym (d : Dat) (a : Option Addr) (kn cap pb : Nat) (f2 f3 : Value) (w : World) (hq1 : w.cell? ⟨pb, 1, none⟩ = some f2) (hq2 : w.cell? ⟨pb, 2, none⟩ = some f3) (hpl : pb < w.heap.size) (hk : d.kind = 3) (r : Bool) (HC0 : ∀ W, Below w.heap.size w W → Calls Tryz.prog 148 #[f2, .string d.name] W fun e w' => e = .returned (.bool r) ∧ w' = W) :
 Calls Tryz.prog 133 #[.pointer (some ⟨pb, 0, none⟩), .agg #[.int .i64 d.kind, .int .i64 d.n, .string d.name, .int .i64 d.stamp, .int .i64 d.lib, .slice a kn cap]] w fun e w' => Below w.heap.size w w' ∧ e = .returned (.bool r) := by
 have c1 : (d.kind == 3) = true := by simpa using hk
 obtain ⟨W0, hw0, HB0, HQ, ⟨x0, x1, x2⟩, y0, y1, y2, y3, y4, y5⟩ := e133 d a kn cap hq1 hq2 hpl
 clear hk hq1 hq2 hpl
 have HC := hidd HC0
 clear HC0
 go_enter Tryz.func133, Tryz.ntmps133
 go_upto_region 2 with fail
 clear hw0
 have HBW : Hid (∀ k, Below w.heap.size w (W0.drewN k)) := fun k => below_drewN HB0.out k
 go_quiet ((go_at_call 148; exact Calls.quiet_of_same (HC.out _ (HBW.out _))))
 go_wp2_with fail
 go_ret
 exact ⟨below_drewN HB0.out _, rfl⟩
theorem holds_form_no (d : Dat) (a : Option Addr) (kn cap pb : Nat) (f2 f3 : Value) (w : World) (hq1 : w.cell? ⟨pb, 1, none⟩ = some f2) (hq2 : w.cell? ⟨pb, 2, none⟩ = some f3) (hpl : pb < w.heap.size) (hk : ¬ d.kind = 3) (z : Int) (HF0 : ∀ W, Below w.heap.size w W → Calls Tryz.prog 53 #[.agg #[.int .i64 d.kind, .int .i64 d.n, .string d.name, .int .i64 d.stamp, .int .i64 d.lib, .slice a kn cap]] W fun e w' => Below W.heap.size W w' ∧ e = .panicked (thrownL z)) :
 Calls Tryz.prog 133 #[.pointer (some ⟨pb, 0, none⟩), .agg #[.int .i64 d.kind, .int .i64 d.n, .string d.name, .int .i64 d.stamp, .int .i64 d.lib, .slice a kn cap]] w fun e w' => Below w.heap.size w w' ∧ e = .panicked (thrownL z) := by
 have c1 : (d.kind == 3) = false := by simpa using hk
 obtain ⟨W0, hw0, HB0, HQ, ⟨x0, x1, x2⟩, y0, y1, y2, y3, y4, y5⟩ := e133 d a kn cap hq1 hq2 hpl
 clear hk hq1 hq2 hpl
 have HF := hidd HF0
 clear HF0
 go_enter Tryz.func133, Tryz.ntmps133
 go_wp2_with fail
 refine (HF.out W0 HB0.out).mono ?_
 rintro e w1 ⟨hb1, rfl⟩
 have HB1 : Hid (Below w.heap.size w w1) := HB0.out.trans (hb1.mono HB0.out.size)
 clear hb1
 go_wp2_with fail
 exact ⟨rfl, HB1.out, rfl⟩
theorem holds_else (d : Dat) (a : Option Addr) (kn cap pb : Nat) (f2 f3 : Value) (w : World) (hq1 : w.cell? ⟨pb, 1, none⟩ = some f2) (hq2 : w.cell? ⟨pb, 2, none⟩ = some f3) (hpl : pb < w.heap.size) (hk : ¬ d.kind = 3) (nm : ByteArray) (ra : Option Addr) (rn rc : Nat) (HF0 : ∀ W, Below w.heap.size w W → Calls Tryz.prog 53 #[.agg #[.int .i64 d.kind, .int .i64 d.n, .string d.name, .int .i64 d.stamp, .int .i64 d.lib, .slice a kn cap]] W fun e w' => Below W.heap.size W w' ∧ e = .returned (.tuple #[.string nm, .slice ra rn rc])) (hn0 : ¬ nm = bLibrary) (hn1 : ¬ nm = bNot) (hn2 : ¬ nm = bAnd) (hn3 : ¬ nm = bOr) :
 Calls Tryz.prog 133 #[.pointer (some ⟨pb, 0, none⟩), .agg #[.int .i64 d.kind, .int .i64 d.n, .string d.name, .int .i64 d.stamp, .int .i64 d.lib, .slice a kn cap]] w fun e w' => Below w.heap.size w w' ∧ e = .panicked (thrownL 2) := by
 have c1 : (d.kind == 3) = false := by simpa using hk
 obtain ⟨W0, hw0, HB0, HQ, ⟨x0, x1, x2⟩, y0, y1, y2, y3, y4, y5⟩ := e133 d a kn cap hq1 hq2 hpl
 clear hk hq1 hq2 hpl
 have k0 : (nm.toList == bLibrary.toList) = false := beqS_ne hn0
 unfold bLibrary at k0
 have m0 : (nm.toList == [108, 105, 98, 114, 97, 114, 121]) = false := by simpa using k0
 have k1 : (nm.toList == bNot.toList) = false := beqS_ne hn1
 unfold bNot at k1
 have m1 : (nm.toList == [110, 111, 116]) = false := by simpa using k1
 have k2 : (nm.toList == bAnd.toList) = false := beqS_ne hn2
 unfold bAnd at k2
 have m2 : (nm.toList == [97, 110, 100]) = false := by simpa using k2
 have k3 : (nm.toList == bOr.toList) = false := beqS_ne hn3
 unfold bOr at k3
 have m3 : (nm.toList == [111, 114]) = false := by simpa using k3
 clear hn0 hn1 hn2 hn3
 have HF := hidd HF0
 clear HF0
 go_enter Tryz.func133, Tryz.ntmps133
 go_wp2_with fail
 refine (HF.out W0 HB0.out).mono ?_
 rintro e w1 ⟨hb1, rfl⟩
 obtain ⟨q0, q1, q2⟩ := HQ.out w1 hb1
 have HQ1 : Hid (w1.cell? ⟨w.heap.size, 0, none⟩ = some (.pointer (some ⟨pb, 0, none⟩)) ∧ w1.cell? ⟨pb, 2, none⟩ = some f3) := ⟨q0, q2⟩
 have HB1 : Hid (Below w.heap.size w w1) := HB0.out.trans (hb1.mono HB0.out.size)
 have HW1 : Hid (w.heap.size < w1.heap.size ∧ pb < w1.heap.size) := ⟨World.block_lt_of_cell? _ _ q0, World.block_lt_of_cell? _ _ q2⟩
 clear hb1 x0 x1 x2 y0 y1 y2 y3 y4 y5 hw0 HF
 go_wp2_with fail
 exact ⟨rfl, HB1.out, rfl⟩
theorem holds_many150_no (d : Dat) (a : Option Addr) (kn cap pb : Nat) (f2 f3 : Value) (w : World) (hq1 : w.cell? ⟨pb, 1, none⟩ = some f2) (hq2 : w.cell? ⟨pb, 2, none⟩ = some f3) (hpl : pb < w.heap.size) (hk : ¬ d.kind = 3) (nm : ByteArray) (ra : Option Addr) (rn rc : Nat) (HF0 : ∀ W, Below w.heap.size w W → Calls Tryz.prog 53 #[.agg #[.int .i64 d.kind, .int .i64 d.n, .string d.name, .int .i64 d.stamp, .int .i64 d.lib, .slice a kn cap]] W fun e w' => Below W.heap.size W w' ∧ e = .returned (.tuple #[.string nm, .slice ra rn rc])) (hn0 : ¬ nm = bLibrary) (hn1 : ¬ nm = bNot) (hn : nm = bAnd) (z : Int) (HM0 : ∀ W, Below w.heap.size w W → W.cell? ⟨w.heap.size, 0, none⟩ = some (.pointer (some ⟨pb, 0, none⟩)) → Calls Tryz.prog 149 #[.slice ra rn rc, .func (.func 150) #[] #[.pointer (some ⟨w.heap.size, 0, none⟩)]] W fun e w' => Below W.heap.size W w' ∧ e = .panicked (thrownL z)) :
 Calls Tryz.prog 133 #[.pointer (some ⟨pb, 0, none⟩), .agg #[.int .i64 d.kind, .int .i64 d.n, .string d.name, .int .i64 d.stamp, .int .i64 d.lib, .slice a kn cap]] w fun e w' => Below w.heap.size w w' ∧ e = .panicked (thrownL z) := by
 have c1 : (d.kind == 3) = false := by simpa using hk
 obtain ⟨W0, hw0, HB0, HQ, ⟨x0, x1, x2⟩, y0, y1, y2, y3, y4, y5⟩ := e133 d a kn cap hq1 hq2 hpl
 clear hk hq1 hq2 hpl
 have k0 : (nm.toList == bLibrary.toList) = false := beqS_ne hn0
 unfold bLibrary at k0
 have m0 : (nm.toList == [108, 105, 98, 114, 97, 114, 121]) = false := by simpa using k0
 have k1 : (nm.toList == bNot.toList) = false := beqS_ne hn1
 unfold bNot at k1
 have m1 : (nm.toList == [110, 111, 116]) = false := by simpa using k1
 have ke : (nm.toList == bAnd.toList) = true := by rw [hn]; simp
 unfold bAnd at ke
 have me : (nm.toList == [97, 110, 100]) = true := by simpa using ke
 clear hn0 hn1 hn
 have HF := hidd HF0
 clear HF0
 have HM := hidd HM0
 clear HM0
 go_enter Tryz.func133, Tryz.ntmps133
 go_wp2_with fail
 refine (HF.out W0 HB0.out).mono ?_
 rintro e w1 ⟨hb1, rfl⟩
 obtain ⟨q0, q1, q2⟩ := HQ.out w1 hb1
 have HQ1 : Hid (w1.cell? ⟨w.heap.size, 0, none⟩ = some (.pointer (some ⟨pb, 0, none⟩)) ∧ w1.cell? ⟨pb, 2, none⟩ = some f3) := ⟨q0, q2⟩
 have HB1 : Hid (Below w.heap.size w w1) := HB0.out.trans (hb1.mono HB0.out.size)
 have HW1 : Hid (w.heap.size < w1.heap.size ∧ pb < w1.heap.size) := ⟨World.block_lt_of_cell? _ _ q0, World.block_lt_of_cell? _ _ q2⟩
 clear hb1 x0 x1 x2 y0 y1 y2 y3 y4 y5 hw0 HF
 go_wp2_with fail
 refine (HM.out _ HB1.out HQ1.out.1).mono ?_
 rintro e w2 ⟨hb2, rfl⟩
 have HB2 : Hid (Below w.heap.size w w2) := HB1.out.trans (hb2.mono HB1.out.size)
 clear hb2
 go_wp2_with fail
 exact ⟨rfl, HB2.out, rfl⟩
theorem holds_many150_ok (d : Dat) (a : Option Addr) (kn cap pb : Nat) (f2 f3 : Value) (w : World) (hq1 : w.cell? ⟨pb, 1, none⟩ = some f2) (hq2 : w.cell? ⟨pb, 2, none⟩ = some f3) (hpl : pb < w.heap.size) (hk : ¬ d.kind = 3) (nm : ByteArray) (ra : Option Addr) (rn rc : Nat) (HF0 : ∀ W, Below w.heap.size w W → Calls Tryz.prog 53 #[.agg #[.int .i64 d.kind, .int .i64 d.n, .string d.name, .int .i64 d.stamp, .int .i64 d.lib, .slice a kn cap]] W fun e w' => Below W.heap.size W w' ∧ e = .returned (.tuple #[.string nm, .slice ra rn rc])) (hn0 : ¬ nm = bLibrary) (hn1 : ¬ nm = bNot) (hn : nm = bAnd) (r : Bool) (HM0 : ∀ W, Below w.heap.size w W → W.cell? ⟨w.heap.size, 0, none⟩ = some (.pointer (some ⟨pb, 0, none⟩)) → Calls Tryz.prog 149 #[.slice ra rn rc, .func (.func 150) #[] #[.pointer (some ⟨w.heap.size, 0, none⟩)]] W fun e w' => Below W.heap.size W w' ∧ e = .returned (.bool r)) :
 Calls Tryz.prog 133 #[.pointer (some ⟨pb, 0, none⟩), .agg #[.int .i64 d.kind, .int .i64 d.n, .string d.name, .int .i64 d.stamp, .int .i64 d.lib, .slice a kn cap]] w fun e w' => Below w.heap.size w w' ∧ e = .returned (.bool (!r)) := by
 have c1 : (d.kind == 3) = false := by simpa using hk
 obtain ⟨W0, hw0, HB0, HQ, ⟨x0, x1, x2⟩, y0, y1, y2, y3, y4, y5⟩ := e133 d a kn cap hq1 hq2 hpl
 clear hk hq1 hq2 hpl
 have k0 : (nm.toList == bLibrary.toList) = false := beqS_ne hn0
 unfold bLibrary at k0
 have m0 : (nm.toList == [108, 105, 98, 114, 97, 114, 121]) = false := by simpa using k0
 have k1 : (nm.toList == bNot.toList) = false := beqS_ne hn1
 unfold bNot at k1
 have m1 : (nm.toList == [110, 111, 116]) = false := by simpa using k1
 have ke : (nm.toList == bAnd.toList) = true := by rw [hn]; simp
 unfold bAnd at ke
 have me : (nm.toList == [97, 110, 100]) = true := by simpa using ke
 clear hn0 hn1 hn
 have HF := hidd HF0
 clear HF0
 have HM := hidd HM0
 clear HM0
 go_enter Tryz.func133, Tryz.ntmps133
 go_wp2_with fail
 refine (HF.out W0 HB0.out).mono ?_
 rintro e w1 ⟨hb1, rfl⟩
 obtain ⟨q0, q1, q2⟩ := HQ.out w1 hb1
 have HQ1 : Hid (w1.cell? ⟨w.heap.size, 0, none⟩ = some (.pointer (some ⟨pb, 0, none⟩)) ∧ w1.cell? ⟨pb, 2, none⟩ = some f3) := ⟨q0, q2⟩
 have HB1 : Hid (Below w.heap.size w w1) := HB0.out.trans (hb1.mono HB0.out.size)
 have HW1 : Hid (w.heap.size < w1.heap.size ∧ pb < w1.heap.size) := ⟨World.block_lt_of_cell? _ _ q0, World.block_lt_of_cell? _ _ q2⟩
 clear hb1 x0 x1 x2 y0 y1 y2 y3 y4 y5 hw0 HF
 go_wp2_with fail
 refine (HM.out _ HB1.out HQ1.out.1).mono ?_
 rintro e w2 ⟨hb2, rfl⟩
 have HB2 : Hid (Below w.heap.size w w2) := HB1.out.trans (hb2.mono HB1.out.size)
 clear hb2
 go_wp2_with fail
 go_ret
 exact ⟨HB2.out, rfl⟩
theorem holds_many151_no (d : Dat) (a : Option Addr) (kn cap pb : Nat) (f2 f3 : Value) (w : World) (hq1 : w.cell? ⟨pb, 1, none⟩ = some f2) (hq2 : w.cell? ⟨pb, 2, none⟩ = some f3) (hpl : pb < w.heap.size) (hk : ¬ d.kind = 3) (nm : ByteArray) (ra : Option Addr) (rn rc : Nat) (HF0 : ∀ W, Below w.heap.size w W → Calls Tryz.prog 53 #[.agg #[.int .i64 d.kind, .int .i64 d.n, .string d.name, .int .i64 d.stamp, .int .i64 d.lib, .slice a kn cap]] W fun e w' => Below W.heap.size W w' ∧ e = .returned (.tuple #[.string nm, .slice ra rn rc])) (hn0 : ¬ nm = bLibrary) (hn1 : ¬ nm = bNot) (hn2 : ¬ nm = bAnd) (hn : nm = bOr) (z : Int) (HM0 : ∀ W, Below w.heap.size w W → W.cell? ⟨w.heap.size, 0, none⟩ = some (.pointer (some ⟨pb, 0, none⟩)) → Calls Tryz.prog 149 #[.slice ra rn rc, .func (.func 151) #[] #[.pointer (some ⟨w.heap.size, 0, none⟩)]] W fun e w' => Below W.heap.size W w' ∧ e = .panicked (thrownL z)) :
 Calls Tryz.prog 133 #[.pointer (some ⟨pb, 0, none⟩), .agg #[.int .i64 d.kind, .int .i64 d.n, .string d.name, .int .i64 d.stamp, .int .i64 d.lib, .slice a kn cap]] w fun e w' => Below w.heap.size w w' ∧ e = .panicked (thrownL z) := by
 have c1 : (d.kind == 3) = false := by simpa using hk
 obtain ⟨W0, hw0, HB0, HQ, ⟨x0, x1, x2⟩, y0, y1, y2, y3, y4, y5⟩ := e133 d a kn cap hq1 hq2 hpl
 clear hk hq1 hq2 hpl
 have k0 : (nm.toList == bLibrary.toList) = false := beqS_ne hn0
 unfold bLibrary at k0
 have m0 : (nm.toList == [108, 105, 98, 114, 97, 114, 121]) = false := by simpa using k0
 have k1 : (nm.toList == bNot.toList) = false := beqS_ne hn1
 unfold bNot at k1
 have m1 : (nm.toList == [110, 111, 116]) = false := by simpa using k1
 have k2 : (nm.toList == bAnd.toList) = false := beqS_ne hn2
 unfold bAnd at k2
 have m2 : (nm.toList == [97, 110, 100]) = false := by simpa using k2
 have ke : (nm.toList == bOr.toList) = true := by rw [hn]; simp
 unfold bOr at ke
 have me : (nm.toList == [111, 114]) = true := by simpa using ke
 clear hn0 hn1 hn2 hn
 have HF := hidd HF0
 clear HF0
 have HM := hidd HM0
 clear HM0
 go_enter Tryz.func133, Tryz.ntmps133
 go_wp2_with fail
 refine (HF.out W0 HB0.out).mono ?_
 rintro e w1 ⟨hb1, rfl⟩
 obtain ⟨q0, q1, q2⟩ := HQ.out w1 hb1
 have HQ1 : Hid (w1.cell? ⟨w.heap.size, 0, none⟩ = some (.pointer (some ⟨pb, 0, none⟩)) ∧ w1.cell? ⟨pb, 2, none⟩ = some f3) := ⟨q0, q2⟩
 have HB1 : Hid (Below w.heap.size w w1) := HB0.out.trans (hb1.mono HB0.out.size)
 have HW1 : Hid (w.heap.size < w1.heap.size ∧ pb < w1.heap.size) := ⟨World.block_lt_of_cell? _ _ q0, World.block_lt_of_cell? _ _ q2⟩
 clear hb1 x0 x1 x2 y0 y1 y2 y3 y4 y5 hw0 HF
 go_wp2_with fail
 refine (HM.out _ HB1.out HQ1.out.1).mono ?_
 rintro e w2 ⟨hb2, rfl⟩
 have HB2 : Hid (Below w.heap.size w w2) := HB1.out.trans (hb2.mono HB1.out.size)
 clear hb2
 go_wp2_with fail
 exact ⟨rfl, HB2.out, rfl⟩
theorem holds_many151_ok (d : Dat) (a : Option Addr) (kn cap pb : Nat) (f2 f3 : Value) (w : World) (hq1 : w.cell? ⟨pb, 1, none⟩ = some f2) (hq2 : w.cell? ⟨pb, 2, none⟩ = some f3) (hpl : pb < w.heap.size) (hk : ¬ d.kind = 3) (nm : ByteArray) (ra : Option Addr) (rn rc : Nat) (HF0 : ∀ W, Below w.heap.size w W → Calls Tryz.prog 53 #[.agg #[.int .i64 d.kind, .int .i64 d.n, .string d.name, .int .i64 d.stamp, .int .i64 d.lib, .slice a kn cap]] W fun e w' => Below W.heap.size W w' ∧ e = .returned (.tuple #[.string nm, .slice ra rn rc])) (hn0 : ¬ nm = bLibrary) (hn1 : ¬ nm = bNot) (hn2 : ¬ nm = bAnd) (hn : nm = bOr) (r : Bool) (HM0 : ∀ W, Below w.heap.size w W → W.cell? ⟨w.heap.size, 0, none⟩ = some (.pointer (some ⟨pb, 0, none⟩)) → Calls Tryz.prog 149 #[.slice ra rn rc, .func (.func 151) #[] #[.pointer (some ⟨w.heap.size, 0, none⟩)]] W fun e w' => Below W.heap.size W w' ∧ e = .returned (.bool r)) :
 Calls Tryz.prog 133 #[.pointer (some ⟨pb, 0, none⟩), .agg #[.int .i64 d.kind, .int .i64 d.n, .string d.name, .int .i64 d.stamp, .int .i64 d.lib, .slice a kn cap]] w fun e w' => Below w.heap.size w w' ∧ e = .returned (.bool (r)) := by
 have c1 : (d.kind == 3) = false := by simpa using hk
 obtain ⟨W0, hw0, HB0, HQ, ⟨x0, x1, x2⟩, y0, y1, y2, y3, y4, y5⟩ := e133 d a kn cap hq1 hq2 hpl
 clear hk hq1 hq2 hpl
 have k0 : (nm.toList == bLibrary.toList) = false := beqS_ne hn0
 unfold bLibrary at k0
 have m0 : (nm.toList == [108, 105, 98, 114, 97, 114, 121]) = false := by simpa using k0
 have k1 : (nm.toList == bNot.toList) = false := beqS_ne hn1
 unfold bNot at k1
 have m1 : (nm.toList == [110, 111, 116]) = false := by simpa using k1
 have k2 : (nm.toList == bAnd.toList) = false := beqS_ne hn2
 unfold bAnd at k2
 have m2 : (nm.toList == [97, 110, 100]) = false := by simpa using k2
 have ke : (nm.toList == bOr.toList) = true := by rw [hn]; simp
 unfold bOr at ke
 have me : (nm.toList == [111, 114]) = true := by simpa using ke
 clear hn0 hn1 hn2 hn
 have HF := hidd HF0
 clear HF0
 have HM := hidd HM0
 clear HM0
 go_enter Tryz.func133, Tryz.ntmps133
 go_wp2_with fail
 refine (HF.out W0 HB0.out).mono ?_
 rintro e w1 ⟨hb1, rfl⟩
 obtain ⟨q0, q1, q2⟩ := HQ.out w1 hb1
 have HQ1 : Hid (w1.cell? ⟨w.heap.size, 0, none⟩ = some (.pointer (some ⟨pb, 0, none⟩)) ∧ w1.cell? ⟨pb, 2, none⟩ = some f3) := ⟨q0, q2⟩
 have HB1 : Hid (Below w.heap.size w w1) := HB0.out.trans (hb1.mono HB0.out.size)
 have HW1 : Hid (w.heap.size < w1.heap.size ∧ pb < w1.heap.size) := ⟨World.block_lt_of_cell? _ _ q0, World.block_lt_of_cell? _ _ q2⟩
 clear hb1 x0 x1 x2 y0 y1 y2 y3 y4 y5 hw0 HF
 go_wp2_with fail
 refine (HM.out _ HB1.out HQ1.out.1).mono ?_
 rintro e w2 ⟨hb2, rfl⟩
 have HB2 : Hid (Below w.heap.size w w2) := HB1.out.trans (hb2.mono HB1.out.size)
 clear hb2
 go_wp2_with fail
 go_ret
 exact ⟨HB2.out, rfl⟩
theorem holds_lib_no1 (d : Dat) (a : Option Addr) (kn cap pb : Nat) (f2 f3 : Value) (w : World) (hq1 : w.cell? ⟨pb, 1, none⟩ = some f2) (hq2 : w.cell? ⟨pb, 2, none⟩ = some f3) (hpl : pb < w.heap.size) (hk : ¬ d.kind = 3) (nm : ByteArray) (ra : Option Addr) (rn rc : Nat) (HF0 : ∀ W, Below w.heap.size w W → Calls Tryz.prog 53 #[.agg #[.int .i64 d.kind, .int .i64 d.n, .string d.name, .int .i64 d.stamp, .int .i64 d.lib, .slice a kn cap]] W fun e w' => Below W.heap.size W w' ∧ e = .returned (.tuple #[.string nm, .slice ra rn rc])) (hn : nm = bLibrary) (z : Int) (HO0 : ∀ W, Below w.heap.size w W → Calls Tryz.prog 144 #[.slice ra rn rc] W fun e w' => Below W.heap.size W w' ∧ e = .panicked (thrownL z)) :
 Calls Tryz.prog 133 #[.pointer (some ⟨pb, 0, none⟩), .agg #[.int .i64 d.kind, .int .i64 d.n, .string d.name, .int .i64 d.stamp, .int .i64 d.lib, .slice a kn cap]] w fun e w' => Below w.heap.size w w' ∧ e = .panicked (thrownL z) := by
 have c1 : (d.kind == 3) = false := by simpa using hk
 obtain ⟨W0, hw0, HB0, HQ, ⟨x0, x1, x2⟩, y0, y1, y2, y3, y4, y5⟩ := e133 d a kn cap hq1 hq2 hpl
 clear hk hq1 hq2 hpl
 have ke : (nm.toList == bLibrary.toList) = true := by rw [hn]; simp
 unfold bLibrary at ke
 have me : (nm.toList == [108, 105, 98, 114, 97, 114, 121]) = true := by simpa using ke
 clear hn
 have HF := hidd HF0
 clear HF0
 have HO := hidd HO0
 clear HO0
 go_enter Tryz.func133, Tryz.ntmps133
 go_wp2_with fail
 refine (HF.out W0 HB0.out).mono ?_
 rintro e w1 ⟨hb1, rfl⟩
 obtain ⟨q0, q1, q2⟩ := HQ.out w1 hb1
 have HQ1 : Hid (w1.cell? ⟨w.heap.size, 0, none⟩ = some (.pointer (some ⟨pb, 0, none⟩)) ∧ w1.cell? ⟨pb, 2, none⟩ = some f3) := ⟨q0, q2⟩
 have HB1 : Hid (Below w.heap.size w w1) := HB0.out.trans (hb1.mono HB0.out.size)
 have HW1 : Hid (w.heap.size < w1.heap.size ∧ pb < w1.heap.size) := ⟨World.block_lt_of_cell? _ _ q0, World.block_lt_of_cell? _ _ q2⟩
 clear hb1 x0 x1 x2 y0 y1 y2 y3 y4 y5 hw0 HF
 go_upto_region 6 with fail
 clear q0 q1 q2
 have BX_0 : Hid (Below w.heap.size w w1.drew) := HB1.out.drew
 refine wp_region_held_drew (S := (fun u => u.cell? ⟨w.heap.size, 0, none⟩ = some (.pointer (some ⟨pb, 0, none⟩)) ∧ u.cell? ⟨pb, 2, none⟩ = some f3)) (by kernel_rfl) (show (fun u => u.cell? ⟨w.heap.size, 0, none⟩ = some (.pointer (some ⟨pb, 0, none⟩)) ∧ u.cell? ⟨pb, 2, none⟩ = some f3) w1.drew from HQ1.out) (fun hS => ?_)
 refine tk 0 (.pointer (some ⟨pb, 0, none⟩)) rfl (Or.inl ⟨by rfl, fun u hu => by (obtain ⟨u1, u2⟩ := hu; go_simp)⟩) hS ?_
 simp only [Act.put, aP]
 refine tk 1 (.pointer (some ⟨pb, 0, none⟩)) rfl (Or.inl ⟨by rfl, fun u hu => by go_simp⟩) hS ?_
 simp only [Act.put, aP]
 refine tk 2 (.pointer (some ⟨pb, 2, none⟩)) rfl (Or.inl ⟨by rfl, fun u hu => by go_simp⟩) hS ?_
 simp only [Act.put, aP]
 refine tk 3 (f3) rfl (Or.inl ⟨by rfl, fun u hu => by (obtain ⟨u1, u2⟩ := hu; go_simp)⟩) hS ?_
 simp only [Act.put, aP]
 refine tk 4 (.slice ra rn rc) rfl (Or.inl ⟨by rfl, fun u hu => by go_simp⟩) hS ?_
 simp only [Act.put, aP]
 refine rdy [5] (.cons rfl (fun K hK => ?_) .nil)
 go_simp
 refine (HO.out (w1.drew) BX_0.out).mono ?_
 rintro e W1 ⟨hb1, rfl⟩
 have HBF : Hid (Below w.heap.size w W1) := BX_0.out.trans (hb1.mono BX_0.out.size)
 clear hb1
 go_wp2_with fail
 exact ⟨rfl, HBF.out, rfl⟩
theorem holds_lib_no2 (d : Dat) (a : Option Addr) (kn cap pb : Nat) (f2 f3 : Value) (w : World) (hq1 : w.cell? ⟨pb, 1, none⟩ = some f2) (hq2 : w.cell? ⟨pb, 2, none⟩ = some f3) (hpl : pb < w.heap.size) (hk : ¬ d.kind = 3) (nm : ByteArray) (ra : Option Addr) (rn rc : Nat) (HF0 : ∀ W, Below w.heap.size w W → Calls Tryz.prog 53 #[.agg #[.int .i64 d.kind, .int .i64 d.n, .string d.name, .int .i64 d.stamp, .int .i64 d.lib, .slice a kn cap]] W fun e w' => Below W.heap.size W w' ∧ e = .returned (.tuple #[.string nm, .slice ra rn rc])) (hn : nm = bLibrary) (x : Dat) (xa : Option Addr) (xn xc : Nat) (HO0 : ∀ W, Below w.heap.size w W → Calls Tryz.prog 144 #[.slice ra rn rc] W fun e w' => Below W.heap.size W w' ∧ e = .returned (.agg #[.int .i64 x.kind, .int .i64 x.n, .string x.name, .int .i64 x.stamp, .int .i64 x.lib, .slice xa xn xc])) (z : Int) (HD0 : ∀ W, Below w.heap.size w W → Calls Tryz.prog 55 #[.agg #[.int .i64 x.kind, .int .i64 x.n, .string x.name, .int .i64 x.stamp, .int .i64 x.lib, .slice xa xn xc]] W fun e w' => Below W.heap.size W w' ∧ e = .panicked (thrownL z)) :
 Calls Tryz.prog 133 #[.pointer (some ⟨pb, 0, none⟩), .agg #[.int .i64 d.kind, .int .i64 d.n, .string d.name, .int .i64 d.stamp, .int .i64 d.lib, .slice a kn cap]] w fun e w' => Below w.heap.size w w' ∧ e = .panicked (thrownL z) := by
 have c1 : (d.kind == 3) = false := by simpa using hk
 obtain ⟨W0, hw0, HB0, HQ, ⟨x0, x1, x2⟩, y0, y1, y2, y3, y4, y5⟩ := e133 d a kn cap hq1 hq2 hpl
 clear hk hq1 hq2 hpl
 have ke : (nm.toList == bLibrary.toList) = true := by rw [hn]; simp
 unfold bLibrary at ke
 have me : (nm.toList == [108, 105, 98, 114, 97, 114, 121]) = true := by simpa using ke
 clear hn
 have HF := hidd HF0
 clear HF0
 have HO := hidd HO0
 clear HO0
 have HD := hidd HD0
 clear HD0
 go_enter Tryz.func133, Tryz.ntmps133
 go_wp2_with fail
 refine (HF.out W0 HB0.out).mono ?_
 rintro e w1 ⟨hb1, rfl⟩
 obtain ⟨q0, q1, q2⟩ := HQ.out w1 hb1
 have HQ1 : Hid (w1.cell? ⟨w.heap.size, 0, none⟩ = some (.pointer (some ⟨pb, 0, none⟩)) ∧ w1.cell? ⟨pb, 2, none⟩ = some f3) := ⟨q0, q2⟩
 have HB1 : Hid (Below w.heap.size w w1) := HB0.out.trans (hb1.mono HB0.out.size)
 have HW1 : Hid (w.heap.size < w1.heap.size ∧ pb < w1.heap.size) := ⟨World.block_lt_of_cell? _ _ q0, World.block_lt_of_cell? _ _ q2⟩
 clear hb1 x0 x1 x2 y0 y1 y2 y3 y4 y5 hw0 HF
 go_upto_region 6 with fail
 clear q0 q1 q2
 have BX_0 : Hid (Below w.heap.size w w1.drew) := HB1.out.drew
 refine wp_region_held_drew (S := (fun u => u.cell? ⟨w.heap.size, 0, none⟩ = some (.pointer (some ⟨pb, 0, none⟩)) ∧ u.cell? ⟨pb, 2, none⟩ = some f3)) (by kernel_rfl) (show (fun u => u.cell? ⟨w.heap.size, 0, none⟩ = some (.pointer (some ⟨pb, 0, none⟩)) ∧ u.cell? ⟨pb, 2, none⟩ = some f3) w1.drew from HQ1.out) (fun hS => ?_)
 refine tk 0 (.pointer (some ⟨pb, 0, none⟩)) rfl (Or.inl ⟨by rfl, fun u hu => by (obtain ⟨u1, u2⟩ := hu; go_simp)⟩) hS ?_
 simp only [Act.put, aP]
 refine tk 1 (.pointer (some ⟨pb, 0, none⟩)) rfl (Or.inl ⟨by rfl, fun u hu => by go_simp⟩) hS ?_
 simp only [Act.put, aP]
 refine tk 2 (.pointer (some ⟨pb, 2, none⟩)) rfl (Or.inl ⟨by rfl, fun u hu => by go_simp⟩) hS ?_
 simp only [Act.put, aP]
 refine tk 3 (f3) rfl (Or.inl ⟨by rfl, fun u hu => by (obtain ⟨u1, u2⟩ := hu; go_simp)⟩) hS ?_
 simp only [Act.put, aP]
 refine tk 4 (.slice ra rn rc) rfl (Or.inl ⟨by rfl, fun u hu => by go_simp⟩) hS ?_
 simp only [Act.put, aP]
 refine rdy [5] (.cons rfl (fun K hK => ?_) .nil)
 go_simp
 refine (HO.out (w1.drew) BX_0.out).mono ?_
 rintro e W1 ⟨hb1, rfl⟩
 have BX_1 : Hid (Below w.heap.size w W1) := BX_0.out.trans (hb1.mono BX_0.out.size)
 have hS1 : (fun u => u.cell? ⟨w.heap.size, 0, none⟩ = some (.pointer (some ⟨pb, 0, none⟩)) ∧ u.cell? ⟨pb, 2, none⟩ = some f3) W1 := ⟨(hb1.cell (p := ⟨w.heap.size, 0, none⟩) (World.block_lt_of_cell? _ _ hS.1)).trans hS.1, (hb1.cell (p := ⟨pb, 2, none⟩) (World.block_lt_of_cell? _ _ hS.2)).trans hS.2⟩
 clear hb1
 show K _ W1
 refine hK.out _ _ hS1 (fun hS => ?_)
 clear hK K
 refine rdy [6] (.cons rfl (fun K hK => ?_) .nil)
 go_simp
 refine (HD.out (W1) BX_1.out).mono ?_
 rintro e W2 ⟨hb2, rfl⟩
 have HBF : Hid (Below w.heap.size w W2) := BX_1.out.trans (hb2.mono BX_1.out.size)
 clear hb2
 go_wp2_with fail
 exact ⟨rfl, HBF.out, rfl⟩
theorem holds_lib_ok (d : Dat) (a : Option Addr) (kn cap pb : Nat) (f2 f3 : Value) (w : World) (hq1 : w.cell? ⟨pb, 1, none⟩ = some f2) (hq2 : w.cell? ⟨pb, 2, none⟩ = some f3) (hpl : pb < w.heap.size) (hk : ¬ d.kind = 3) (nm : ByteArray) (ra : Option Addr) (rn rc : Nat) (HF0 : ∀ W, Below w.heap.size w W → Calls Tryz.prog 53 #[.agg #[.int .i64 d.kind, .int .i64 d.n, .string d.name, .int .i64 d.stamp, .int .i64 d.lib, .slice a kn cap]] W fun e w' => Below W.heap.size W w' ∧ e = .returned (.tuple #[.string nm, .slice ra rn rc])) (hn : nm = bLibrary) (x : Dat) (xa : Option Addr) (xn xc : Nat) (HO0 : ∀ W, Below w.heap.size w W → Calls Tryz.prog 144 #[.slice ra rn rc] W fun e w' => Below W.heap.size W w' ∧ e = .returned (.agg #[.int .i64 x.kind, .int .i64 x.n, .string x.name, .int .i64 x.stamp, .int .i64 x.lib, .slice xa xn xc])) (s : ByteArray) (HD0 : ∀ W, Below w.heap.size w W → Calls Tryz.prog 55 #[.agg #[.int .i64 x.kind, .int .i64 x.n, .string x.name, .int .i64 x.stamp, .int .i64 x.lib, .slice xa xn xc]] W fun e w' => Below W.heap.size W w' ∧ e = .returned (.string s)) (r : Bool) (HC0 : ∀ W, Below w.heap.size w W → Calls Tryz.prog 148 #[f3, .string s] W fun e w' => e = .returned (.bool r) ∧ w' = W) :
 Calls Tryz.prog 133 #[.pointer (some ⟨pb, 0, none⟩), .agg #[.int .i64 d.kind, .int .i64 d.n, .string d.name, .int .i64 d.stamp, .int .i64 d.lib, .slice a kn cap]] w fun e w' => Below w.heap.size w w' ∧ e = .returned (.bool r) := by
 have c1 : (d.kind == 3) = false := by simpa using hk
 obtain ⟨W0, hw0, HB0, HQ, ⟨x0, x1, x2⟩, y0, y1, y2, y3, y4, y5⟩ := e133 d a kn cap hq1 hq2 hpl
 clear hk hq1 hq2 hpl
 have ke : (nm.toList == bLibrary.toList) = true := by rw [hn]; simp
 unfold bLibrary at ke
 have me : (nm.toList == [108, 105, 98, 114, 97, 114, 121]) = true := by simpa using ke
 clear hn
 have HF := hidd HF0
 clear HF0
 have HO := hidd HO0
 clear HO0
 have HD := hidd HD0
 clear HD0
 have HC := hidd HC0
 clear HC0
 go_enter Tryz.func133, Tryz.ntmps133
 go_wp2_with fail
 refine (HF.out W0 HB0.out).mono ?_
 rintro e w1 ⟨hb1, rfl⟩
 obtain ⟨q0, q1, q2⟩ := HQ.out w1 hb1
 have HQ1 : Hid (w1.cell? ⟨w.heap.size, 0, none⟩ = some (.pointer (some ⟨pb, 0, none⟩)) ∧ w1.cell? ⟨pb, 2, none⟩ = some f3) := ⟨q0, q2⟩
 have HB1 : Hid (Below w.heap.size w w1) := HB0.out.trans (hb1.mono HB0.out.size)
 have HW1 : Hid (w.heap.size < w1.heap.size ∧ pb < w1.heap.size) := ⟨World.block_lt_of_cell? _ _ q0, World.block_lt_of_cell? _ _ q2⟩
 clear hb1 x0 x1 x2 y0 y1 y2 y3 y4 y5 hw0 HF
 go_upto_region 6 with fail
 clear q0 q1 q2
 have BX_0 : Hid (Below w.heap.size w w1.drew) := HB1.out.drew
 refine wp_region_held_drew (S := (fun u => u.cell? ⟨w.heap.size, 0, none⟩ = some (.pointer (some ⟨pb, 0, none⟩)) ∧ u.cell? ⟨pb, 2, none⟩ = some f3)) (by kernel_rfl) (show (fun u => u.cell? ⟨w.heap.size, 0, none⟩ = some (.pointer (some ⟨pb, 0, none⟩)) ∧ u.cell? ⟨pb, 2, none⟩ = some f3) w1.drew from HQ1.out) (fun hS => ?_)
 refine tk 0 (.pointer (some ⟨pb, 0, none⟩)) rfl (Or.inl ⟨by rfl, fun u hu => by (obtain ⟨u1, u2⟩ := hu; go_simp)⟩) hS ?_
 simp only [Act.put, aP]
 refine tk 1 (.pointer (some ⟨pb, 0, none⟩)) rfl (Or.inl ⟨by rfl, fun u hu => by go_simp⟩) hS ?_
 simp only [Act.put, aP]
 refine tk 2 (.pointer (some ⟨pb, 2, none⟩)) rfl (Or.inl ⟨by rfl, fun u hu => by go_simp⟩) hS ?_
 simp only [Act.put, aP]
 refine tk 3 (f3) rfl (Or.inl ⟨by rfl, fun u hu => by (obtain ⟨u1, u2⟩ := hu; go_simp)⟩) hS ?_
 simp only [Act.put, aP]
 refine tk 4 (.slice ra rn rc) rfl (Or.inl ⟨by rfl, fun u hu => by go_simp⟩) hS ?_
 simp only [Act.put, aP]
 refine rdy [5] (.cons rfl (fun K hK => ?_) .nil)
 go_simp
 refine (HO.out (w1.drew) BX_0.out).mono ?_
 rintro e W1 ⟨hb1, rfl⟩
 have BX_1 : Hid (Below w.heap.size w W1) := BX_0.out.trans (hb1.mono BX_0.out.size)
 have hS1 : (fun u => u.cell? ⟨w.heap.size, 0, none⟩ = some (.pointer (some ⟨pb, 0, none⟩)) ∧ u.cell? ⟨pb, 2, none⟩ = some f3) W1 := ⟨(hb1.cell (p := ⟨w.heap.size, 0, none⟩) (World.block_lt_of_cell? _ _ hS.1)).trans hS.1, (hb1.cell (p := ⟨pb, 2, none⟩) (World.block_lt_of_cell? _ _ hS.2)).trans hS.2⟩
 clear hb1
 show K _ W1
 refine hK.out _ _ hS1 (fun hS => ?_)
 clear hK K
 refine rdy [6] (.cons rfl (fun K hK => ?_) .nil)
 go_simp
 refine (HD.out (W1) BX_1.out).mono ?_
 rintro e W2 ⟨hb2, rfl⟩
 have BX_2 : Hid (Below w.heap.size w W2) := BX_1.out.trans (hb2.mono BX_1.out.size)
 have hS2 : (fun u => u.cell? ⟨w.heap.size, 0, none⟩ = some (.pointer (some ⟨pb, 0, none⟩)) ∧ u.cell? ⟨pb, 2, none⟩ = some f3) W2 := ⟨(hb2.cell (p := ⟨w.heap.size, 0, none⟩) (World.block_lt_of_cell? _ _ hS.1)).trans hS.1, (hb2.cell (p := ⟨pb, 2, none⟩) (World.block_lt_of_cell? _ _ hS.2)).trans hS.2⟩
 clear hb2
 show K _ W2
 refine hK.out _ _ hS2 (fun hS => ?_)
 clear hK K
 refine rdy [7] (.cons rfl (fun K hK => ?_) .nil)
 go_simp
 refine (HC.out (W2) BX_2.out).mono ?_
 rintro e W9 ⟨rfl, rfl⟩
 show K _ W9
 refine hK.out _ _ hS (fun hS => ?_)
 clear hK K
 refine tk 8 (.bool r) rfl (Or.inl ⟨by rfl, fun u hu => by go_simp⟩) hS ?_
 simp only [Act.put, aP]
 refine wpAnyH_done (by kernel_rfl) ?_ _
 go_wp2_with fail
 go_ret
 exact ⟨BX_2.out, rfl⟩
theorem holds_not_no1 (d : Dat) (a : Option Addr) (kn cap pb : Nat) (f2 f3 : Value) (w : World) (hq1 : w.cell? ⟨pb, 1, none⟩ = some f2) (hq2 : w.cell? ⟨pb, 2, none⟩ = some f3) (hpl : pb < w.heap.size) (hk : ¬ d.kind = 3) (nm : ByteArray) (ra : Option Addr) (rn rc : Nat) (HF0 : ∀ W, Below w.heap.size w W → Calls Tryz.prog 53 #[.agg #[.int .i64 d.kind, .int .i64 d.n, .string d.name, .int .i64 d.stamp, .int .i64 d.lib, .slice a kn cap]] W fun e w' => Below W.heap.size W w' ∧ e = .returned (.tuple #[.string nm, .slice ra rn rc])) (hn0 : ¬ nm = bLibrary) (hn : nm = bNot) (z : Int) (HO0 : ∀ W, Below w.heap.size w W → Calls Tryz.prog 144 #[.slice ra rn rc] W fun e w' => Below W.heap.size W w' ∧ e = .panicked (thrownL z)) :
 Calls Tryz.prog 133 #[.pointer (some ⟨pb, 0, none⟩), .agg #[.int .i64 d.kind, .int .i64 d.n, .string d.name, .int .i64 d.stamp, .int .i64 d.lib, .slice a kn cap]] w fun e w' => Below w.heap.size w w' ∧ e = .panicked (thrownL z) := by
 have c1 : (d.kind == 3) = false := by simpa using hk
 obtain ⟨W0, hw0, HB0, HQ, ⟨x0, x1, x2⟩, y0, y1, y2, y3, y4, y5⟩ := e133 d a kn cap hq1 hq2 hpl
 clear hk hq1 hq2 hpl
 have k0 : (nm.toList == bLibrary.toList) = false := beqS_ne hn0
 unfold bLibrary at k0
 have m0 : (nm.toList == [108, 105, 98, 114, 97, 114, 121]) = false := by simpa using k0
 have ke : (nm.toList == bNot.toList) = true := by rw [hn]; simp
 unfold bNot at ke
 have me : (nm.toList == [110, 111, 116]) = true := by simpa using ke
 clear hn0 hn
 have HF := hidd HF0
 clear HF0
 have HO := hidd HO0
 clear HO0
 go_enter Tryz.func133, Tryz.ntmps133
 go_wp2_with fail
 refine (HF.out W0 HB0.out).mono ?_
 rintro e w1 ⟨hb1, rfl⟩
 obtain ⟨q0, q1, q2⟩ := HQ.out w1 hb1
 have HQ1 : Hid (w1.cell? ⟨w.heap.size, 0, none⟩ = some (.pointer (some ⟨pb, 0, none⟩)) ∧ w1.cell? ⟨pb, 2, none⟩ = some f3) := ⟨q0, q2⟩
 have HB1 : Hid (Below w.heap.size w w1) := HB0.out.trans (hb1.mono HB0.out.size)
 have HW1 : Hid (w.heap.size < w1.heap.size ∧ pb < w1.heap.size) := ⟨World.block_lt_of_cell? _ _ q0, World.block_lt_of_cell? _ _ q2⟩
 clear hb1 x0 x1 x2 y0 y1 y2 y3 y4 y5 hw0 HF
 go_upto_region 8 with fail
 clear q0 q1 q2
 have BX_0 : Hid (Below w.heap.size w w1.drew) := HB1.out.drew
 refine wp_region_held_drew (S := (fun u => u.cell? ⟨w.heap.size, 0, none⟩ = some (.pointer (some ⟨pb, 0, none⟩)) ∧ u.cell? ⟨pb, 2, none⟩ = some f3)) (by kernel_rfl) (show (fun u => u.cell? ⟨w.heap.size, 0, none⟩ = some (.pointer (some ⟨pb, 0, none⟩)) ∧ u.cell? ⟨pb, 2, none⟩ = some f3) w1.drew from HQ1.out) (fun hS => ?_)
 refine tk 0 (.pointer (some ⟨pb, 0, none⟩)) rfl (Or.inl ⟨by rfl, fun u hu => by (obtain ⟨u1, u2⟩ := hu; go_simp)⟩) hS ?_
 simp only [Act.put, aP]
 refine tk 1 (.slice ra rn rc) rfl (Or.inl ⟨by rfl, fun u hu => by go_simp⟩) hS ?_
 simp only [Act.put, aP]
 refine rdy [2] (.cons rfl (fun K hK => ?_) .nil)
 go_simp
 refine (HO.out (w1.drew) BX_0.out).mono ?_
 rintro e W1 ⟨hb1, rfl⟩
 have HBF : Hid (Below w.heap.size w W1) := BX_0.out.trans (hb1.mono BX_0.out.size)
 clear hb1
 go_wp2_with fail
 exact ⟨rfl, HBF.out, rfl⟩
theorem holds_not_no2 (d : Dat) (a : Option Addr) (kn cap pb : Nat) (f2 f3 : Value) (w : World) (hq1 : w.cell? ⟨pb, 1, none⟩ = some f2) (hq2 : w.cell? ⟨pb, 2, none⟩ = some f3) (hpl : pb < w.heap.size) (hk : ¬ d.kind = 3) (nm : ByteArray) (ra : Option Addr) (rn rc : Nat) (HF0 : ∀ W, Below w.heap.size w W → Calls Tryz.prog 53 #[.agg #[.int .i64 d.kind, .int .i64 d.n, .string d.name, .int .i64 d.stamp, .int .i64 d.lib, .slice a kn cap]] W fun e w' => Below W.heap.size W w' ∧ e = .returned (.tuple #[.string nm, .slice ra rn rc])) (hn0 : ¬ nm = bLibrary) (hn : nm = bNot) (x : Dat) (xa : Option Addr) (xn xc : Nat) (HO0 : ∀ W, Below w.heap.size w W → Calls Tryz.prog 144 #[.slice ra rn rc] W fun e w' => Below W.heap.size W w' ∧ e = .returned (.agg #[.int .i64 x.kind, .int .i64 x.n, .string x.name, .int .i64 x.stamp, .int .i64 x.lib, .slice xa xn xc])) (z : Int) (HD0 : ∀ W, Below w.heap.size w W → Calls Tryz.prog 133 #[.pointer (some ⟨pb, 0, none⟩), .agg #[.int .i64 x.kind, .int .i64 x.n, .string x.name, .int .i64 x.stamp, .int .i64 x.lib, .slice xa xn xc]] W fun e w' => Below W.heap.size W w' ∧ e = .panicked (thrownL z)) :
 Calls Tryz.prog 133 #[.pointer (some ⟨pb, 0, none⟩), .agg #[.int .i64 d.kind, .int .i64 d.n, .string d.name, .int .i64 d.stamp, .int .i64 d.lib, .slice a kn cap]] w fun e w' => Below w.heap.size w w' ∧ e = .panicked (thrownL z) := by
 have c1 : (d.kind == 3) = false := by simpa using hk
 obtain ⟨W0, hw0, HB0, HQ, ⟨x0, x1, x2⟩, y0, y1, y2, y3, y4, y5⟩ := e133 d a kn cap hq1 hq2 hpl
 clear hk hq1 hq2 hpl
 have k0 : (nm.toList == bLibrary.toList) = false := beqS_ne hn0
 unfold bLibrary at k0
 have m0 : (nm.toList == [108, 105, 98, 114, 97, 114, 121]) = false := by simpa using k0
 have ke : (nm.toList == bNot.toList) = true := by rw [hn]; simp
 unfold bNot at ke
 have me : (nm.toList == [110, 111, 116]) = true := by simpa using ke
 clear hn0 hn
 have HF := hidd HF0
 clear HF0
 have HO := hidd HO0
 clear HO0
 have HD := hidd HD0
 clear HD0
 go_enter Tryz.func133, Tryz.ntmps133
 go_wp2_with fail
 refine (HF.out W0 HB0.out).mono ?_
 rintro e w1 ⟨hb1, rfl⟩
 obtain ⟨q0, q1, q2⟩ := HQ.out w1 hb1
 have HQ1 : Hid (w1.cell? ⟨w.heap.size, 0, none⟩ = some (.pointer (some ⟨pb, 0, none⟩)) ∧ w1.cell? ⟨pb, 2, none⟩ = some f3) := ⟨q0, q2⟩
 have HB1 : Hid (Below w.heap.size w w1) := HB0.out.trans (hb1.mono HB0.out.size)
 have HW1 : Hid (w.heap.size < w1.heap.size ∧ pb < w1.heap.size) := ⟨World.block_lt_of_cell? _ _ q0, World.block_lt_of_cell? _ _ q2⟩
 clear hb1 x0 x1 x2 y0 y1 y2 y3 y4 y5 hw0 HF
 go_upto_region 8 with fail
 clear q0 q1 q2
 have BX_0 : Hid (Below w.heap.size w w1.drew) := HB1.out.drew
 refine wp_region_held_drew (S := (fun u => u.cell? ⟨w.heap.size, 0, none⟩ = some (.pointer (some ⟨pb, 0, none⟩)) ∧ u.cell? ⟨pb, 2, none⟩ = some f3)) (by kernel_rfl) (show (fun u => u.cell? ⟨w.heap.size, 0, none⟩ = some (.pointer (some ⟨pb, 0, none⟩)) ∧ u.cell? ⟨pb, 2, none⟩ = some f3) w1.drew from HQ1.out) (fun hS => ?_)
 refine tk 0 (.pointer (some ⟨pb, 0, none⟩)) rfl (Or.inl ⟨by rfl, fun u hu => by (obtain ⟨u1, u2⟩ := hu; go_simp)⟩) hS ?_
 simp only [Act.put, aP]
 refine tk 1 (.slice ra rn rc) rfl (Or.inl ⟨by rfl, fun u hu => by go_simp⟩) hS ?_
 simp only [Act.put, aP]
 refine rdy [2] (.cons rfl (fun K hK => ?_) .nil)
 go_simp
 refine (HO.out (w1.drew) BX_0.out).mono ?_
 rintro e W1 ⟨hb1, rfl⟩
 have BX_1 : Hid (Below w.heap.size w W1) := BX_0.out.trans (hb1.mono BX_0.out.size)
 have hS1 : (fun u => u.cell? ⟨w.heap.size, 0, none⟩ = some (.pointer (some ⟨pb, 0, none⟩)) ∧ u.cell? ⟨pb, 2, none⟩ = some f3) W1 := ⟨(hb1.cell (p := ⟨w.heap.size, 0, none⟩) (World.block_lt_of_cell? _ _ hS.1)).trans hS.1, (hb1.cell (p := ⟨pb, 2, none⟩) (World.block_lt_of_cell? _ _ hS.2)).trans hS.2⟩
 clear hb1
 show K _ W1
 refine hK.out _ _ hS1 (fun hS => ?_)
 clear hK K
 refine rdy [3] (.cons rfl (fun K hK => ?_) .nil)
 go_simp
 refine (HD.out (W1) BX_1.out).mono ?_
 rintro e W2 ⟨hb2, rfl⟩
 have HBF : Hid (Below w.heap.size w W2) := BX_1.out.trans (hb2.mono BX_1.out.size)
 clear hb2
 go_wp2_with fail
 exact ⟨rfl, HBF.out, rfl⟩
theorem holds_not_ok (d : Dat) (a : Option Addr) (kn cap pb : Nat) (f2 f3 : Value) (w : World) (hq1 : w.cell? ⟨pb, 1, none⟩ = some f2) (hq2 : w.cell? ⟨pb, 2, none⟩ = some f3) (hpl : pb < w.heap.size) (hk : ¬ d.kind = 3) (nm : ByteArray) (ra : Option Addr) (rn rc : Nat) (HF0 : ∀ W, Below w.heap.size w W → Calls Tryz.prog 53 #[.agg #[.int .i64 d.kind, .int .i64 d.n, .string d.name, .int .i64 d.stamp, .int .i64 d.lib, .slice a kn cap]] W fun e w' => Below W.heap.size W w' ∧ e = .returned (.tuple #[.string nm, .slice ra rn rc])) (hn0 : ¬ nm = bLibrary) (hn : nm = bNot) (x : Dat) (xa : Option Addr) (xn xc : Nat) (HO0 : ∀ W, Below w.heap.size w W → Calls Tryz.prog 144 #[.slice ra rn rc] W fun e w' => Below W.heap.size W w' ∧ e = .returned (.agg #[.int .i64 x.kind, .int .i64 x.n, .string x.name, .int .i64 x.stamp, .int .i64 x.lib, .slice xa xn xc])) (r : Bool) (HD0 : ∀ W, Below w.heap.size w W → Calls Tryz.prog 133 #[.pointer (some ⟨pb, 0, none⟩), .agg #[.int .i64 x.kind, .int .i64 x.n, .string x.name, .int .i64 x.stamp, .int .i64 x.lib, .slice xa xn xc]] W fun e w' => Below W.heap.size W w' ∧ e = .returned (.bool r)) :
 Calls Tryz.prog 133 #[.pointer (some ⟨pb, 0, none⟩), .agg #[.int .i64 d.kind, .int .i64 d.n, .string d.name, .int .i64 d.stamp, .int .i64 d.lib, .slice a kn cap]] w fun e w' => Below w.heap.size w w' ∧ e = .returned (.bool (!r)) := by
 have c1 : (d.kind == 3) = false := by simpa using hk
 obtain ⟨W0, hw0, HB0, HQ, ⟨x0, x1, x2⟩, y0, y1, y2, y3, y4, y5⟩ := e133 d a kn cap hq1 hq2 hpl
 clear hk hq1 hq2 hpl
 have k0 : (nm.toList == bLibrary.toList) = false := beqS_ne hn0
 unfold bLibrary at k0
 have m0 : (nm.toList == [108, 105, 98, 114, 97, 114, 121]) = false := by simpa using k0
 have ke : (nm.toList == bNot.toList) = true := by rw [hn]; simp
 unfold bNot at ke
 have me : (nm.toList == [110, 111, 116]) = true := by simpa using ke
 clear hn0 hn
 have HF := hidd HF0
 clear HF0
 have HO := hidd HO0
 clear HO0
 have HD := hidd HD0
 clear HD0
 go_enter Tryz.func133, Tryz.ntmps133
 go_wp2_with fail
 refine (HF.out W0 HB0.out).mono ?_
 rintro e w1 ⟨hb1, rfl⟩
 obtain ⟨q0, q1, q2⟩ := HQ.out w1 hb1
 have HQ1 : Hid (w1.cell? ⟨w.heap.size, 0, none⟩ = some (.pointer (some ⟨pb, 0, none⟩)) ∧ w1.cell? ⟨pb, 2, none⟩ = some f3) := ⟨q0, q2⟩
 have HB1 : Hid (Below w.heap.size w w1) := HB0.out.trans (hb1.mono HB0.out.size)
 have HW1 : Hid (w.heap.size < w1.heap.size ∧ pb < w1.heap.size) := ⟨World.block_lt_of_cell? _ _ q0, World.block_lt_of_cell? _ _ q2⟩
 clear hb1 x0 x1 x2 y0 y1 y2 y3 y4 y5 hw0 HF
 go_upto_region 8 with fail
 clear q0 q1 q2
 have BX_0 : Hid (Below w.heap.size w w1.drew) := HB1.out.drew
 refine wp_region_held_drew (S := (fun u => u.cell? ⟨w.heap.size, 0, none⟩ = some (.pointer (some ⟨pb, 0, none⟩)) ∧ u.cell? ⟨pb, 2, none⟩ = some f3)) (by kernel_rfl) (show (fun u => u.cell? ⟨w.heap.size, 0, none⟩ = some (.pointer (some ⟨pb, 0, none⟩)) ∧ u.cell? ⟨pb, 2, none⟩ = some f3) w1.drew from HQ1.out) (fun hS => ?_)
 refine tk 0 (.pointer (some ⟨pb, 0, none⟩)) rfl (Or.inl ⟨by rfl, fun u hu => by (obtain ⟨u1, u2⟩ := hu; go_simp)⟩) hS ?_
 simp only [Act.put, aP]
 refine tk 1 (.slice ra rn rc) rfl (Or.inl ⟨by rfl, fun u hu => by go_simp⟩) hS ?_
 simp only [Act.put, aP]
 refine rdy [2] (.cons rfl (fun K hK => ?_) .nil)
 go_simp
 refine (HO.out (w1.drew) BX_0.out).mono ?_
 rintro e W1 ⟨hb1, rfl⟩
 have BX_1 : Hid (Below w.heap.size w W1) := BX_0.out.trans (hb1.mono BX_0.out.size)
 have hS1 : (fun u => u.cell? ⟨w.heap.size, 0, none⟩ = some (.pointer (some ⟨pb, 0, none⟩)) ∧ u.cell? ⟨pb, 2, none⟩ = some f3) W1 := ⟨(hb1.cell (p := ⟨w.heap.size, 0, none⟩) (World.block_lt_of_cell? _ _ hS.1)).trans hS.1, (hb1.cell (p := ⟨pb, 2, none⟩) (World.block_lt_of_cell? _ _ hS.2)).trans hS.2⟩
 clear hb1
 show K _ W1
 refine hK.out _ _ hS1 (fun hS => ?_)
 clear hK K
 refine rdy [3] (.cons rfl (fun K hK => ?_) .nil)
 go_simp
 refine (HD.out (W1) BX_1.out).mono ?_
 rintro e W2 ⟨hb2, rfl⟩
 have BX_2 : Hid (Below w.heap.size w W2) := BX_1.out.trans (hb2.mono BX_1.out.size)
 have hS2 : (fun u => u.cell? ⟨w.heap.size, 0, none⟩ = some (.pointer (some ⟨pb, 0, none⟩)) ∧ u.cell? ⟨pb, 2, none⟩ = some f3) W2 := ⟨(hb2.cell (p := ⟨w.heap.size, 0, none⟩) (World.block_lt_of_cell? _ _ hS.1)).trans hS.1, (hb2.cell (p := ⟨pb, 2, none⟩) (World.block_lt_of_cell? _ _ hS.2)).trans hS.2⟩
 clear hb2
 show K _ W2
 refine hK.out _ _ hS2 (fun hS => ?_)
 clear hK K
 refine tk 4 (.bool (!r)) rfl (Or.inl ⟨by rfl, fun u hu => by go_simp⟩) hS ?_
 simp only [Act.put, aP]
 refine tk 5 (.bool (!r)) rfl (Or.inl ⟨by rfl, fun u hu => by go_simp⟩) hS ?_
 simp only [Act.put, aP]
 refine wpAnyH_done (by kernel_rfl) ?_ _
 go_wp2_with fail
 go_ret
 exact ⟨BX_2.out, rfl⟩
end Go.Proofs.YtonafbennobgdaaGreatDoor
