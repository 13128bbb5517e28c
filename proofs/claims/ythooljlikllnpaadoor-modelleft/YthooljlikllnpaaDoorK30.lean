/- Chapter 7: package model: one part is run, its value not known ahead; Run, with any steps. -/
import Derived.Test.YthooljlikllnpaaDoorK29
namespace Go.Proofs.YthooljlikllnpaaDoor
set_option linter.unusedVariables false
set_option linter.unusedSimpArgs false
open Go.RowKit

set_option maxRecDepth 100000 in
set_option maxHeartbeats 3200000 in
theorem run_oneV (rb pb po pcap cb co ccap : Nat) (nm : ByteArray) (R : World → Prop) (w : World)
    (hrb : rb < w.heap.size) (k0 : w.cell? ⟨pb, po, none⟩ = some (.string nm)) (k1 : w.cell? ⟨pb, po + 1, none⟩ = some (.slice (some ⟨cb, co, none⟩) 1 ccap)) (hpb : pb < w.heap.size)
    (hst : ∀ (N : Nat) (y z : Int) (W : World), W.cell? ⟨N, 0, none⟩ = some (.int .i64 y) → N ≠ rb → R W → R (W.setCell ⟨N, 0, none⟩ (.int .i64 z)))
    (EV : ∀ (W : World) (fr : Value), Below w.heap.size w W → Calls Tryd.prog 28 #[.pointer (some ⟨rb, 0, none⟩), .pointer (some ⟨cb, co, none⟩), fr] W (EvV rb (fun _ _ => R) W)) :
    Calls Tryd.prog 21 #[.pointer (some ⟨rb, 0, none⟩), .slice (some ⟨pb, po, none⟩) 1 pcap] w fun e w' => e = .returned (.int .i64 1) ∧ Keep rb w w' ∧ R w' := by
  have hmf : ∀ (fn : Fn) (first cap : Array Value) (w : World), (Instr.makeFunc fn first cap).run Tryd.prog w = .ok (.func fn first cap) w := fun _ _ _ _ => rfl
  have HEV := hidd EV
  have HST := hidd hst
  clear EV hst
  have BB : Hid (Below w.heap.size w (((w.alloc (.cells #[.int .i64 0] 3)).alloc (.cells #[.string nm, .slice (some ⟨cb, co, none⟩) 1 ccap] 39)).alloc (.cells #[.slice none 0 0, .int .i64 0, .int .i64 0, .pointer none, .pointer none] 83))) := (((Below.refl _ _).alloc (Nat.le_refl _) _).alloc (by simp) _).alloc (by simp; omega) _
  have H0 : Hid ((((w.alloc (.cells #[.int .i64 0] 3)).alloc (.cells #[.string nm, .slice (some ⟨cb, co, none⟩) 1 ccap] 39)).alloc (.cells #[.slice none 0 0, .int .i64 0, .int .i64 0, .pointer none, .pointer none] 83)).cell? ⟨w.heap.size, 0, none⟩ = some (.int .i64 0) ∧ (((w.alloc (.cells #[.int .i64 0] 3)).alloc (.cells #[.string nm, .slice (some ⟨cb, co, none⟩) 1 ccap] 39)).alloc (.cells #[.slice none 0 0, .int .i64 0, .int .i64 0, .pointer none, .pointer none] 83)).frozen? ⟨w.heap.size, 0, none⟩ = false ∧ w.heap.size < (((w.alloc (.cells #[.int .i64 0] 3)).alloc (.cells #[.string nm, .slice (some ⟨cb, co, none⟩) 1 ccap] 39)).alloc (.cells #[.slice none 0 0, .int .i64 0, .int .i64 0, .pointer none, .pointer none] 83)).heap.size) := ⟨by simp [go_sem], by simp [go_sem], by simp; omega⟩
  have HE := hidd (HEV.out (((w.alloc (.cells #[.int .i64 0] 3)).alloc (.cells #[.string nm, .slice (some ⟨cb, co, none⟩) 1 ccap] 39)).alloc (.cells #[.slice none 0 0, .int .i64 0, .int .i64 0, .pointer none, .pointer none] 83)) (.pointer (some ⟨w.heap.size + 1 + 1, 0, none⟩)) BB.out)
  go_enter_defers Tryd.func21, Tryd.ntmps21
  go_wp2_with fail
  refine wp_loop_rounds 2 ?_
  rw [rounds_succ]
  go_wp2_with fail
  refine wp_loop_rounds 2 ?_
  rw [rounds_succ]
  go_wp2_with fail
  refine HE.out.mono ?_
  rintro e w3 ⟨hk3, t, x, rfl, hR⟩
  have hk : Keep rb w w3 := ((Keep.refl rb w).below BB.out).trans hk3
  have hN3 : w.heap.size < w3.heap.size := Nat.lt_of_lt_of_le H0.out.2.2 hk3.size
  have g0 : w3.cell? ⟨w.heap.size, 0, none⟩ = some (.int .i64 0) := (hk3.cell (p := ⟨w.heap.size, 0, none⟩) H0.out.2.2 (by simp; omega)).trans H0.out.1
  have y0 : w3.frozen? ⟨w.heap.size, 0, none⟩ = false := (hk3.frozen (p := ⟨w.heap.size, 0, none⟩) H0.out.2.2 (by simp; omega)).trans H0.out.2.1
  have HK := hidd hk
  clear hk3 BB H0 HE HEV k0 k1
  have HR := hidd (HST.out w.heap.size 0 1 w3 g0 (by omega) hR)
  clear HST hR
  go_wp2_with fail
  rw [rounds_succ]
  go_wp2_with fail
  rw [rounds_succ]
  go_wp2_with fail
  refine leaves_cons (f := 26) (args := #[.pointer (some ⟨w.heap.size, 0, none⟩)]) (by simp) (by simp [go_sem]) ?_
  refine (catch_idle _ _).mono ?_
  rintro e u' w4 ⟨rfl, rfl, rfl⟩
  have hkk := HK.out.setNew ⟨w.heap.size, 0, none⟩ (Nat.le_refl _) (.int .i64 1)
  simp [Leaves, settle, results, Tryd.results21, go_sem, g0, hkk, HR.out]
set_option maxRecDepth 100000 in
set_option maxHeartbeats 3200000 in
theorem Run_st (pb : Nat) (how st : Int) (hs0 : 0 ≤ st) (hs9 : st ≤ 1000000) (P : Option Addr → Nat → Nat → World → Prop) (w : World)
    (hP : ∀ a n c N q y v W, W.cell? ⟨N, 0, none⟩ = some (.int .i64 y) → P a n c W → P a n c (W.setCell ⟨N, q, none⟩ v))
    (HW : ∀ W, Below w.heap.size w W → Calls Tryd.prog 10 #[.slice (some ⟨pb, 0, none⟩) 1 1] W fun e w' => e = .returned (fv (0, 0)) ∧ Below W.heap.size W w')
    (HR : ∀ rb gm W, Below w.heap.size w W → w.heap.size ≤ rb → rb < W.heap.size → RN rb (.slice none 0 0) st 0 gm W → Calls Tryd.prog 21 #[.pointer (some ⟨rb, 0, none⟩), .slice (some ⟨pb, 0, none⟩) 1 1] W fun e w' => e = .returned (.int .i64 how) ∧ Keep rb W w' ∧ ∃ a n c left calls, RN rb (.slice a n c) left calls gm w' ∧ P a n c w') :
    Calls Tryd.prog 8 #[.slice (some ⟨pb, 0, none⟩) 1 1, .int .i64 st] w fun e w' => Below w.heap.size w w' ∧ ∃ a n c, e = .returned (.tuple #[.agg #[.int .i64 how, .slice a n c], fv (0, 0)]) ∧ P a n c w' := by
  have HWH := hidd HW
  have HRH := hidd HR
  clear HW HR
  have HPP := hidd hP
  clear hP
  have hg1 : decide (st < 0) = false := by simp; omega
  have hg2 : decide (st > 1000000) = false := by simp; omega
  have hg3 : decide (1000000 < st) = false := by simp; omega
  clear hs0 hs9
  have hmm := @run_makeMap Tryd.prog
  unfold fv at *
  go_enter Tryd.func8, Tryd.ntmps8
  go_wp2_with fail
  refine (HWH.out _ (((Below.refl _ _).alloc (Nat.le_refl _) _).alloc (by simp) _)).mono ?_
  rintro e w1 ⟨rfl, hb1⟩
  obtain ⟨W0, hW0⟩ : ∃ W0, W0 = (w.alloc (.cells #[.int .i64 0, .slice none 0 0] 25)).alloc (.cells #[.int .i64 0, .int .i64 0] 28) := ⟨_, rfl⟩
  have hbW0 : Below w.heap.size w W0 := by rw [hW0]; exact ((Below.refl _ _).alloc (Nat.le_refl _) _).alloc (by simp) _
  have hs0 : W0.heap.size = w.heap.size + 2 := by rw [hW0]; simp
  have a0 : W0.heap[w.heap.size]? = some (.cells #[.int .i64 0, .slice none 0 0] 25 (0, 0)) := by rw [hW0, Below.heap_alloc _ _ _ (alloc_lt _ _)]; exact World.alloc_heap_new w _
  have a1 : W0.heap[w.heap.size + 1]? = some (.cells #[.int .i64 0, .int .i64 0] 28 (0, 0)) := by
    rw [hW0]
    have := World.alloc_heap_new (w.alloc (.cells #[.int .i64 0, .slice none 0 0] 25)) (.cells #[.int .i64 0, .int .i64 0] 28)
    simpa using this
  rw [← hW0] at hb1
  clear hW0
  have BW : Hid (Below W0.heap.size W0 (((w1.alloc (.cells #[.int .i64 0, .int .i64 0] 28)).alloc (.map #[] 0)).alloc (.cells #[.slice none 0 0, .int .i64 st, .int .i64 0, .map (some (w1.heap.size + 1))] 59))) := ((hb1.alloc hb1.size _).alloc (by have := hb1.size; simp; omega) _).alloc (by have := hb1.size; simp; omega) _
  have hs1 := hb1.size
  have SZ : Hid ((((w1.alloc (.cells #[.int .i64 0, .int .i64 0] 28)).alloc (.map #[] 0)).alloc (.cells #[.slice none 0 0, .int .i64 st, .int .i64 0, .map (some (w1.heap.size + 1))] 59)).heap.size = w1.heap.size + 3) := by show _ = _; simp
  have RW : Hid (RN (w1.heap.size + 1 + 1) (.slice none 0 0) st 0 (.map (some (w1.heap.size + 1))) (((w1.alloc (.cells #[.int .i64 0, .int .i64 0] 28)).alloc (.map #[] 0)).alloc (.cells #[.slice none 0 0, .int .i64 st, .int .i64 0, .map (some (w1.heap.size + 1))] 59))) := by
    have := World.alloc_heap_new ((w1.alloc (.cells #[.int .i64 0, .int .i64 0] 28)).alloc (.map #[] 0)) (.cells #[.slice none 0 0, .int .i64 st, .int .i64 0, .map (some (w1.heap.size + 1))] 59)
    simpa [RN, Hid] using this
  have HRR := hidd (HRH.out (w1.heap.size + 1 + 1) (.map (some (w1.heap.size + 1))) _ (hbW0.trans (BW.out.mono (by omega))) (by omega) (by rw [SZ.out]; omega) RW.out)
  clear HRH RW hb1 HWH
  go_wp2_with fail
  refine HRR.out.mono ?_
  rintro e w3 ⟨rfl, hk3, a, n, c, left, calls, hr3, hp3⟩
  have hA : w3.heap[w.heap.size]? = some (.cells #[.int .i64 0, .slice none 0 0] 25 (0, 0)) := (hk3.block _ (by rw [SZ.out]; omega) (by simp; omega)).trans ((BW.out.block _ (by omega)).trans a0)
  have hA1 : w3.heap[w.heap.size + 1]? = some (.cells #[.int .i64 0, .int .i64 0] 28 (0, 0)) := (hk3.block _ (by rw [SZ.out]; omega) (by simp; omega)).trans ((BW.out.block _ (by omega)).trans a1)
  have BF : Hid (Below w.heap.size w w3) := (hbW0.trans (BW.out.mono (by omega))).trans (hk3.toBelow (by omega) (by rw [SZ.out]; omega))
  have c0 : w3.cell? ⟨w.heap.size, 0, none⟩ = some (.int .i64 0) := (cellO hA).trans rfl
  have c1 : w3.cell? ⟨w.heap.size, 1, none⟩ = some (.slice none 0 0) := (cellO hA).trans rfl
  have d0 : w3.cell? ⟨w.heap.size + 1, 0, none⟩ = some (.int .i64 0) := (cellO hA1).trans rfl
  have d1 : w3.cell? ⟨w.heap.size + 1, 1, none⟩ = some (.int .i64 0) := (cellO hA1).trans rfl
  have f0 : w3.frozen? ⟨w.heap.size, 0, none⟩ = false := looseO hA
  have f1 : w3.frozen? ⟨w.heap.size, 1, none⟩ = false := looseO hA
  have g0 : w3.frozen? ⟨w.heap.size + 1, 0, none⟩ = false := looseO hA1
  have g1 : w3.frozen? ⟨w.heap.size + 1, 1, none⟩ = false := looseO hA1
  have r0 : w3.cell? ⟨w1.heap.size + 1 + 1, 0, none⟩ = some (.slice a n c) := (cellO hr3).trans rfl
  have PF := hidd hp3
  clear hk3 hA hA1 hr3 hp3 a0 a1 BW HRR hbW0
  go_wp2_with fail
  have PX : Hid (P a n c ((((w3.setCell ⟨w.heap.size, 0, none⟩ (.int .i64 how)).setCell ⟨w.heap.size, 1, none⟩ (.slice a n c)).setCell ⟨w.heap.size + 1, 0, none⟩ (.int .i64 0)).setCell ⟨w.heap.size + 1, 1, none⟩ (.int .i64 0))) := by
    refine HPP.out _ _ _ _ _ 0 _ _ (by simp [go_sem, c0, d0, d1]) (HPP.out _ _ _ _ _ 0 _ _ (by simp [go_sem, c0, d0, d1]) (HPP.out _ _ _ _ _ how _ _ (by simp [go_sem, c0, d0, d1]) (HPP.out _ _ _ _ _ 0 _ _ c0 PF.out)))
  refine bodyPost_ret (v := .tuple #[.agg #[.int .i64 how, .slice a n c], .agg #[.int .i64 0, .int .i64 0]]) (by simp [results, Tryd.results8, go_sem, c0, c1, d0, d1]) rfl ⟨?_, a, n, c, rfl, PX.out⟩
  exact (((BF.out.setCell (p := ⟨w.heap.size, 0, none⟩) (Nat.le_refl _) _).setCell (p := ⟨w.heap.size, 1, none⟩) (Nat.le_refl _) _).setCell (p := ⟨w.heap.size + 1, 0, none⟩) (Nat.le_succ _) _).setCell (p := ⟨w.heap.size + 1, 1, none⟩) (Nat.le_succ _) _
end Go.Proofs.YthooljlikllnpaaDoor
