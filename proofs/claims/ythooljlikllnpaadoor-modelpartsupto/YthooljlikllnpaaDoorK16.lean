/- Chapter 7: package model: Run, of one part. Chapter 7: package model: values that are not known ahead: a row of expressions, a call. Chapter 7: package value: pairs: made, written. -/
import Derived.Carry
import Derived.Test.YthooljlikllnpaaDoorK13
import Derived.Test.YthooljlikllnpaaDoorK15
namespace Go.Proofs.YthooljlikllnpaaDoor
section
set_option linter.unusedVariables false
set_option linter.unusedSimpArgs false
open Go.RowKit

set_option maxRecDepth 100000 in
set_option maxHeartbeats 3200000 in
theorem Run_one (pb : Nat) (how : Int) (P : Option Addr → Nat → Nat → World → Prop) (w : World)
    (hP : ∀ a n c N q y v W, W.cell? ⟨N, 0, none⟩ = some (.int .i64 y) → P a n c W → P a n c (W.setCell ⟨N, q, none⟩ v))
    (HW : ∀ W, Below w.heap.size w W → Calls Tryd.prog 10 #[.slice (some ⟨pb, 0, none⟩) 1 1] W fun e w' => e = .returned (fv (0, 0)) ∧ Below W.heap.size W w')
    (HR : ∀ rb gm W, Below w.heap.size w W → w.heap.size ≤ rb → rb < W.heap.size → RN rb (.slice none 0 0) 100 0 gm W → Calls Tryd.prog 21 #[.pointer (some ⟨rb, 0, none⟩), .slice (some ⟨pb, 0, none⟩) 1 1] W fun e w' => e = .returned (.int .i64 how) ∧ Keep rb W w' ∧ ∃ a n c left calls, RN rb (.slice a n c) left calls gm w' ∧ P a n c w') :
    Calls Tryd.prog 8 #[.slice (some ⟨pb, 0, none⟩) 1 1, .int .i64 100] w fun e w' => Below w.heap.size w w' ∧ ∃ a n c, e = .returned (.tuple #[.agg #[.int .i64 how, .slice a n c], fv (0, 0)]) ∧ P a n c w' := by
  have HWH := hidd HW
  have HRH := hidd HR
  clear HW HR
  have HPP := hidd hP
  clear hP
  have hmm := @run_makeMap Tryd.prog
  unfold fv at *
  go_enter Tryd.func8, Tryd.ntmps8
  go_wp2_with fail
  refine (HWH.out _ (((Below.refl _ _).alloc (Nat.le_refl _) _).alloc (by simp) _)).mono ?_
  rintro e w1 ⟨rfl, hb1⟩
  obtain ⟨W0, hW0⟩ : ∃ W0, W0 = (w.alloc (.cells #[.int .i64 0, .slice none 0 0] 25)).alloc (.cells #[.int .i64 0, .int .i64 0] 28) := ⟨_, rfl⟩
  have hbW0 : Below w.heap.size w W0 := by rw [hW0]; exact ((Below.refl _ _).alloc (Nat.le_refl _) _).alloc (by simp) _
  have hs0 : W0.heap.size = w.heap.size + 2 := by rw [hW0]; simp
  have a0 : W0.heap[w.heap.size]? = some (.cells #[.int .i64 0, .slice none 0 0] 25 (0, 0)) := by rw [hW0, Below.heap_alloc _ _ _ (alloc_lt _ _)]; exact World.alloc_heap_new w _
  have a1 : W0.heap[w.heap.size + 1]? = some (.cells #[.int .i64 0, .int .i64 0] 28 (0, 0)) := by
    rw [hW0]
    have := World.alloc_heap_new (w.alloc (.cells #[.int .i64 0, .slice none 0 0] 25)) (.cells #[.int .i64 0, .int .i64 0] 28)
    simpa using this
  rw [← hW0] at hb1
  clear hW0
  have BW : Hid (Below W0.heap.size W0 (((w1.alloc (.cells #[.int .i64 0, .int .i64 0] 28)).alloc (.map #[] 0)).alloc (.cells #[.slice none 0 0, .int .i64 100, .int .i64 0, .map (some (w1.heap.size + 1))] 59))) := ((hb1.alloc hb1.size _).alloc (by have := hb1.size; simp; omega) _).alloc (by have := hb1.size; simp; omega) _
  have hs1 := hb1.size
  have SZ : Hid ((((w1.alloc (.cells #[.int .i64 0, .int .i64 0] 28)).alloc (.map #[] 0)).alloc (.cells #[.slice none 0 0, .int .i64 100, .int .i64 0, .map (some (w1.heap.size + 1))] 59)).heap.size = w1.heap.size + 3) := by show _ = _; simp
  have RW : Hid (RN (w1.heap.size + 1 + 1) (.slice none 0 0) 100 0 (.map (some (w1.heap.size + 1))) (((w1.alloc (.cells #[.int .i64 0, .int .i64 0] 28)).alloc (.map #[] 0)).alloc (.cells #[.slice none 0 0, .int .i64 100, .int .i64 0, .map (some (w1.heap.size + 1))] 59))) := by
    have := World.alloc_heap_new ((w1.alloc (.cells #[.int .i64 0, .int .i64 0] 28)).alloc (.map #[] 0)) (.cells #[.slice none 0 0, .int .i64 100, .int .i64 0, .map (some (w1.heap.size + 1))] 59)
    simpa [RN, Hid] using this
  have HRR := hidd (HRH.out (w1.heap.size + 1 + 1) (.map (some (w1.heap.size + 1))) _ (hbW0.trans (BW.out.mono (by omega))) (by omega) (by rw [SZ.out]; omega) RW.out)
  clear HRH RW hb1 HWH
  go_wp2_with fail
  refine HRR.out.mono ?_
  rintro e w3 ⟨rfl, hk3, a, n, c, left, calls, hr3, hp3⟩
  have hA : w3.heap[w.heap.size]? = some (.cells #[.int .i64 0, .slice none 0 0] 25 (0, 0)) := (hk3.block _ (by rw [SZ.out]; omega) (by simp; omega)).trans ((BW.out.block _ (by omega)).trans a0)
  have hA1 : w3.heap[w.heap.size + 1]? = some (.cells #[.int .i64 0, .int .i64 0] 28 (0, 0)) := (hk3.block _ (by rw [SZ.out]; omega) (by simp; omega)).trans ((BW.out.block _ (by omega)).trans a1)
  have BF : Hid (Below w.heap.size w w3) := (hbW0.trans (BW.out.mono (by omega))).trans (hk3.toBelow (by omega) (by rw [SZ.out]; omega))
  have c0 : w3.cell? ⟨w.heap.size, 0, none⟩ = some (.int .i64 0) := (cellO hA).trans rfl
  have c1 : w3.cell? ⟨w.heap.size, 1, none⟩ = some (.slice none 0 0) := (cellO hA).trans rfl
  have d0 : w3.cell? ⟨w.heap.size + 1, 0, none⟩ = some (.int .i64 0) := (cellO hA1).trans rfl
  have d1 : w3.cell? ⟨w.heap.size + 1, 1, none⟩ = some (.int .i64 0) := (cellO hA1).trans rfl
  have f0 : w3.frozen? ⟨w.heap.size, 0, none⟩ = false := looseO hA
  have f1 : w3.frozen? ⟨w.heap.size, 1, none⟩ = false := looseO hA
  have g0 : w3.frozen? ⟨w.heap.size + 1, 0, none⟩ = false := looseO hA1
  have g1 : w3.frozen? ⟨w.heap.size + 1, 1, none⟩ = false := looseO hA1
  have r0 : w3.cell? ⟨w1.heap.size + 1 + 1, 0, none⟩ = some (.slice a n c) := (cellO hr3).trans rfl
  have PF := hidd hp3
  clear hk3 hA hA1 hr3 hp3 a0 a1 BW HRR hbW0
  go_wp2_with fail
  have PX : Hid (P a n c ((((w3.setCell ⟨w.heap.size, 0, none⟩ (.int .i64 how)).setCell ⟨w.heap.size, 1, none⟩ (.slice a n c)).setCell ⟨w.heap.size + 1, 0, none⟩ (.int .i64 0)).setCell ⟨w.heap.size + 1, 1, none⟩ (.int .i64 0))) := by
    refine HPP.out _ _ _ _ _ 0 _ _ (by simp [go_sem, c0, d0, d1]) (HPP.out _ _ _ _ _ 0 _ _ (by simp [go_sem, c0, d0, d1]) (HPP.out _ _ _ _ _ how _ _ (by simp [go_sem, c0, d0, d1]) (HPP.out _ _ _ _ _ 0 _ _ c0 PF.out)))
  refine bodyPost_ret (v := .tuple #[.agg #[.int .i64 how, .slice a n c], .agg #[.int .i64 0, .int .i64 0]]) (by simp [results, Tryd.results8, go_sem, c0, c1, d0, d1]) rfl ⟨?_, a, n, c, rfl, PX.out⟩
  exact (((BF.out.setCell (p := ⟨w.heap.size, 0, none⟩) (Nat.le_refl _) _).setCell (p := ⟨w.heap.size, 1, none⟩) (Nat.le_refl _) _).setCell (p := ⟨w.heap.size + 1, 0, none⟩) (Nat.le_succ _) _).setCell (p := ⟨w.heap.size + 1, 1, none⟩) (Nat.le_succ _) _
end
section
set_option linter.unusedVariables false
set_option linter.unusedSimpArgs false
open Go.RowKit

/-- What eval tells of one expression: a value, of which something is known. -/
def EvV (rb : Nat) (R : TypeId → Value → World → Prop) (w : World) (e : Ending) (w' : World) : Prop :=
  Keep rb w w' ∧ ∃ t x, e = .returned (.iface t x) ∧ R t x w'
theorem EvV.of {rb : Nat} {t : TypeId} {x : Value} {E : List PanicEntry} {R D : World → Prop} {w : World} {e : Ending} {w' : World} (h : Ev rb true (.iface t x) E R D w e w') : EvV rb (fun t' x' W => t' = t ∧ x' = x ∧ R W) w e w' := by
  obtain ⟨hk, h | h⟩ := h
  · exact ⟨hk, t, x, h.2.1, rfl, rfl, h.2.2⟩
  · cases h.1
set_option maxRecDepth 100000 in
set_option maxHeartbeats 3200000 in
theorem all_val (rb lb lo n cap : Nat) (fr : Value) (R : List (TypeId × Value) → World → Prop) (w : World)
    (hn : n ≤ 1000) (hcap : n ≤ cap) (hrb : rb < w.heap.size)
    (hst : ∀ vs W N cs q v, W.heap[N]? = some (.cells cs 77 (0, 0)) → w.heap.size ≤ N → R vs W → R vs (W.setCell ⟨N, q, none⟩ v))
    (h0 : ∀ W, Below w.heap.size w W → R [] W)
    (IH : ∀ vs W, vs.length < n → Keep rb w W → R vs W → Calls Tryd.prog 28 #[.pointer (some ⟨rb, 0, none⟩), .pointer (some ⟨lb, lo + vs.length * 12, none⟩), fr] W (EvV rb (fun t x => R (vs ++ [(t, x)])) W)) :
    Calls Tryd.prog 45 #[.pointer (some ⟨rb, 0, none⟩), .slice (some ⟨lb, lo, none⟩) n cap, fr] w fun e w' => Keep rb w w' ∧ ∃ N vs, w.heap.size ≤ N ∧ N < w'.heap.size ∧ e = .returned (.slice (some ⟨N, 0, none⟩) n n) ∧ vs.length = n ∧ (∀ j t x, vs[j]? = some (t, x) → w'.cell? ⟨N, j, none⟩ = some (.iface t x)) ∧ R vs w' := by
  have IHH := hidd IH
  have HST := hidd hst
  have H0 := hidd h0
  clear IH hst h0
  have hmk := make_vals n hn w
  have HROW : Hid ((w.alloc (.cells (List.replicate n Value.nilIface).toArray 77)).heap[w.heap.size]? = some (.cells (List.replicate n Value.nilIface).toArray 77 (0, 0))) := World.alloc_heap_new w _
  have HKP : Hid (Keep rb w (w.alloc (.cells (List.replicate n Value.nilIface).toArray 77))) := (Keep.refl rb w).alloc _
  have HR0 : Hid (R [] (w.alloc (.cells (List.replicate n Value.nilIface).toArray 77))) := H0.out _ ((Below.refl w.heap.size w).alloc (Nat.le_refl _) _)
  have HSZ : Hid (w.heap.size < (w.alloc (.cells (List.replicate n Value.nilIface).toArray 77)).heap.size) := alloc_lt _ _
  go_enter Tryd.func45, Tryd.ntmps45
  go_wp2_with fail
  go_loopw [14] (fun ix wr => ∃ (j : Nat) (vs : List (TypeId × Value)) (cs : Array Value), j ≤ n ∧ ix = .int .i64 j ∧ vs.length = j ∧ Keep rb w wr ∧ R vs wr ∧ w.heap.size < wr.heap.size ∧ wr.heap[w.heap.size]? = some (.cells cs 77 (0, 0)) ∧ cs.size = n ∧ (∀ (i : Nat) (t : TypeId) (x : Value), vs[i]? = some (t, x) → cs[i]? = some (Value.iface t x))) (fun ix _ => n - (intOf ix).toNat)
  case atStart => exact ⟨0, [], _, Nat.zero_le _, rfl, rfl, HKP.out, HR0.out, HSZ.out, HROW.out, by rw [List.size_toArray, List.length_replicate], fun i t x hi => by simp at hi⟩
  case round =>
    obtain ⟨j, vs, cs, hj, rfl, hv, hk, hR, hN, hb, hcs, hfs⟩ := hrel
    have HV := hidd hv
    clear hv
    by_cases hlt : j < n
    · have HE : Hid (Calls Tryd.prog 28 #[.pointer (some ⟨rb, 0, none⟩), .pointer (some ⟨lb, lo + j * 12, none⟩), fr] wr (EvV rb (fun t x => R (vs ++ [(t, x)])) wr)) := by
        have := IHH.out vs wr (by rw [HV.out]; exact hlt) hk hR
        rw [HV.out] at this
        exact this
      have HK := hidd hk
      have HF : Hid (cs.size = n ∧ w.heap.size < wr.heap.size ∧ ∀ (i : Nat) (t : TypeId) (x : Value), vs[i]? = some (t, x) → cs[i]? = some (Value.iface t x)) := ⟨hcs, hN, hfs⟩
      have HB := hidd hb
      clear hk hR hcs hfs hb IHH H0 HR0 HKP HROW hmk
      go_wp2_with fail
      refine HE.out.mono ?_
      rintro e w3 ⟨hk3, t, x, rfl, hR3⟩
      have hkk := HK.out.trans hk3
      have hbb : w3.heap[w.heap.size]? = some (.cells cs 77 (0, 0)) := (hk3.block _ HF.out.2.1 (by simp; omega)).trans HB.out
      have hjs : j < cs.size := by rw [HF.out.1]; exact hlt
      have HX : Hid (Keep rb w (w3.setCell ⟨w.heap.size, j, none⟩ (.iface t x)) ∧ R (vs ++ [(t, x)]) (w3.setCell ⟨w.heap.size, j, none⟩ (.iface t x))) := ⟨hkk.setNew _ (Nat.le_refl _) _, HST.out _ w3 _ _ _ _ hbb (Nat.le_refl _) hR3⟩
      have hy : w.heap.size < (w3.setCell ⟨w.heap.size, j, none⟩ (.iface t x)).heap.size := by
        have h1 := hk3.size
        have h2 := HF.out.2.1
        have e : (w3.setCell ⟨w.heap.size, j, none⟩ (.iface t x)).heap.size = w3.heap.size := by simp
        rw [e]
        omega
      have HY := hidd hy
      clear hy
      have HZ : Hid ((w3.setCell ⟨w.heap.size, j, none⟩ (.iface t x)).heap[w.heap.size]? = some (.cells (cs.setIfInBounds j (.iface t x)) 77 (0, 0))) := cell_setV hbb _
      have c1 : w3.cell? ⟨w.heap.size, j, none⟩ = some cs[j] := (cellO hbb).trans (by simp [hjs])
      have z1 := looseO (q := j) hbb
      go_wp2_with fail
      go_roundw
      case rel =>
        refine ⟨j + 1, vs ++ [(t, x)], cs.setIfInBounds j (.iface t x), hlt, by go_num, by rw [List.length_append, HV.out]; rfl, HX.out.1, HX.out.2, HY.out, HZ.out, by rw [Array.size_setIfInBounds]; exact HF.out.1, fun i t' x' hi => ?_⟩
        by_cases e : i = j
        · subst e
          rw [List.getElem?_append_right (by rw [HV.out]; exact Nat.le_refl _), HV.out, Nat.sub_self] at hi
          simp at hi
          obtain ⟨rfl, rfl⟩ := hi
          simp [hjs]
        · have hij : i < vs.length := by
            have := (List.getElem?_eq_some_iff.1 hi).1
            rw [List.length_append] at this
            simp at this
            rw [HV.out] at this ⊢
            omega
          rw [List.getElem?_append_left hij] at hi
          rw [Array.getElem?_setIfInBounds, if_neg (fun h => e h.symm)]
          exact HF.out.2.2 i t' x' hi
      case measure => simp [intOf]; omega
    · obtain rfl : j = n := by omega
      go_wp2_with fail
      go_ret
      exact ⟨hk, _, vs, Nat.le_refl _, hN, rfl, HV.out, fun i t x hi => (cellO hb).trans (hfs i t x hi), hR⟩
set_option maxRecDepth 100000 in
set_option maxHeartbeats 400000 in
theorem call_primV1 (rb N : Nat) (s : ByteArray) (R : TypeId → Value → World → Prop) (w : World)
    (k0 : w.cell? ⟨N, 0, none⟩ = some (.iface 114 (.string s)))
    (PR : Calls Tryd.prog 59 #[.pointer (some ⟨rb, 0, none⟩), .string s, .slice (some ⟨N, 1, none⟩) 1 1] w (EvV rb R w)) :
    Calls Tryd.prog 44 #[.pointer (some ⟨rb, 0, none⟩), .slice (some ⟨N, 0, none⟩) 2 2] w (EvV rb R w) := by
  have HP := hidd PR
  clear PR
  have hta := assertP (.string s)
  go_enter Tryd.func44, Tryd.ntmps44
  go_wp2_with fail
  refine HP.out.mono ?_
  rintro e w3 ⟨hk3, t, x, rfl, hq⟩
  go_wp2_with fail
  go_ret
  exact ⟨hk3, t, x, rfl, hq⟩
set_option maxRecDepth 100000 in
set_option maxHeartbeats 400000 in
theorem call_primV2 (rb N : Nat) (s : ByteArray) (R : TypeId → Value → World → Prop) (w : World)
    (k0 : w.cell? ⟨N, 0, none⟩ = some (.iface 114 (.string s)))
    (PR : Calls Tryd.prog 59 #[.pointer (some ⟨rb, 0, none⟩), .string s, .slice (some ⟨N, 1, none⟩) 2 2] w (EvV rb R w)) :
    Calls Tryd.prog 44 #[.pointer (some ⟨rb, 0, none⟩), .slice (some ⟨N, 0, none⟩) 3 3] w (EvV rb R w) := by
  have HP := hidd PR
  clear PR
  have hta := assertP (.string s)
  go_enter Tryd.func44, Tryd.ntmps44
  go_wp2_with fail
  refine HP.out.mono ?_
  rintro e w3 ⟨hk3, t, x, rfl, hq⟩
  go_wp2_with fail
  go_ret
  exact ⟨hk3, t, x, rfl, hq⟩
set_option maxRecDepth 100000 in
set_option maxHeartbeats 3200000 in
theorem eval_callV (rb cb co lb lo n cap : Nat) (tv gm fr : Value) (left calls : Int) (R : List (TypeId × Value) → World → Prop) (R' : TypeId → Value → World → Prop) (w : World)
    (hr : RN rb tv left calls gm w) (hl : 0 < left) (hl9 : left ≤ 1000000) (hc : rb ≠ cb) (hn : n ≤ 1000) (hcap : n ≤ cap) (hrb : rb < w.heap.size)
    (k0 : w.cell? ⟨cb, co, none⟩ = some (.int .i64 9)) (k11 : w.cell? ⟨cb, co + 11, none⟩ = some (.slice (some ⟨lb, lo, none⟩) n cap))
    (hst : ∀ vs W N cs q v, W.heap[N]? = some (.cells cs 77 (0, 0)) → w.heap.size ≤ N → R vs W → R vs (W.setCell ⟨N, q, none⟩ v))
    (h0 : ∀ W, Below w.heap.size (w.setCell ⟨rb, 1, none⟩ (.int .i64 (left - 1))) W → R [] W)
    (IH : ∀ vs W, vs.length < n → Keep rb w W → R vs W → Calls Tryd.prog 28 #[.pointer (some ⟨rb, 0, none⟩), .pointer (some ⟨lb, lo + vs.length * 12, none⟩), fr] W (EvV rb (fun t x => R (vs ++ [(t, x)])) W))
    (CL : ∀ N vs W, w.heap.size ≤ N → N < W.heap.size → Keep rb w W → vs.length = n → R vs W → (∀ j t x, vs[j]? = some (t, x) → W.cell? ⟨N, j, none⟩ = some (.iface t x)) → Calls Tryd.prog 44 #[.pointer (some ⟨rb, 0, none⟩), .slice (some ⟨N, 0, none⟩) n n] W (EvV rb R' W)) :
    Calls Tryd.prog 28 #[.pointer (some ⟨rb, 0, none⟩), .pointer (some ⟨cb, co, none⟩), fr] w (EvV rb R' w) := by
  have c1 : w.cell? ⟨rb, 1, none⟩ = some (.int .i64 left) := (cellO hr).trans rfl
  have z1 := looseO (q := 1) hr
  have hg : decide (left > 0) = true := by simp; omega
  have hg' : decide (0 < left) = true := by simp; omega
  have HK1 : Hid (Keep rb w (w.setCell ⟨rb, 1, none⟩ (.int .i64 (left - 1)))) := (Keep.refl rb w).setCell _ rfl _
  have hs : (w.setCell ⟨rb, 1, none⟩ (.int .i64 (left - 1))).heap.size = w.heap.size := by simp
  have HAL : Hid (Calls Tryd.prog 45 #[.pointer (some ⟨rb, 0, none⟩), .slice (some ⟨lb, lo, none⟩) n cap, fr] (w.setCell ⟨rb, 1, none⟩ (.int .i64 (left - 1))) _) := hidd
    (all_val rb lb lo n cap fr R (w.setCell ⟨rb, 1, none⟩ (.int .i64 (left - 1))) hn hcap (by rw [hs]; exact hrb) (fun vs W N cs q v h1 h2 h3 => hst vs W N cs q v h1 (by rw [hs] at h2; exact h2) h3) (fun W hb => h0 W (by rw [hs] at hb; exact hb)) (fun vs W hj hk hR => IH vs W hj (HK1.out.trans hk) hR))
  have HCL := hidd CL
  have HR := hidd hr
  have HS := hidd hs
  clear CL IH h0 hst hr hs
  go_enter Tryd.func28, Tryd.ntmps28
  go_wp2_with fail
  refine (Must_yes 2 _).mono ?_
  rintro e w1 ⟨rfl, rfl⟩
  go_wp2_with fail
  refine HAL.out.mono ?_
  rintro e w3 ⟨hk3, N, vs, hN, hN3, rfl, hvl, hcs, hR3⟩
  have HK3 : Hid (Keep rb w1 w3) := HK1.out.trans hk3
  have HC := hidd (HCL.out N vs w3 (by rw [HS.out] at hN; exact hN) hN3 HK3.out hvl hR3 hcs)
  clear HCL HAL HR hR3 hcs hk3 HK1 hvl
  go_wp2_with fail
  refine HC.out.mono ?_
  rintro e w4 ⟨hk4, t, x, rfl, hR4⟩
  go_wp2_with fail
  go_ret
  exact ⟨HK3.out.trans hk4, t, x, rfl, hR4⟩
end
section
set_option linter.unusedVariables false
set_option linter.unusedSimpArgs false
open Go.RowKit

def consB : ByteArray := ⟨#[99, 111, 110, 115]⟩
/-- A pair of two numbers. -/
def Pr (P : Nat) (a b : Int) (w : World) : Prop := w.heap[P]? = some (.cells #[.iface 104 (.int .i64 a), .iface 104 (.int .i64 b), .slice none 0 0] 160 (0, 0))
set_option maxRecDepth 100000 in
set_option maxHeartbeats 3200000 in
theorem ofTwo_cons (a b : Int) (w : World) : Calls Tryd.prog 74 #[.string consB, .iface 104 (.int .i64 a), .iface 104 (.int .i64 b)] w fun e w' => e = .returned (.iface 158 (.pointer (some ⟨w.heap.size, 0, none⟩))) ∧ w' = w.alloc (.cells #[.iface 104 (.int .i64 a), .iface 104 (.int .i64 b), .slice none 0 0] 160) := by
  obtain ⟨s, hs⟩ : ∃ s, s = consB := ⟨_, rfl⟩
  have c1 : (s.toList == [99, 111, 110, 115]) = true := by rw [hs]; decide +kernel
  rw [← hs]
  clear hs
  go_enter Tryd.func74, Tryd.ntmps74
  go_wp2_with fail
  go_ret
  exact ⟨rfl, rfl⟩
set_option maxRecDepth 100000 in
set_option maxHeartbeats 3200000 in
theorem prim_cons (a b : Int) (rb ab ao c : Nat) (w : World) (k0 : w.cell? ⟨ab, ao, none⟩ = some (.iface 104 (.int .i64 a))) (k1 : w.cell? ⟨ab, ao + 1, none⟩ = some (.iface 104 (.int .i64 b))) :
    Calls Tryd.prog 59 #[.pointer (some ⟨rb, 0, none⟩), .string consB, .slice (some ⟨ab, ao, none⟩) 2 c] w (EvV rb (fun t x W => t = 158 ∧ x = .pointer (some ⟨w.heap.size, 0, none⟩) ∧ Pr w.heap.size a b W ∧ Below w.heap.size w W) w) := by
  have OT := hidd (fun w => ofTwo_cons a b w)
  obtain ⟨s, hs⟩ : ∃ s, s = consB := ⟨_, rfl⟩
  have AR : Hid (∀ w, Calls Tryd.prog 64 #[.string s] w fun e w' => e = .returned (.int .i64 2) ∧ w' = w) := fun w => by
    have e : argsB s = 2 := by rw [hs]; decide +kernel
    have := argsOf_any s w
    rw [e] at this
    exact this
  have c1 : (s.toList == [111, 117, 116]) = false := by rw [hs]; decide +kernel
  rw [← hs] at OT ⊢
  clear hs
  go_enter Tryd.func59, Tryd.ntmps59
  go_wp2_with fail
  refine (AR.out _).mono ?_
  rintro e w1 ⟨rfl, rfl⟩
  go_wp2_with fail
  refine (Must_yes _ _).mono ?_
  rintro e w1 ⟨rfl, rfl⟩
  go_wp2_with fail
  go_region_with (go_at_call 74; refine (OT.out _).mono ?_; rintro e w2 ⟨rfl, rfl⟩)
  all_goals
    have HB : Below w1.heap.size w1 (w1.drew.alloc (.cells #[.iface 104 (.int .i64 a), .iface 104 (.int .i64 b), .slice none 0 0] 160)) := (Below.drew (Below.refl _ _)).alloc (Nat.le_refl _) _
    have HP : Pr w1.heap.size a b (w1.drew.alloc (.cells #[.iface 104 (.int .i64 a), .iface 104 (.int .i64 b), .slice none 0 0] 160)) := World.alloc_heap_new w1.drew _
    have HBB := hidd HB
    have HPP := hidd HP
    clear HB HP
    go_wp2_with fail
    go_ret
    exact ⟨Keep.ofBelow HBB.out, _, _, rfl, rfl, rfl, HPP.out, HBB.out⟩
set_option maxRecDepth 100000 in
set_option maxHeartbeats 800000 in
theorem values_num (P : Nat) (a b : Int) (w : World) (h : Pr P a b w) : Calls Tryd.prog 84 #[.pointer (some ⟨P, 0, none⟩)] w fun e w' => e = .returned (.tuple #[.iface 104 (.int .i64 a), .iface 104 (.int .i64 b)]) ∧ Below w.heap.size w w' := by
  have c0 : w.cell? ⟨P, 0, none⟩ = some (.iface 104 (.int .i64 a)) := (cellO h).trans rfl
  have c1 : w.cell? ⟨P, 1, none⟩ = some (.iface 104 (.int .i64 b)) := (cellO h).trans rfl
  have c2 : w.cell? ⟨P, 2, none⟩ = some (.slice none 0 0) := (cellO h).trans rfl
  clear h
  go_enter Tryd.func84, Tryd.ntmps84
  go_wp2_with fail
  go_region
  all_goals
    go_wp2_with fail
    exact bodyPost_ret (v := .tuple #[.iface 104 (.int .i64 a), .iface 104 (.int .i64 b)]) (by simp [results, Tryd.results84, go_sem]) rfl ⟨rfl, Below.drew (Below.refl _ _)⟩
/-- How a pair of numbers is written. -/
def pairB (a b : Int) : List UInt8 := [40] ++ Lib.itoa a ++ [32, 46, 32] ++ Lib.itoa b ++ [41]
theorem assertPP (v : Value) (w : World) : (Instr.typeAssert (.iface 104 v) 77 158 true).run Tryd.prog w = .ok (.tuple #[.pointer none, .bool false]) w := by
  obtain ⟨i, hi, hz⟩ := Option.map_eq_some_iff.1 (show (Tryd.prog.info? 158).map (·.zero) = some (some (.pointer none)) by kernel_rfl)
  simp [Instr.typeAssert, run_underlying Tryd.underlying158, hi, hz]
theorem equalIn_other (d : Nat) (t u : TypeId) (x y : Value) (h : t ≠ u) (w : World) : (Op.equalIn (d + 1) 77 (.iface t x) (.iface u y)).run Tryd.prog w = .ok false w := by
  simp [Op.equalIn, run_underlying Tryd.underlying77, h]
theorem neq_nothing (y : Int) (w : World) : (binOp BinOp.neq 77 (.iface 104 (.int .i64 y)) (.iface 157 (.agg #[]))).run Tryd.prog w = .ok (.bool true) w := by
  have e : (Op.equal 77 (.iface 104 (.int .i64 y)) (.iface 157 (.agg #[]))).run Tryd.prog w = .ok false w := equalIn_other 9999 104 157 (.int .i64 y) (.agg #[]) (by decide) w
  simp [binOp, e]
theorem writeB (B b : Nat) (k : Int) (l : List UInt8) (c : UInt8) (ci : Int) (hc : (c.toNat : Int) = ci) (w : World) (h : Wr B b k l w) (hlen : l.length ≤ 10000) (hBw : B ≤ w.heap.size) :
    Calls Tryd.prog 96 #[.pointer (some ⟨b, 0, none⟩), .int .u8 ci] w fun e w' => e = .returned .nilIface ∧ Wr B b k (l ++ [c]) w' ∧ Below B w w' := by
  subst hc
  exact WriteByte_any B b k l c w h (by omega) hBw
def dotB : ByteArray := ⟨#[32, 46, 32]⟩
set_option maxRecDepth 100000 in
set_option maxHeartbeats 3200000 in
theorem pair_num (T B b P : Nat) (k x y : Int) (w : World) (h : Wr B b k [] w) (hk0 : 0 ≤ k) (hk : k ≤ 200) (hBw : B ≤ w.heap.size) (ht : Tab T w) (hT : T ≤ B) (hP : Pr P x y w) (hPB : P < B)
    (h1 : rangeN x = true) (h2 : rangeN y = true) (hl1 : (Lib.itoa x).length ≤ 100) (hl2 : (Lib.itoa y).length ≤ 100) :
    Calls Tryd.prog 90 #[.pointer (some ⟨b, 0, none⟩), .pointer (some ⟨P, 0, none⟩)] w fun e w' => e = .returned (.tuple #[]) ∧ Wr B b (k + 2) (pairB x y) w' ∧ Below B w w' := by
  have W1 : Hid (∀ W l, Wr B b k l W → l.length ≤ 10000 → B ≤ W.heap.size → Calls Tryd.prog 96 #[.pointer (some ⟨b, 0, none⟩), .int .u8 40] W fun e w' => e = .returned .nilIface ∧ Wr B b k (l ++ [40]) w' ∧ Below B W w') := fun W l h1 h2 h3 => writeB B b k l 40 40 rfl W h1 h2 h3
  have W2 : Hid (∀ W l, Wr B b (k + 2) l W → l.length ≤ 10000 → B ≤ W.heap.size → Calls Tryd.prog 96 #[.pointer (some ⟨b, 0, none⟩), .int .u8 41] W fun e w' => e = .returned .nilIface ∧ Wr B b (k + 2) (l ++ [41]) w' ∧ Below B W w') := fun W l h1 h2 h3 => writeB B b (k + 2) l 41 41 rfl W h1 h2 h3
  have WD : Hid (∀ W l, Wr B b (k + 1) l W → l.length ≤ 10000 → B ≤ W.heap.size → Calls Tryd.prog 88 #[.pointer (some ⟨b, 0, none⟩), .string dotB] W fun e w' => e = .returned (.tuple #[.int .i64 3, .nilIface]) ∧ Wr B b (k + 1) (l ++ [32, 46, 32]) w' ∧ Below B W w') := fun W l h1 h2 h3 => by
    have e : dotB.size = 3 := rfl
    have := WriteString_any B b (k + 1) l dotB W h1 (by rw [e]; omega) h3
    rw [e] at this
    exact this
  have VX : Hid (∀ W l, Wr B b k l W → l.length ≤ 10000 → B ≤ W.heap.size → Tab T W → Calls Tryd.prog 81 #[.pointer (some ⟨b, 0, none⟩), .iface 104 (.int .i64 x)] W fun e w' => e = .returned (.tuple #[]) ∧ Wr B b (k + 1) (l ++ Lib.itoa x) w' ∧ Below B W w') := fun W l q1 q2 q3 q4 => value_num T B b k x l W q1 hk0 (by omega) q2 q3 q4 hT h1 hl1
  have VY : Hid (∀ W l, Wr B b (k + 1) l W → l.length ≤ 10000 → B ≤ W.heap.size → Tab T W → Calls Tryd.prog 81 #[.pointer (some ⟨b, 0, none⟩), .iface 104 (.int .i64 y)] W fun e w' => e = .returned (.tuple #[]) ∧ Wr B b (k + 2) (l ++ Lib.itoa y) w' ∧ Below B W w') := fun W l q1 q2 q3 q4 => by
    have := value_num T B b (k + 1) y l W q1 (by omega) (by omega) q2 q3 q4 hT h2 hl2
    rw [show k + 1 + 1 = k + 2 by omega] at this
    exact this
  have VS := hidd (fun W (hb : Below B w W) => values_num P x y W ((hb.block P hPB).trans hP))
  have hta := assertPP (.int .i64 y)
  have hnt := neq_nothing y
  have HW := hidd h
  have HT := hidd ht
  have HL : Hid ((Lib.itoa x).length ≤ 100 ∧ (Lib.itoa y).length ≤ 100 ∧ B ≤ w.heap.size ∧ T ≤ B) := ⟨hl1, hl2, hBw, hT⟩
  have HPB : Hid (pairB x y = [] ++ [40] ++ Lib.itoa x ++ [32, 46, 32] ++ Lib.itoa y ++ [41]) := by simp [pairB, Hid]
  clear h ht hP hPB h1 h2 hl1 hl2 hk0 hk hBw hT
  generalize Lib.itoa x = sx at *
  generalize Lib.itoa y = sy at *
  have hd : dotB = ⟨#[32, 46, 32]⟩ := rfl
  rw [hd] at WD
  clear hd
  go_enter Tryd.func90, Tryd.ntmps90
  go_wp2_with fail
  refine (W1.out w [] HW.out (by simp) HL.out.2.2.1).mono ?_
  rintro e w1 ⟨rfl, hw1, hb1⟩
  have HB1 := hidd hb1
  have HW1 := hidd hw1
  clear hw1 hb1
  go_wp2_with fail
  refine (VS.out _ HB1.out).mono ?_
  rintro e w2 ⟨rfl, hb2⟩
  have HB2 := hidd (HB1.out.trans (hb2.mono (Nat.le_trans HL.out.2.2.1 HB1.out.size)))
  have HW2 := hidd (HW1.out.below hb2)
  clear hb2 HB1 HW1
  go_wp2_with fail
  refine (VX.out w2 _ HW2.out (by simp) (Nat.le_trans HL.out.2.2.1 HB2.out.size) (HT.out.below (HB2.out.mono HL.out.2.2.2))).mono ?_
  rintro e w3 ⟨rfl, hw3, hb3⟩
  have HB3 := hidd (HB2.out.trans hb3)
  have HW3 := hidd hw3
  clear hw3 hb3
  go_wp2_with fail
  refine wp_loop_rounds 1 ?_
  rw [rounds_succ]
  go_wp2_with fail
  refine (WD.out w3 _ HW3.out (by have := HL.out.1; simp; omega) (Nat.le_trans HL.out.2.2.1 HB3.out.size)).mono ?_
  rintro e w4 ⟨rfl, hw4, hb4⟩
  have HB4 := hidd (HB3.out.trans hb4)
  have HW4 := hidd hw4
  clear hw4 hb4
  go_wp2_with fail
  refine (VY.out w4 _ HW4.out (by have := HL.out.1; simp; omega) (Nat.le_trans HL.out.2.2.1 HB4.out.size) (HT.out.below (HB4.out.mono HL.out.2.2.2))).mono ?_
  rintro e w5 ⟨rfl, hw5, hb5⟩
  have HB5 := hidd (HB4.out.trans hb5)
  have HW5 := hidd hw5
  clear hw5 hb5
  go_wp2_with fail
  refine (W2.out w5 _ HW5.out (by have := HL.out.1; have := HL.out.2.1; simp; omega) (Nat.le_trans HL.out.2.2.1 HB5.out.size)).mono ?_
  rintro e w6 ⟨rfl, hw6, hb6⟩
  have HB6 := hidd (HB5.out.trans hb6)
  go_wp2_with fail
  go_end0
  exact ⟨rfl, HPB.out ▸ hw6, HB6.out⟩
theorem assertNoP (v : Value) (w : World) : (Instr.typeAssert (.iface 158 v) 77 104 true).run Tryd.prog w = .ok (.tuple #[.int .i64 0, .bool false]) w := by
  obtain ⟨i, hi, hz⟩ := Option.map_eq_some_iff.1 (show (Tryd.prog.info? 104).map (·.zero) = some (some (.int .i64 0)) by kernel_rfl)
  simp [Instr.typeAssert, run_underlying Tryd.underlying104, hi, hz]
theorem assertTrP (v : Value) (w : World) : (Instr.typeAssert (.iface 158 v) 77 105 true).run Tryd.prog w = .ok (.tuple #[.bool false, .bool false]) w := by
  obtain ⟨i, hi, hz⟩ := Option.map_eq_some_iff.1 (show (Tryd.prog.info? 105).map (·.zero) = some (some (.bool false)) by kernel_rfl)
  simp [Instr.typeAssert, run_underlying Tryd.underlying105, hi, hz]
theorem assertSyP (v : Value) (w : World) : (Instr.typeAssert (.iface 158 v) 77 137 true).run Tryd.prog w = .ok (.tuple #[.string ⟨#[]⟩, .bool false]) w := by
  obtain ⟨i, hi, hz⟩ := Option.map_eq_some_iff.1 (show (Tryd.prog.info? 137).map (·.zero) = some (some (.string ⟨#[]⟩)) by kernel_rfl)
  simp [Instr.typeAssert, run_underlying Tryd.underlying137, hi, hz]
theorem assertNtP (v : Value) (w : World) : (Instr.typeAssert (.iface 158 v) 77 157 true).run Tryd.prog w = .ok (.tuple #[.agg #[], .bool false]) w := by
  obtain ⟨i, hi, hz⟩ := Option.map_eq_some_iff.1 (show (Tryd.prog.info? 157).map (·.zero) = some (some (.agg #[])) by kernel_rfl)
  simp [Instr.typeAssert, run_underlying Tryd.underlying157, hi, hz]
theorem assertPrP (v : Value) (w : World) : (Instr.typeAssert (.iface 158 v) 77 158 true).run Tryd.prog w = .ok (.tuple #[v, .bool true]) w := by
  simp [Instr.typeAssert, run_underlying Tryd.underlying158]
set_option maxRecDepth 100000 in
set_option maxHeartbeats 1600000 in
theorem value_pair (T B b P : Nat) (x y : Int) (w : World) (h : Wr B b 0 [] w) (hBw : B ≤ w.heap.size) (ht : Tab T w) (hT : T ≤ B) (hP : Pr P x y w) (hPB : P < B)
    (h1 : rangeN x = true) (h2 : rangeN y = true) (hl1 : (Lib.itoa x).length ≤ 100) (hl2 : (Lib.itoa y).length ≤ 100) :
    Calls Tryd.prog 81 #[.pointer (some ⟨b, 0, none⟩), .iface 158 (.pointer (some ⟨P, 0, none⟩))] w fun e w' => e = .returned (.tuple #[]) ∧ Wr B b 3 (pairB x y) w' ∧ Below B w w' := by
  obtain ⟨hB, c2, z2⟩ := h.parts
  have a1 := assertNoP (.pointer (some ⟨P, 0, none⟩))
  have a2 := assertTrP (.pointer (some ⟨P, 0, none⟩))
  have a3 := assertSyP (.pointer (some ⟨P, 0, none⟩))
  have a4 := assertNtP (.pointer (some ⟨P, 0, none⟩))
  have a5 := assertPrP (.pointer (some ⟨P, 0, none⟩))
  have HW := hidd (h.node 1)
  have HB : Hid (Below B w (w.setCell ⟨b, 2, none⟩ (.int .i64 1))) := (Below.refl B w).setCell (p := ⟨b, 2, none⟩) hB _
  have HSZ : Hid (B ≤ (w.setCell ⟨b, 2, none⟩ (.int .i64 1)).heap.size) := by
    have e : (w.setCell ⟨b, 2, none⟩ (.int .i64 1)).heap.size = w.heap.size := by simp
    exact e ▸ hBw
  have TR := hidd (pair_num T B b P 1 x y _ HW.out (by omega) (by omega) HSZ.out (ht.below (HB.out.mono hT)) hT ((HB.out.block P hPB).trans hP) hPB h1 h2 hl1 hl2)
  clear h hP ht
  obtain ⟨W1, hW1⟩ : ∃ W1, W1 = w.setCell ⟨b, 2, none⟩ (.int .i64 1) := ⟨_, rfl⟩
  have d2 : W1.cell? ⟨b, 2, none⟩ = some (.int .i64 1) := by rw [hW1]; exact HW.out.parts.2.1
  rw [← hW1] at HW HB HSZ TR
  have hw1 := hW1.symm
  clear hW1
  go_enter Tryd.func81, Tryd.ntmps81
  go_wp2_with fail
  refine (Must_yes _ _).mono ?_
  rintro e w1 ⟨rfl, rfl⟩
  go_wp2_with fail
  refine TR.out.mono ?_
  rintro e w3 ⟨rfl, hw3, hb3⟩
  go_wp2_with fail
  go_end0
  exact ⟨rfl, hw3, HB.out.trans hb3⟩
end
end Go.Proofs.YthooljlikllnpaaDoor
