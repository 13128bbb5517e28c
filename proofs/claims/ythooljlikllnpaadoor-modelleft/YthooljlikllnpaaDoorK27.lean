/- Chapter 7: package model: values that are not known ahead: a row of expressions, a call. -/
import Derived.Test.YthooljlikllnpaaDoorK26
namespace Go.Proofs.YthooljlikllnpaaDoor
set_option linter.unusedVariables false
set_option linter.unusedSimpArgs false
open Go.RowKit

/-- What eval tells of one expression: a value, of which something is known. -/
def EvV (rb : Nat) (R : TypeId → Value → World → Prop) (w : World) (e : Ending) (w' : World) : Prop :=
  Keep rb w w' ∧ ∃ t x, e = .returned (.iface t x) ∧ R t x w'
theorem EvV.of {rb : Nat} {t : TypeId} {x : Value} {E : List PanicEntry} {R D : World → Prop} {w : World} {e : Ending} {w' : World} (h : Ev rb true (.iface t x) E R D w e w') : EvV rb (fun t' x' W => t' = t ∧ x' = x ∧ R W) w e w' := by
  obtain ⟨hk, h | h⟩ := h
  · exact ⟨hk, t, x, h.2.1, rfl, rfl, h.2.2⟩
  · cases h.1
set_option maxRecDepth 100000 in
set_option maxHeartbeats 3200000 in
theorem all_val (rb lb lo n cap : Nat) (fr : Value) (R : List (TypeId × Value) → World → Prop) (w : World)
    (hn : n ≤ 1000) (hcap : n ≤ cap) (hrb : rb < w.heap.size)
    (hst : ∀ vs W N cs q v, W.heap[N]? = some (.cells cs 77 (0, 0)) → w.heap.size ≤ N → R vs W → R vs (W.setCell ⟨N, q, none⟩ v))
    (h0 : ∀ W, Below w.heap.size w W → R [] W)
    (IH : ∀ vs W, vs.length < n → Keep rb w W → R vs W → Calls Tryd.prog 28 #[.pointer (some ⟨rb, 0, none⟩), .pointer (some ⟨lb, lo + vs.length * 12, none⟩), fr] W (EvV rb (fun t x => R (vs ++ [(t, x)])) W)) :
    Calls Tryd.prog 45 #[.pointer (some ⟨rb, 0, none⟩), .slice (some ⟨lb, lo, none⟩) n cap, fr] w fun e w' => Keep rb w w' ∧ ∃ N vs, w.heap.size ≤ N ∧ N < w'.heap.size ∧ e = .returned (.slice (some ⟨N, 0, none⟩) n n) ∧ vs.length = n ∧ (∀ j t x, vs[j]? = some (t, x) → w'.cell? ⟨N, j, none⟩ = some (.iface t x)) ∧ R vs w' := by
  have IHH := hidd IH
  have HST := hidd hst
  have H0 := hidd h0
  clear IH hst h0
  have hmk := make_vals n hn w
  have HROW : Hid ((w.alloc (.cells (List.replicate n Value.nilIface).toArray 77)).heap[w.heap.size]? = some (.cells (List.replicate n Value.nilIface).toArray 77 (0, 0))) := World.alloc_heap_new w _
  have HKP : Hid (Keep rb w (w.alloc (.cells (List.replicate n Value.nilIface).toArray 77))) := (Keep.refl rb w).alloc _
  have HR0 : Hid (R [] (w.alloc (.cells (List.replicate n Value.nilIface).toArray 77))) := H0.out _ ((Below.refl w.heap.size w).alloc (Nat.le_refl _) _)
  have HSZ : Hid (w.heap.size < (w.alloc (.cells (List.replicate n Value.nilIface).toArray 77)).heap.size) := alloc_lt _ _
  go_enter Tryd.func45, Tryd.ntmps45
  go_wp2_with fail
  go_loopw [14] (fun ix wr => ∃ (j : Nat) (vs : List (TypeId × Value)) (cs : Array Value), j ≤ n ∧ ix = .int .i64 j ∧ vs.length = j ∧ Keep rb w wr ∧ R vs wr ∧ w.heap.size < wr.heap.size ∧ wr.heap[w.heap.size]? = some (.cells cs 77 (0, 0)) ∧ cs.size = n ∧ (∀ (i : Nat) (t : TypeId) (x : Value), vs[i]? = some (t, x) → cs[i]? = some (Value.iface t x))) (fun ix _ => n - (intOf ix).toNat)
  case atStart => exact ⟨0, [], _, Nat.zero_le _, rfl, rfl, HKP.out, HR0.out, HSZ.out, HROW.out, by rw [List.size_toArray, List.length_replicate], fun i t x hi => by simp at hi⟩
  case round =>
    obtain ⟨j, vs, cs, hj, rfl, hv, hk, hR, hN, hb, hcs, hfs⟩ := hrel
    have HV := hidd hv
    clear hv
    by_cases hlt : j < n
    · have HE : Hid (Calls Tryd.prog 28 #[.pointer (some ⟨rb, 0, none⟩), .pointer (some ⟨lb, lo + j * 12, none⟩), fr] wr (EvV rb (fun t x => R (vs ++ [(t, x)])) wr)) := by
        have := IHH.out vs wr (by rw [HV.out]; exact hlt) hk hR
        rw [HV.out] at this
        exact this
      have HK := hidd hk
      have HF : Hid (cs.size = n ∧ w.heap.size < wr.heap.size ∧ ∀ (i : Nat) (t : TypeId) (x : Value), vs[i]? = some (t, x) → cs[i]? = some (Value.iface t x)) := ⟨hcs, hN, hfs⟩
      have HB := hidd hb
      clear hk hR hcs hfs hb IHH H0 HR0 HKP HROW hmk
      go_wp2_with fail
      refine HE.out.mono ?_
      rintro e w3 ⟨hk3, t, x, rfl, hR3⟩
      have hkk := HK.out.trans hk3
      have hbb : w3.heap[w.heap.size]? = some (.cells cs 77 (0, 0)) := (hk3.block _ HF.out.2.1 (by simp; omega)).trans HB.out
      have hjs : j < cs.size := by rw [HF.out.1]; exact hlt
      have HX : Hid (Keep rb w (w3.setCell ⟨w.heap.size, j, none⟩ (.iface t x)) ∧ R (vs ++ [(t, x)]) (w3.setCell ⟨w.heap.size, j, none⟩ (.iface t x))) := ⟨hkk.setNew _ (Nat.le_refl _) _, HST.out _ w3 _ _ _ _ hbb (Nat.le_refl _) hR3⟩
      have hy : w.heap.size < (w3.setCell ⟨w.heap.size, j, none⟩ (.iface t x)).heap.size := by
        have h1 := hk3.size
        have h2 := HF.out.2.1
        have e : (w3.setCell ⟨w.heap.size, j, none⟩ (.iface t x)).heap.size = w3.heap.size := by simp
        rw [e]
        omega
      have HY := hidd hy
      clear hy
      have HZ : Hid ((w3.setCell ⟨w.heap.size, j, none⟩ (.iface t x)).heap[w.heap.size]? = some (.cells (cs.setIfInBounds j (.iface t x)) 77 (0, 0))) := cell_setV hbb _
      have c1 : w3.cell? ⟨w.heap.size, j, none⟩ = some cs[j] := (cellO hbb).trans (by simp [hjs])
      have z1 := looseO (q := j) hbb
      go_wp2_with fail
      go_roundw
      case rel =>
        refine ⟨j + 1, vs ++ [(t, x)], cs.setIfInBounds j (.iface t x), hlt, by go_num, by rw [List.length_append, HV.out]; rfl, HX.out.1, HX.out.2, HY.out, HZ.out, by rw [Array.size_setIfInBounds]; exact HF.out.1, fun i t' x' hi => ?_⟩
        by_cases e : i = j
        · subst e
          rw [List.getElem?_append_right (by rw [HV.out]; exact Nat.le_refl _), HV.out, Nat.sub_self] at hi
          simp at hi
          obtain ⟨rfl, rfl⟩ := hi
          simp [hjs]
        · have hij : i < vs.length := by
            have := (List.getElem?_eq_some_iff.1 hi).1
            rw [List.length_append] at this
            simp at this
            rw [HV.out] at this ⊢
            omega
          rw [List.getElem?_append_left hij] at hi
          rw [Array.getElem?_setIfInBounds, if_neg (fun h => e h.symm)]
          exact HF.out.2.2 i t' x' hi
      case measure => simp [intOf]; omega
    · obtain rfl : j = n := by omega
      go_wp2_with fail
      go_ret
      exact ⟨hk, _, vs, Nat.le_refl _, hN, rfl, HV.out, fun i t x hi => (cellO hb).trans (hfs i t x hi), hR⟩
set_option maxRecDepth 100000 in
set_option maxHeartbeats 400000 in
theorem call_primV1 (rb N : Nat) (s : ByteArray) (R : TypeId → Value → World → Prop) (w : World)
    (k0 : w.cell? ⟨N, 0, none⟩ = some (.iface 114 (.string s)))
    (PR : Calls Tryd.prog 59 #[.pointer (some ⟨rb, 0, none⟩), .string s, .slice (some ⟨N, 1, none⟩) 1 1] w (EvV rb R w)) :
    Calls Tryd.prog 44 #[.pointer (some ⟨rb, 0, none⟩), .slice (some ⟨N, 0, none⟩) 2 2] w (EvV rb R w) := by
  have HP := hidd PR
  clear PR
  have hta := assertP (.string s)
  go_enter Tryd.func44, Tryd.ntmps44
  go_wp2_with fail
  refine HP.out.mono ?_
  rintro e w3 ⟨hk3, t, x, rfl, hq⟩
  go_wp2_with fail
  go_ret
  exact ⟨hk3, t, x, rfl, hq⟩
set_option maxRecDepth 100000 in
set_option maxHeartbeats 400000 in
theorem call_primV2 (rb N : Nat) (s : ByteArray) (R : TypeId → Value → World → Prop) (w : World)
    (k0 : w.cell? ⟨N, 0, none⟩ = some (.iface 114 (.string s)))
    (PR : Calls Tryd.prog 59 #[.pointer (some ⟨rb, 0, none⟩), .string s, .slice (some ⟨N, 1, none⟩) 2 2] w (EvV rb R w)) :
    Calls Tryd.prog 44 #[.pointer (some ⟨rb, 0, none⟩), .slice (some ⟨N, 0, none⟩) 3 3] w (EvV rb R w) := by
  have HP := hidd PR
  clear PR
  have hta := assertP (.string s)
  go_enter Tryd.func44, Tryd.ntmps44
  go_wp2_with fail
  refine HP.out.mono ?_
  rintro e w3 ⟨hk3, t, x, rfl, hq⟩
  go_wp2_with fail
  go_ret
  exact ⟨hk3, t, x, rfl, hq⟩
set_option maxRecDepth 100000 in
set_option maxHeartbeats 3200000 in
theorem eval_callV (rb cb co lb lo n cap : Nat) (tv gm fr : Value) (left calls : Int) (R : List (TypeId × Value) → World → Prop) (R' : TypeId → Value → World → Prop) (w : World)
    (hr : RN rb tv left calls gm w) (hl : 0 < left) (hl9 : left ≤ 1000000) (hc : rb ≠ cb) (hn : n ≤ 1000) (hcap : n ≤ cap) (hrb : rb < w.heap.size)
    (k0 : w.cell? ⟨cb, co, none⟩ = some (.int .i64 9)) (k11 : w.cell? ⟨cb, co + 11, none⟩ = some (.slice (some ⟨lb, lo, none⟩) n cap))
    (hst : ∀ vs W N cs q v, W.heap[N]? = some (.cells cs 77 (0, 0)) → w.heap.size ≤ N → R vs W → R vs (W.setCell ⟨N, q, none⟩ v))
    (h0 : ∀ W, Below w.heap.size (w.setCell ⟨rb, 1, none⟩ (.int .i64 (left - 1))) W → R [] W)
    (IH : ∀ vs W, vs.length < n → Keep rb w W → R vs W → Calls Tryd.prog 28 #[.pointer (some ⟨rb, 0, none⟩), .pointer (some ⟨lb, lo + vs.length * 12, none⟩), fr] W (EvV rb (fun t x => R (vs ++ [(t, x)])) W))
    (CL : ∀ N vs W, w.heap.size ≤ N → N < W.heap.size → Keep rb w W → vs.length = n → R vs W → (∀ j t x, vs[j]? = some (t, x) → W.cell? ⟨N, j, none⟩ = some (.iface t x)) → Calls Tryd.prog 44 #[.pointer (some ⟨rb, 0, none⟩), .slice (some ⟨N, 0, none⟩) n n] W (EvV rb R' W)) :
    Calls Tryd.prog 28 #[.pointer (some ⟨rb, 0, none⟩), .pointer (some ⟨cb, co, none⟩), fr] w (EvV rb R' w) := by
  have c1 : w.cell? ⟨rb, 1, none⟩ = some (.int .i64 left) := (cellO hr).trans rfl
  have z1 := looseO (q := 1) hr
  have hg : decide (left > 0) = true := by simp; omega
  have hg' : decide (0 < left) = true := by simp; omega
  have HK1 : Hid (Keep rb w (w.setCell ⟨rb, 1, none⟩ (.int .i64 (left - 1)))) := (Keep.refl rb w).setCell _ rfl _
  have hs : (w.setCell ⟨rb, 1, none⟩ (.int .i64 (left - 1))).heap.size = w.heap.size := by simp
  have HAL : Hid (Calls Tryd.prog 45 #[.pointer (some ⟨rb, 0, none⟩), .slice (some ⟨lb, lo, none⟩) n cap, fr] (w.setCell ⟨rb, 1, none⟩ (.int .i64 (left - 1))) _) := hidd
    (all_val rb lb lo n cap fr R (w.setCell ⟨rb, 1, none⟩ (.int .i64 (left - 1))) hn hcap (by rw [hs]; exact hrb) (fun vs W N cs q v h1 h2 h3 => hst vs W N cs q v h1 (by rw [hs] at h2; exact h2) h3) (fun W hb => h0 W (by rw [hs] at hb; exact hb)) (fun vs W hj hk hR => IH vs W hj (HK1.out.trans hk) hR))
  have HCL := hidd CL
  have HR := hidd hr
  have HS := hidd hs
  clear CL IH h0 hst hr hs
  go_enter Tryd.func28, Tryd.ntmps28
  go_wp2_with fail
  refine (Must_yes 2 _).mono ?_
  rintro e w1 ⟨rfl, rfl⟩
  go_wp2_with fail
  refine HAL.out.mono ?_
  rintro e w3 ⟨hk3, N, vs, hN, hN3, rfl, hvl, hcs, hR3⟩
  have HK3 : Hid (Keep rb w1 w3) := HK1.out.trans hk3
  have HC := hidd (HCL.out N vs w3 (by rw [HS.out] at hN; exact hN) hN3 HK3.out hvl hR3 hcs)
  clear HCL HAL HR hR3 hcs hk3 HK1 hvl
  go_wp2_with fail
  refine HC.out.mono ?_
  rintro e w4 ⟨hk4, t, x, rfl, hR4⟩
  go_wp2_with fail
  go_ret
  exact ⟨HK3.out.trans hk4, t, x, rfl, hR4⟩
end Go.Proofs.YthooljlikllnpaaDoor
