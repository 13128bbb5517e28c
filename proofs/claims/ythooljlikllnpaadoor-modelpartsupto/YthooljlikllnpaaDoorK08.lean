/- Chapter 7: package value: a primitive of two numbers. Chapter 7: package model: the values of a row of expressions, over what eval tells of each. Chapter 7: package model: a primitive is called; a call is evaluated. Chapter 7: package model: a call of a primitive on two numbers is evaluated. -/
import Derived.Deep.RegionWith
import Derived.RegionDies
import Derived.Test.YthooljlikllnpaaDoorK07
namespace Go.Proofs.YthooljlikllnpaaDoor
section
set_option linter.unusedVariables false
set_option linter.unusedSimpArgs false
open Go.RowKit

set_option maxRecDepth 100000 in
set_option maxHeartbeats 3200000 in
theorem ofTwo_num (f : Fin 4) (a b : Int) (w : World) (h1 : rangeN a = true) (h2 : rangeN b = true) : Calls Tryd.prog 74 #[.string (opB f), .iface 104 (.int .i64 a), .iface 104 (.int .i64 b)] w (ValOr (opOk f a b) (opV f a b) 6 w) := by
  have ON := hidd (ofNumbers_any f a b w h1 h2)
  have NA := hidd (fun w => numberOf_any a w)
  have NB := hidd (fun w => numberOf_any b w)
  obtain ⟨s, hs⟩ : ∃ s, s = opB f := ⟨_, rfl⟩
  have c1 : (s.toList == [99, 111, 110, 115]) = false := by rw [hs]; match f with | 0 => decide +kernel | 1 => decide +kernel | 2 => decide +kernel | 3 => decide +kernel
  have c2 : (s.toList == [101, 113, 63]) = false := by rw [hs]; match f with | 0 => decide +kernel | 1 => decide +kernel | 2 => decide +kernel | 3 => decide +kernel
  rw [← hs] at ON ⊢
  obtain ⟨q, hq⟩ : ∃ q, q = opOk f a b := ⟨_, rfl⟩
  obtain ⟨v, hv⟩ : ∃ v, v = opV f a b := ⟨_, rfl⟩
  rw [← hq, ← hv] at ON ⊢
  clear hs hq hv h1 h2
  go_enter Tryd.func74, Tryd.ntmps74
  go_wp2_with fail
  refine (NA.out _).mono ?_
  rintro e w1 ⟨rfl, rfl⟩
  go_wp2_with fail
  refine (NB.out _).mono ?_
  rintro e w1 ⟨rfl, rfl⟩
  go_wp2_with fail
  refine ON.out.mono ?_
  rintro e w1 ⟨rfl, rfl⟩
  cases q
  · go_wp2_with fail
    exact ⟨rfl, rfl, rfl⟩
  · go_wp2_with fail
    go_ret
    exact ⟨rfl, rfl⟩
/-- A value, or an end; all that was there stays. -/
def ValOrB (b : Bool) (v : Value) (how : Int) (w : World) (e : Ending) (w' : World) : Prop := (e = if b then .returned v else .panicked (endP how)) ∧ Below w.heap.size w w'
set_option maxRecDepth 100000 in
set_option maxHeartbeats 3200000 in
theorem prim_two (f : Fin 4) (a b : Int) (ov : Value) (ab ao c : Nat) (w : World) (h1 : rangeN a = true) (h2 : rangeN b = true) (k0 : w.cell? ⟨ab, ao, none⟩ = some (.iface 104 (.int .i64 a))) (k1 : w.cell? ⟨ab, ao + 1, none⟩ = some (.iface 104 (.int .i64 b))) :
    Calls Tryd.prog 59 #[ov, .string (opB f), .slice (some ⟨ab, ao, none⟩) 2 c] w (ValOrB (opOk f a b) (opV f a b) 6 w) := by
  have OT := hidd (fun w => ofTwo_num f a b w h1 h2)
  obtain ⟨s, hs⟩ : ∃ s, s = opB f := ⟨_, rfl⟩
  have AR : Hid (∀ w, Calls Tryd.prog 64 #[.string s] w fun e w' => e = .returned (.int .i64 2) ∧ w' = w) := fun w => by
    have e : argsB s = 2 := by rw [hs]; match f with | 0 => decide +kernel | 1 => decide +kernel | 2 => decide +kernel | 3 => decide +kernel
    have := argsOf_any s w
    rw [e] at this
    exact this
  have c1 : (s.toList == [111, 117, 116]) = false := by rw [hs]; match f with | 0 => decide +kernel | 1 => decide +kernel | 2 => decide +kernel | 3 => decide +kernel
  rw [← hs] at OT ⊢
  obtain ⟨q, hq⟩ : ∃ q, q = opOk f a b := ⟨_, rfl⟩
  obtain ⟨v, hv⟩ : ∃ v, v = opV f a b := ⟨_, rfl⟩
  rw [← hq, ← hv] at OT ⊢
  clear hs hq hv h1 h2
  go_enter Tryd.func59, Tryd.ntmps59
  go_wp2_with fail
  refine (AR.out _).mono ?_
  rintro e w1 ⟨rfl, rfl⟩
  go_wp2_with fail
  refine (Must_yes _ _).mono ?_
  rintro e w1 ⟨rfl, rfl⟩
  cases q
  · go_wp2_with fail
    go_region_dies
    all_goals
      refine (OT.out _).mono ?_
      rintro e w1 ⟨rfl, rfl⟩
      go_wp2_with fail
      exact ⟨rfl, rfl, Below.drew (Below.refl _ _)⟩
  · go_wp2_with fail
    go_region_with (go_at_call 74; refine (OT.out _).mono ?_; rintro e w1 ⟨rfl, rfl⟩)
    all_goals
      go_wp2_with fail
      go_ret
      exact ⟨rfl, Below.drew (Below.refl _ _)⟩
end
section
set_option linter.unusedVariables false
set_option linter.unusedSimpArgs false
open Go.RowKit

theorem infoVal : (Tryd.prog.info? 77).map (fun i => (i.zero, i.size, i.bytes)) = some (some .nilIface, 1, 16) := by kernel_rfl
theorem made_oneV (n : Nat) (x : Value) : madeCells #[x] n = (List.replicate n x).toArray := by
  unfold madeCells
  apply Array.ext
  · simp
  · intro i h1 h2
    simp [Nat.mod_one]
theorem make_vals (n : Nat) (hn : n ≤ 1000) (w : World) : (Instr.makeSlice 81 (.int .i64 n) (.int .i64 n)).run Tryd.prog w = .ok (.slice (some ⟨w.heap.size, 0, none⟩) n n) (w.alloc (.cells (List.replicate n Value.nilIface).toArray 77)) := by
  obtain ⟨i0, hinf, hz0, hz1, hz2⟩ := info_parts infoVal
  have := run_makeSlice (P := Tryd.prog) w 81 77 i0 .nilIface Tryd.underlying81 hinf hz0 .i64 .i64 n n (by omega) (Int.le_refl _) (by rw [hz1]; simp; omega) (by rw [hz2]; omega) (by omega)
  rw [hz1] at this
  simpa [Value.cells, made_oneV, Value.nilIface] using this
theorem cell_setV {W : World} {N q : Nat} {cs : Array Value} {t : TypeId} (h : W.heap[N]? = some (.cells cs t (0, 0))) (v : Value) : (W.setCell ⟨N, q, none⟩ v).heap[N]? = some (.cells (cs.setIfInBounds q v) t (0, 0)) := heap_setCell_same W N q cs t v h
theorem alloc_lt (w : World) (o : Obj) : w.heap.size < (w.alloc o).heap.size := by
  have h := World.alloc_heap_new w o
  exact (Array.getElem?_eq_some_iff.mp h).1
/-- What eval tells of one expression: a value, or an end. -/
def Ev (rb : Nat) (b : Bool) (v : Value) (E : List PanicEntry) (R D : World → Prop) (w : World) (e : Ending) (w' : World) : Prop :=
  Keep rb w w' ∧ ((b = true ∧ e = .returned v ∧ R w') ∨ (b = false ∧ e = .panicked E ∧ D w'))
/-- What is told of a row of them. -/
def EvA (rb n : Nat) (ok : Nat → Bool) (ft : Nat → TypeId) (fx : Nat → Value) (E : List PanicEntry) (R : Nat → World → Prop) (D : World → Prop) (w : World) (e : Ending) (w' : World) : Prop :=
  Keep rb w w' ∧ (((∀ j, j < n → ok j = true) ∧ (∃ N, w.heap.size ≤ N ∧ N < w'.heap.size ∧ e = .returned (.slice (some ⟨N, 0, none⟩) n n) ∧ ∀ j, j < n → w'.cell? ⟨N, j, none⟩ = some (.iface (ft j) (fx j))) ∧ R n w')
    ∨ ((∃ j, j < n ∧ ok j = false) ∧ e = .panicked E ∧ D w'))
set_option maxRecDepth 100000 in
set_option maxHeartbeats 3200000 in
theorem all_any (rb lb lo n cap : Nat) (fr : Value) (ok : Nat → Bool) (ft : Nat → TypeId) (fx : Nat → Value) (E : List PanicEntry) (R : Nat → World → Prop) (D : World → Prop) (w : World)
    (hn : n ≤ 1000) (hcap : n ≤ cap) (hrb : rb < w.heap.size) (hst : ∀ j W W', W'.heap[rb]? = W.heap[rb]? → R j W → R j W')
    (h0 : R 0 w)
    (IH : ∀ j W, j < n → Keep rb w W → R j W → Calls Tryd.prog 28 #[.pointer (some ⟨rb, 0, none⟩), .pointer (some ⟨lb, lo + j * 12, none⟩), fr] W (Ev rb (ok j) (.iface (ft j) (fx j)) E (R (j + 1)) D W)) :
    Calls Tryd.prog 45 #[.pointer (some ⟨rb, 0, none⟩), .slice (some ⟨lb, lo, none⟩) n cap, fr] w (EvA rb n ok ft fx E R D w) := by
  have IHH := hidd IH
  have HST := hidd hst
  have H0 := hidd h0
  clear IH hst h0
  have hmk := make_vals n hn w
  have HROW : Hid ((w.alloc (.cells (List.replicate n Value.nilIface).toArray 77)).heap[w.heap.size]? = some (.cells (List.replicate n Value.nilIface).toArray 77 (0, 0))) := World.alloc_heap_new w _
  have HKP : Hid (Keep rb w (w.alloc (.cells (List.replicate n Value.nilIface).toArray 77))) := (Keep.refl rb w).alloc _
  have HR0 : Hid (R 0 (w.alloc (.cells (List.replicate n Value.nilIface).toArray 77))) := HST.out 0 w _ (Below.block ((Below.refl w.heap.size w).alloc (Nat.le_refl _) _) rb hrb) H0.out
  have HSZ : Hid (w.heap.size < (w.alloc (.cells (List.replicate n Value.nilIface).toArray 77)).heap.size) := alloc_lt _ _
  go_enter Tryd.func45, Tryd.ntmps45
  go_wp2_with fail
  go_loopw [14] (fun ix wr => ∃ (j : Nat) (cs : Array Value), j ≤ n ∧ ix = .int .i64 j ∧ Keep rb w wr ∧ R j wr ∧ w.heap.size < wr.heap.size ∧ wr.heap[w.heap.size]? = some (.cells cs 77 (0, 0)) ∧ cs.size = n ∧ (∀ i, i < j → ok i = true ∧ cs[i]? = some (.iface (ft i) (fx i)))) (fun ix _ => n - (intOf ix).toNat)
  case atStart => exact ⟨0, _, Nat.zero_le _, rfl, HKP.out, HR0.out, HSZ.out, HROW.out, by rw [List.size_toArray, List.length_replicate], fun i hi => absurd hi (by omega)⟩
  case round =>
    obtain ⟨j, cs, hj, rfl, hk, hR, hN, hb, hcs, hfs⟩ := hrel
    by_cases hlt : j < n
    · have HE := hidd (IHH.out j wr hlt hk hR)
      have HK := hidd hk
      have HF : Hid (cs.size = n ∧ w.heap.size < wr.heap.size ∧ ∀ i, i < j → ok i = true ∧ cs[i]? = some (.iface (ft i) (fx i))) := ⟨hcs, hN, hfs⟩
      have HB := hidd hb
      clear hk hR hcs hfs hb IHH H0 HR0 HKP HROW hmk
      go_wp2_with fail
      refine HE.out.mono ?_
      rintro e w3 ⟨hk3, hq⟩
      have hkk := HK.out.trans hk3
      have hbb : w3.heap[w.heap.size]? = some (.cells cs 77 (0, 0)) := (hk3.block _ HF.out.2.1 (by simp; omega)).trans HB.out
      rcases hq with ⟨hok, rfl, hR3⟩ | ⟨hok, rfl, hD⟩
      · have hjs : j < cs.size := by rw [HF.out.1]; exact hlt
        have HX : Hid (Keep rb w (w3.setCell ⟨w.heap.size, j, none⟩ (.iface (ft j) (fx j))) ∧ R (j + 1) (w3.setCell ⟨w.heap.size, j, none⟩ (.iface (ft j) (fx j)))) := ⟨hkk.setNew _ (Nat.le_refl _) _, HST.out _ w3 _ (Below.heap_setCell _ _ _ _ (by simp; omega)) hR3⟩
        have hy : w.heap.size < (w3.setCell ⟨w.heap.size, j, none⟩ (.iface (ft j) (fx j))).heap.size := by
          have h1 := hk3.size
          have h2 := HF.out.2.1
          have e : (w3.setCell ⟨w.heap.size, j, none⟩ (.iface (ft j) (fx j))).heap.size = w3.heap.size := by simp
          rw [e]
          omega
        have HY := hidd hy
        clear hy
        have HZ : Hid ((w3.setCell ⟨w.heap.size, j, none⟩ (.iface (ft j) (fx j))).heap[w.heap.size]? = some (.cells (cs.setIfInBounds j (.iface (ft j) (fx j))) 77 (0, 0))) := cell_setV hbb _
        have c1 : w3.cell? ⟨w.heap.size, j, none⟩ = some cs[j] := (cellO hbb).trans (by simp [hjs])
        have z1 := looseO (q := j) hbb
        go_wp2_with fail
        go_roundw
        case rel =>
          refine ⟨j + 1, cs.setIfInBounds j (.iface (ft j) (fx j)), hlt, by go_num, HX.out.1, HX.out.2, HY.out, HZ.out, by rw [Array.size_setIfInBounds]; exact HF.out.1, fun i hi => ?_⟩
          by_cases e : i = j
          · subst e
            exact ⟨hok, by simp [hjs]⟩
          · obtain ⟨g1, g2⟩ := HF.out.2.2 i (by omega)
            exact ⟨g1, by rw [Array.getElem?_setIfInBounds, if_neg (by omega)]; exact g2⟩
        case measure => simp [intOf]; omega
      · go_wp2_with fail
        exact ⟨rfl, hkk, Or.inr ⟨⟨j, hlt, hok⟩, rfl, hD⟩⟩
    · obtain rfl : j = n := by omega
      go_wp2_with fail
      go_ret
      exact ⟨hk, Or.inl ⟨fun i hi => (hfs i hi).1, ⟨_, Nat.le_refl _, hN, rfl, fun i hi => (cellO hb).trans (hfs i hi).2⟩, hR⟩⟩
end
section
set_option linter.unusedVariables false
set_option linter.unusedSimpArgs false
open Go.RowKit

set_option maxRecDepth 100000 in
set_option maxHeartbeats 400000 in
theorem call_prim1 (rb N : Nat) (s : ByteArray) (b : Bool) (t : TypeId) (x : Value) (E : List PanicEntry) (R D : World → Prop) (w : World)
    (k0 : w.cell? ⟨N, 0, none⟩ = some (.iface 114 (.string s)))
    (PR : Calls Tryd.prog 59 #[.pointer (some ⟨rb, 0, none⟩), .string s, .slice (some ⟨N, 1, none⟩) 1 1] w (Ev rb b (.iface t x) E R D w)) :
    Calls Tryd.prog 44 #[.pointer (some ⟨rb, 0, none⟩), .slice (some ⟨N, 0, none⟩) 2 2] w (Ev rb b (.iface t x) E R D w) := by
  have HP := hidd PR
  clear PR
  have hta := assertP (.string s)
  go_enter Tryd.func44, Tryd.ntmps44
  go_wp2_with fail
  refine HP.out.mono ?_
  rintro e w3 ⟨hk3, hq⟩
  rcases hq with ⟨hok, rfl, hR3⟩ | ⟨hok, rfl, hD⟩
  · go_wp2_with fail
    go_ret
    exact ⟨hk3, Or.inl ⟨by first | exact hok | rfl, rfl, hR3⟩⟩
  · go_wp2_with fail
    exact ⟨rfl, hk3, Or.inr ⟨rfl, rfl, hD⟩⟩
set_option maxRecDepth 100000 in
set_option maxHeartbeats 400000 in
theorem call_prim2 (rb N : Nat) (s : ByteArray) (b : Bool) (t : TypeId) (x : Value) (E : List PanicEntry) (R D : World → Prop) (w : World)
    (k0 : w.cell? ⟨N, 0, none⟩ = some (.iface 114 (.string s)))
    (PR : Calls Tryd.prog 59 #[.pointer (some ⟨rb, 0, none⟩), .string s, .slice (some ⟨N, 1, none⟩) 2 2] w (Ev rb b (.iface t x) E R D w)) :
    Calls Tryd.prog 44 #[.pointer (some ⟨rb, 0, none⟩), .slice (some ⟨N, 0, none⟩) 3 3] w (Ev rb b (.iface t x) E R D w) := by
  have HP := hidd PR
  clear PR
  have hta := assertP (.string s)
  go_enter Tryd.func44, Tryd.ntmps44
  go_wp2_with fail
  refine HP.out.mono ?_
  rintro e w3 ⟨hk3, hq⟩
  rcases hq with ⟨hok, rfl, hR3⟩ | ⟨hok, rfl, hD⟩
  · go_wp2_with fail
    go_ret
    exact ⟨hk3, Or.inl ⟨by first | exact hok | rfl, rfl, hR3⟩⟩
  · go_wp2_with fail
    exact ⟨rfl, hk3, Or.inr ⟨rfl, rfl, hD⟩⟩
set_option maxRecDepth 100000 in
set_option maxHeartbeats 3200000 in
theorem eval_call (rb cb co lb lo n cap : Nat) (tv gm fr : Value) (left calls : Int) (ok : Nat → Bool) (ft : Nat → TypeId) (fx : Nat → Value) (b B : Bool) (t : TypeId) (x : Value) (E : List PanicEntry) (R : Nat → World → Prop) (R' D : World → Prop) (w : World)
    (hr : RN rb tv left calls gm w) (hl : 0 < left) (hl9 : left ≤ 1000000) (hc : rb ≠ cb) (hn : n ≤ 1000) (hcap : n ≤ cap) (hrb : rb < w.heap.size)
    (k0 : w.cell? ⟨cb, co, none⟩ = some (.int .i64 9)) (k11 : w.cell? ⟨cb, co + 11, none⟩ = some (.slice (some ⟨lb, lo, none⟩) n cap))
    (hst : ∀ j W W', W'.heap[rb]? = W.heap[rb]? → R j W → R j W')
    (h0 : ∀ W, RN rb tv (left - 1) calls gm W → R 0 W)
    (IH : ∀ j W, j < n → Keep rb w W → R j W → Calls Tryd.prog 28 #[.pointer (some ⟨rb, 0, none⟩), .pointer (some ⟨lb, lo + j * 12, none⟩), fr] W (Ev rb (ok j) (.iface (ft j) (fx j)) E (R (j + 1)) D W))
    (CL : ∀ N W, w.heap.size ≤ N → N < W.heap.size → Keep rb w W → R n W → (∀ j, j < n → W.cell? ⟨N, j, none⟩ = some (.iface (ft j) (fx j))) → Calls Tryd.prog 44 #[.pointer (some ⟨rb, 0, none⟩), .slice (some ⟨N, 0, none⟩) n n] W (Ev rb b (.iface t x) E R' D W))
    (hB : (∀ j, j < n → ok j = true) → B = b) (hB' : (∃ j, j < n ∧ ok j = false) → B = false) :
    Calls Tryd.prog 28 #[.pointer (some ⟨rb, 0, none⟩), .pointer (some ⟨cb, co, none⟩), fr] w (Ev rb B (.iface t x) E R' D w) := by
  have c1 : w.cell? ⟨rb, 1, none⟩ = some (.int .i64 left) := (cellO hr).trans rfl
  have z1 := looseO (q := 1) hr
  have hg : decide (left > 0) = true := by simp; omega
  have hg' : decide (0 < left) = true := by simp; omega
  have HK1 : Hid (Keep rb w (w.setCell ⟨rb, 1, none⟩ (.int .i64 (left - 1)))) := (Keep.refl rb w).setCell _ rfl _
  have HR1 : Hid (RN rb tv (left - 1) calls gm (w.setCell ⟨rb, 1, none⟩ (.int .i64 (left - 1)))) := cell_setV hr _
  have HB : Hid (((∀ j, j < n → ok j = true) → B = b) ∧ ((∃ j, j < n ∧ ok j = false) → B = false)) := ⟨hB, hB'⟩
  have HCL := hidd CL
  have HAL : Hid (∀ W, Keep rb w W → R 0 W → Calls Tryd.prog 45 #[.pointer (some ⟨rb, 0, none⟩), .slice (some ⟨lb, lo, none⟩) n cap, fr] W (EvA rb n ok ft fx E R D W)) := fun W hk hR =>
    all_any rb lb lo n cap fr ok ft fx E R D W hn hcap (Nat.lt_of_lt_of_le hrb hk.size) hst hR (fun j W' hj hk' hR' => IH j W' hj (hk.trans hk') hR')
  have H0 := hidd h0
  have HR := hidd hr
  clear hB hB' CL IH h0 hst hr
  go_enter Tryd.func28, Tryd.ntmps28
  go_wp2_with fail
  refine (Must_yes 2 _).mono ?_
  rintro e w1 ⟨rfl, rfl⟩
  go_wp2_with fail
  refine (HAL.out _ HK1.out (H0.out _ HR1.out)).mono ?_
  rintro e w3 ⟨hk3, hq⟩
  have HK3 : Hid (Keep rb w1 w3) := HK1.out.trans hk3
  rcases hq with ⟨hok, ⟨N, hN, hN3, rfl, hcs⟩, hR3⟩ | ⟨hok, rfl, hD⟩
  · have HC := hidd (HCL.out N w3 (Nat.le_trans HK1.out.size hN) hN3 HK3.out hR3 hcs)
    have HBB := hidd (HB.out.1 hok)
    clear HCL HAL H0 HR hR3 hcs hk3 hok HB HK1 HR1
    go_wp2_with fail
    refine HC.out.mono ?_
    rintro e w4 ⟨hk4, hq⟩
    rcases hq with ⟨hok, rfl, hR4⟩ | ⟨hok, rfl, hD⟩
    · go_wp2_with fail
      go_ret
      exact ⟨HK3.out.trans hk4, Or.inl ⟨HBB.out.trans hok, rfl, hR4⟩⟩
    · go_wp2_with fail
      exact ⟨rfl, HK3.out.trans hk4, Or.inr ⟨HBB.out.trans hok, rfl, hD⟩⟩
  · have HBB := hidd (HB.out.2 hok)
    clear HCL HAL H0 HR hk3 hok HB HK1 HR1
    go_wp2_with fail
    exact ⟨rfl, HK3.out, Or.inr ⟨HBB.out, rfl, hD⟩⟩
end
section
set_option linter.unusedVariables false
set_option linter.unusedSimpArgs false
open Go.RowKit

def opT (f : Fin 4) : TypeId := match f with | 0 => 104 | 1 => 104 | 2 => 104 | 3 => 105
def opX (f : Fin 4) (a b : Int) : Value := match f with | 0 => .int .i64 (a + b) | 1 => .int .i64 (a - b) | 2 => .int .i64 (a * b) | 3 => .bool (decide (a < b))
theorem opV_eq (f : Fin 4) (a b : Int) : opV f a b = .iface (opT f) (opX f a b) := by match f with | 0 => rfl | 1 => rfl | 2 => rfl | 3 => rfl
theorem Keep.ofBelow {rb : Nat} {w w' : World} (h : Below w.heap.size w w') : Keep rb w w' := (Keep.refl rb w).below h
theorem RN.stay {rb : Nat} {tv gm : Value} {left calls : Int} {w w' : World} (e : w'.heap[rb]? = w.heap[rb]?) (h : RN rb tv left calls gm w) : RN rb tv left calls gm w' := e.trans h
theorem RN.step {rb : Nat} {tv gm : Value} {left calls : Int} {w : World} (h : RN rb tv left calls gm w) : RN rb tv (left - 1) calls gm (w.setCell ⟨rb, 1, none⟩ (.int .i64 (left - 1))) := cell_setV h _
theorem Ev.num {rb cb co : Nat} {tv gm fr : Value} {left calls n : Int} {E : List PanicEntry} {D : World → Prop} {w : World} (hr : RN rb tv left calls gm w) (hl : 0 < left) (hl9 : left ≤ 1000000) (hc : rb ≠ cb)
    (k0 : w.cell? ⟨cb, co, none⟩ = some (.int .i64 1)) (k2 : w.cell? ⟨cb, co + 2, none⟩ = some (.int .i64 n)) :
    Calls Tryd.prog 28 #[.pointer (some ⟨rb, 0, none⟩), .pointer (some ⟨cb, co, none⟩), fr] w (Ev rb true (.iface 104 (.int .i64 n)) E (RN rb tv (left - 1) calls gm) D w) := by
  refine (eval_num rb cb co tv gm fr left calls n w hr hl hl9 hc k0 k2).mono ?_
  rintro e w' ⟨rfl, rfl⟩
  exact ⟨(Keep.refl rb w).setCell _ rfl _, Or.inl ⟨rfl, rfl, hr.step⟩⟩
theorem Ev.prim {rb cb co : Nat} {tv gm fr : Value} {left calls : Int} {s : ByteArray} {E : List PanicEntry} {D : World → Prop} {w : World} (hr : RN rb tv left calls gm w) (hl : 0 < left) (hl9 : left ≤ 1000000) (hc : rb ≠ cb)
    (k0 : w.cell? ⟨cb, co, none⟩ = some (.int .i64 6)) (k4 : w.cell? ⟨cb, co + 4, none⟩ = some (.string s)) :
    Calls Tryd.prog 28 #[.pointer (some ⟨rb, 0, none⟩), .pointer (some ⟨cb, co, none⟩), fr] w (Ev rb true (.iface 114 (.string s)) E (RN rb tv (left - 1) calls gm) D w) := by
  refine (eval_prim rb cb co tv gm fr left calls s w hr hl hl9 hc k0 k4).mono ?_
  rintro e w' ⟨rfl, rfl⟩
  exact ⟨(Keep.refl rb w).setCell _ rfl _, Or.inl ⟨rfl, rfl, hr.step⟩⟩
theorem eval_sum (f : Fin 4) (a b : Int) (rb cb co lb lo cap : Nat) (tv gm fr : Value) (left calls : Int) (w : World)
    (hr : RN rb tv left calls gm w) (hl : 4 ≤ left) (hl9 : left ≤ 1000000) (hc : rb ≠ cb) (hlb : rb ≠ lb) (hlw : lb < w.heap.size) (hrb : rb < w.heap.size) (hcap : 3 ≤ cap)
    (h1 : rangeN a = true) (h2 : rangeN b = true)
    (k0 : w.cell? ⟨cb, co, none⟩ = some (.int .i64 9)) (k11 : w.cell? ⟨cb, co + 11, none⟩ = some (.slice (some ⟨lb, lo, none⟩) 3 cap))
    (p0 : w.cell? ⟨lb, lo, none⟩ = some (.int .i64 6)) (p4 : w.cell? ⟨lb, lo + 4, none⟩ = some (.string (opB f)))
    (q0 : w.cell? ⟨lb, lo + 12, none⟩ = some (.int .i64 1)) (q2 : w.cell? ⟨lb, lo + 12 + 2, none⟩ = some (.int .i64 a))
    (s0 : w.cell? ⟨lb, lo + 24, none⟩ = some (.int .i64 1)) (s2 : w.cell? ⟨lb, lo + 24 + 2, none⟩ = some (.int .i64 b)) :
    Calls Tryd.prog 28 #[.pointer (some ⟨rb, 0, none⟩), .pointer (some ⟨cb, co, none⟩), fr] w (Ev rb (opOk f a b) (.iface (opT f) (opX f a b)) (endP 6) (RN rb tv (left - 4) calls gm) (RN rb tv (left - 4) calls gm) w) := by
  have cell : ∀ W, Keep rb w W → ∀ q, W.cell? ⟨lb, q, none⟩ = w.cell? ⟨lb, q, none⟩ := fun W hk q => hk.cell (p := ⟨lb, q, none⟩) hlw (fun e => hlb e.symm)
  refine eval_call rb cb co lb lo 3 cap tv gm fr left calls (fun _ => true) (fun j => if j = 0 then 114 else 104) (fun j => if j = 0 then .string (opB f) else if j = 1 then .int .i64 a else .int .i64 b)
    (opOk f a b) (opOk f a b) (opT f) (opX f a b) (endP 6) (fun j W => RN rb tv (left - 1 - j) calls gm W) _ _ w hr (by omega) hl9 hc (by omega) hcap hrb k0 k11 (fun j W W' e h => RN.stay e h) (fun W h => by simpa using h) ?_ ?_ (fun _ => rfl) (fun ⟨j, _, h⟩ => absurd h (by simp))
  · intro j W hj hk hR
    have e : (left - 1 - (j : Int)) - 1 = left - 1 - ((j + 1 : Nat) : Int) := by omega
    match j, hj with
    | 0, _ =>
      have := Ev.prim (fr := fr) (E := endP 6) (D := RN rb tv (left - 4) calls gm) hR (by omega) (by omega) hlb ((cell W hk _).trans p0) ((cell W hk _).trans p4)
      rw [e] at this
      simpa using this
    | 1, _ =>
      have := Ev.num (fr := fr) (E := endP 6) (D := RN rb tv (left - 4) calls gm) hR (by omega) (by omega) hlb ((cell W hk _).trans q0) ((cell W hk _).trans q2)
      rw [e] at this
      simpa using this
    | 2, _ =>
      have := Ev.num (fr := fr) (E := endP 6) (D := RN rb tv (left - 4) calls gm) hR (by omega) (by omega) hlb ((cell W hk _).trans s0) ((cell W hk _).trans s2)
      rw [e] at this
      simpa using this
  · intro N W hN hNW hk hR hcs
    have g0 := hcs 0 (by omega)
    have g1 := hcs 1 (by omega)
    have g2 := hcs 2 (by omega)
    simp only [if_true] at g0
    refine call_prim2 rb N (opB f) (opOk f a b) (opT f) (opX f a b) (endP 6) _ _ W g0 ?_
    refine (prim_two f a b (.pointer (some ⟨rb, 0, none⟩)) N 1 2 W h1 h2 g1 g2).mono ?_
    rintro e w' ⟨he, hb⟩
    have hR' : RN rb tv (left - 4) calls gm w' := by
      have e3 : left - 1 - ((3 : Nat) : Int) = left - 4 := by omega
      have := RN.stay (hb.block rb (Nat.lt_of_lt_of_le hrb hk.size)) hR
      rwa [e3] at this
    refine ⟨Keep.ofBelow hb, ?_⟩
    cases hq : opOk f a b
    · rw [hq] at he
      exact Or.inr ⟨rfl, he, hR'⟩
    · rw [hq] at he
      rw [← opV_eq]
      exact Or.inl ⟨rfl, he, hR'⟩
end
end Go.Proofs.YthooljlikllnpaaDoor
