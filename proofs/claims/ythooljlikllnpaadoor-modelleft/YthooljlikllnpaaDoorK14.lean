/- Chapter 7: package value: a primitive of two numbers. Chapter 7: package model: the values of a row of expressions, over what eval tells of each. -/
import Derived.Deep.RegionWith
import Derived.RegionDies
import Derived.Test.YthooljlikllnpaaDoorK13
namespace Go.Proofs.YthooljlikllnpaaDoor
section
set_option linter.unusedVariables false
set_option linter.unusedSimpArgs false
open Go.RowKit

set_option maxRecDepth 100000 in
set_option maxHeartbeats 3200000 in
theorem ofTwo_num (f : Fin 4) (a b : Int) (w : World) (h1 : rangeN a = true) (h2 : rangeN b = true) : Calls Tryd.prog 74 #[.string (opB f), .iface 104 (.int .i64 a), .iface 104 (.int .i64 b)] w (ValOr (opOk f a b) (opV f a b) 6 w) := by
  have ON := hidd (ofNumbers_any f a b w h1 h2)
  have NA := hidd (fun w => numberOf_any a w)
  have NB := hidd (fun w => numberOf_any b w)
  obtain ⟨s, hs⟩ : ∃ s, s = opB f := ⟨_, rfl⟩
  have c1 : (s.toList == [99, 111, 110, 115]) = false := by rw [hs]; match f with | 0 => decide +kernel | 1 => decide +kernel | 2 => decide +kernel | 3 => decide +kernel
  have c2 : (s.toList == [101, 113, 63]) = false := by rw [hs]; match f with | 0 => decide +kernel | 1 => decide +kernel | 2 => decide +kernel | 3 => decide +kernel
  rw [← hs] at ON ⊢
  obtain ⟨q, hq⟩ : ∃ q, q = opOk f a b := ⟨_, rfl⟩
  obtain ⟨v, hv⟩ : ∃ v, v = opV f a b := ⟨_, rfl⟩
  rw [← hq, ← hv] at ON ⊢
  clear hs hq hv h1 h2
  go_enter Tryd.func74, Tryd.ntmps74
  go_wp2_with fail
  refine (NA.out _).mono ?_
  rintro e w1 ⟨rfl, rfl⟩
  go_wp2_with fail
  refine (NB.out _).mono ?_
  rintro e w1 ⟨rfl, rfl⟩
  go_wp2_with fail
  refine ON.out.mono ?_
  rintro e w1 ⟨rfl, rfl⟩
  cases q
  · go_wp2_with fail
    exact ⟨rfl, rfl, rfl⟩
  · go_wp2_with fail
    go_ret
    exact ⟨rfl, rfl⟩
/-- A value, or an end; all that was there stays. -/
def ValOrB (b : Bool) (v : Value) (how : Int) (w : World) (e : Ending) (w' : World) : Prop := (e = if b then .returned v else .panicked (endP how)) ∧ Below w.heap.size w w'
set_option maxRecDepth 100000 in
set_option maxHeartbeats 3200000 in
theorem prim_two (f : Fin 4) (a b : Int) (ov : Value) (ab ao c : Nat) (w : World) (h1 : rangeN a = true) (h2 : rangeN b = true) (k0 : w.cell? ⟨ab, ao, none⟩ = some (.iface 104 (.int .i64 a))) (k1 : w.cell? ⟨ab, ao + 1, none⟩ = some (.iface 104 (.int .i64 b))) :
    Calls Tryd.prog 59 #[ov, .string (opB f), .slice (some ⟨ab, ao, none⟩) 2 c] w (ValOrB (opOk f a b) (opV f a b) 6 w) := by
  have OT := hidd (fun w => ofTwo_num f a b w h1 h2)
  obtain ⟨s, hs⟩ : ∃ s, s = opB f := ⟨_, rfl⟩
  have AR : Hid (∀ w, Calls Tryd.prog 64 #[.string s] w fun e w' => e = .returned (.int .i64 2) ∧ w' = w) := fun w => by
    have e : argsB s = 2 := by rw [hs]; match f with | 0 => decide +kernel | 1 => decide +kernel | 2 => decide +kernel | 3 => decide +kernel
    have := argsOf_any s w
    rw [e] at this
    exact this
  have c1 : (s.toList == [111, 117, 116]) = false := by rw [hs]; match f with | 0 => decide +kernel | 1 => decide +kernel | 2 => decide +kernel | 3 => decide +kernel
  rw [← hs] at OT ⊢
  obtain ⟨q, hq⟩ : ∃ q, q = opOk f a b := ⟨_, rfl⟩
  obtain ⟨v, hv⟩ : ∃ v, v = opV f a b := ⟨_, rfl⟩
  rw [← hq, ← hv] at OT ⊢
  clear hs hq hv h1 h2
  go_enter Tryd.func59, Tryd.ntmps59
  go_wp2_with fail
  refine (AR.out _).mono ?_
  rintro e w1 ⟨rfl, rfl⟩
  go_wp2_with fail
  refine (Must_yes _ _).mono ?_
  rintro e w1 ⟨rfl, rfl⟩
  cases q
  · go_wp2_with fail
    go_region_dies
    all_goals
      refine (OT.out _).mono ?_
      rintro e w1 ⟨rfl, rfl⟩
      go_wp2_with fail
      exact ⟨rfl, rfl, Below.drew (Below.refl _ _)⟩
  · go_wp2_with fail
    go_region_with (go_at_call 74; refine (OT.out _).mono ?_; rintro e w1 ⟨rfl, rfl⟩)
    all_goals
      go_wp2_with fail
      go_ret
      exact ⟨rfl, Below.drew (Below.refl _ _)⟩
end
section
set_option linter.unusedVariables false
set_option linter.unusedSimpArgs false
open Go.RowKit

theorem infoVal : (Tryd.prog.info? 77).map (fun i => (i.zero, i.size, i.bytes)) = some (some .nilIface, 1, 16) := by kernel_rfl
theorem made_oneV (n : Nat) (x : Value) : madeCells #[x] n = (List.replicate n x).toArray := by
  unfold madeCells
  apply Array.ext
  · simp
  · intro i h1 h2
    simp [Nat.mod_one]
theorem make_vals (n : Nat) (hn : n ≤ 1000) (w : World) : (Instr.makeSlice 81 (.int .i64 n) (.int .i64 n)).run Tryd.prog w = .ok (.slice (some ⟨w.heap.size, 0, none⟩) n n) (w.alloc (.cells (List.replicate n Value.nilIface).toArray 77)) := by
  obtain ⟨i0, hinf, hz0, hz1, hz2⟩ := info_parts infoVal
  have := run_makeSlice (P := Tryd.prog) w 81 77 i0 .nilIface Tryd.underlying81 hinf hz0 .i64 .i64 n n (by omega) (Int.le_refl _) (by rw [hz1]; simp; omega) (by rw [hz2]; omega) (by omega)
  rw [hz1] at this
  simpa [Value.cells, made_oneV, Value.nilIface] using this
theorem cell_setV {W : World} {N q : Nat} {cs : Array Value} {t : TypeId} (h : W.heap[N]? = some (.cells cs t (0, 0))) (v : Value) : (W.setCell ⟨N, q, none⟩ v).heap[N]? = some (.cells (cs.setIfInBounds q v) t (0, 0)) := heap_setCell_same W N q cs t v h
theorem alloc_lt (w : World) (o : Obj) : w.heap.size < (w.alloc o).heap.size := by
  have h := World.alloc_heap_new w o
  exact (Array.getElem?_eq_some_iff.mp h).1
/-- What eval tells of one expression: a value, or an end. -/
def Ev (rb : Nat) (b : Bool) (v : Value) (E : List PanicEntry) (R D : World → Prop) (w : World) (e : Ending) (w' : World) : Prop :=
  Keep rb w w' ∧ ((b = true ∧ e = .returned v ∧ R w') ∨ (b = false ∧ e = .panicked E ∧ D w'))
/-- What is told of a row of them. -/
def EvA (rb n : Nat) (ok : Nat → Bool) (ft : Nat → TypeId) (fx : Nat → Value) (E : List PanicEntry) (R : Nat → World → Prop) (D : World → Prop) (w : World) (e : Ending) (w' : World) : Prop :=
  Keep rb w w' ∧ (((∀ j, j < n → ok j = true) ∧ (∃ N, w.heap.size ≤ N ∧ N < w'.heap.size ∧ e = .returned (.slice (some ⟨N, 0, none⟩) n n) ∧ ∀ j, j < n → w'.cell? ⟨N, j, none⟩ = some (.iface (ft j) (fx j))) ∧ R n w')
    ∨ ((∃ j, j < n ∧ ok j = false) ∧ e = .panicked E ∧ D w'))
set_option maxRecDepth 100000 in
set_option maxHeartbeats 3200000 in
theorem all_any (rb lb lo n cap : Nat) (fr : Value) (ok : Nat → Bool) (ft : Nat → TypeId) (fx : Nat → Value) (E : List PanicEntry) (R : Nat → World → Prop) (D : World → Prop) (w : World)
    (hn : n ≤ 1000) (hcap : n ≤ cap) (hrb : rb < w.heap.size) (hst : ∀ j W W', W'.heap[rb]? = W.heap[rb]? → R j W → R j W')
    (h0 : R 0 w)
    (IH : ∀ j W, j < n → Keep rb w W → R j W → Calls Tryd.prog 28 #[.pointer (some ⟨rb, 0, none⟩), .pointer (some ⟨lb, lo + j * 12, none⟩), fr] W (Ev rb (ok j) (.iface (ft j) (fx j)) E (R (j + 1)) D W)) :
    Calls Tryd.prog 45 #[.pointer (some ⟨rb, 0, none⟩), .slice (some ⟨lb, lo, none⟩) n cap, fr] w (EvA rb n ok ft fx E R D w) := by
  have IHH := hidd IH
  have HST := hidd hst
  have H0 := hidd h0
  clear IH hst h0
  have hmk := make_vals n hn w
  have HROW : Hid ((w.alloc (.cells (List.replicate n Value.nilIface).toArray 77)).heap[w.heap.size]? = some (.cells (List.replicate n Value.nilIface).toArray 77 (0, 0))) := World.alloc_heap_new w _
  have HKP : Hid (Keep rb w (w.alloc (.cells (List.replicate n Value.nilIface).toArray 77))) := (Keep.refl rb w).alloc _
  have HR0 : Hid (R 0 (w.alloc (.cells (List.replicate n Value.nilIface).toArray 77))) := HST.out 0 w _ (Below.block ((Below.refl w.heap.size w).alloc (Nat.le_refl _) _) rb hrb) H0.out
  have HSZ : Hid (w.heap.size < (w.alloc (.cells (List.replicate n Value.nilIface).toArray 77)).heap.size) := alloc_lt _ _
  go_enter Tryd.func45, Tryd.ntmps45
  go_wp2_with fail
  go_loopw [14] (fun ix wr => ∃ (j : Nat) (cs : Array Value), j ≤ n ∧ ix = .int .i64 j ∧ Keep rb w wr ∧ R j wr ∧ w.heap.size < wr.heap.size ∧ wr.heap[w.heap.size]? = some (.cells cs 77 (0, 0)) ∧ cs.size = n ∧ (∀ i, i < j → ok i = true ∧ cs[i]? = some (.iface (ft i) (fx i)))) (fun ix _ => n - (intOf ix).toNat)
  case atStart => exact ⟨0, _, Nat.zero_le _, rfl, HKP.out, HR0.out, HSZ.out, HROW.out, by rw [List.size_toArray, List.length_replicate], fun i hi => absurd hi (by omega)⟩
  case round =>
    obtain ⟨j, cs, hj, rfl, hk, hR, hN, hb, hcs, hfs⟩ := hrel
    by_cases hlt : j < n
    · have HE := hidd (IHH.out j wr hlt hk hR)
      have HK := hidd hk
      have HF : Hid (cs.size = n ∧ w.heap.size < wr.heap.size ∧ ∀ i, i < j → ok i = true ∧ cs[i]? = some (.iface (ft i) (fx i))) := ⟨hcs, hN, hfs⟩
      have HB := hidd hb
      clear hk hR hcs hfs hb IHH H0 HR0 HKP HROW hmk
      go_wp2_with fail
      refine HE.out.mono ?_
      rintro e w3 ⟨hk3, hq⟩
      have hkk := HK.out.trans hk3
      have hbb : w3.heap[w.heap.size]? = some (.cells cs 77 (0, 0)) := (hk3.block _ HF.out.2.1 (by simp; omega)).trans HB.out
      rcases hq with ⟨hok, rfl, hR3⟩ | ⟨hok, rfl, hD⟩
      · have hjs : j < cs.size := by rw [HF.out.1]; exact hlt
        have HX : Hid (Keep rb w (w3.setCell ⟨w.heap.size, j, none⟩ (.iface (ft j) (fx j))) ∧ R (j + 1) (w3.setCell ⟨w.heap.size, j, none⟩ (.iface (ft j) (fx j)))) := ⟨hkk.setNew _ (Nat.le_refl _) _, HST.out _ w3 _ (Below.heap_setCell _ _ _ _ (by simp; omega)) hR3⟩
        have hy : w.heap.size < (w3.setCell ⟨w.heap.size, j, none⟩ (.iface (ft j) (fx j))).heap.size := by
          have h1 := hk3.size
          have h2 := HF.out.2.1
          have e : (w3.setCell ⟨w.heap.size, j, none⟩ (.iface (ft j) (fx j))).heap.size = w3.heap.size := by simp
          rw [e]
          omega
        have HY := hidd hy
        clear hy
        have HZ : Hid ((w3.setCell ⟨w.heap.size, j, none⟩ (.iface (ft j) (fx j))).heap[w.heap.size]? = some (.cells (cs.setIfInBounds j (.iface (ft j) (fx j))) 77 (0, 0))) := cell_setV hbb _
        have c1 : w3.cell? ⟨w.heap.size, j, none⟩ = some cs[j] := (cellO hbb).trans (by simp [hjs])
        have z1 := looseO (q := j) hbb
        go_wp2_with fail
        go_roundw
        case rel =>
          refine ⟨j + 1, cs.setIfInBounds j (.iface (ft j) (fx j)), hlt, by go_num, HX.out.1, HX.out.2, HY.out, HZ.out, by rw [Array.size_setIfInBounds]; exact HF.out.1, fun i hi => ?_⟩
          by_cases e : i = j
          · subst e
            exact ⟨hok, by simp [hjs]⟩
          · obtain ⟨g1, g2⟩ := HF.out.2.2 i (by omega)
            exact ⟨g1, by rw [Array.getElem?_setIfInBounds, if_neg (by omega)]; exact g2⟩
        case measure => simp [intOf]; omega
      · go_wp2_with fail
        exact ⟨rfl, hkk, Or.inr ⟨⟨j, hlt, hok⟩, rfl, hD⟩⟩
    · obtain rfl : j = n := by omega
      go_wp2_with fail
      go_ret
      exact ⟨hk, Or.inl ⟨fun i hi => (hfs i hi).1, ⟨_, Nat.le_refl _, hN, rfl, fun i hi => (cellO hb).trans (hfs i hi).2⟩, hR⟩⟩
end
end Go.Proofs.YthooljlikllnpaaDoor
