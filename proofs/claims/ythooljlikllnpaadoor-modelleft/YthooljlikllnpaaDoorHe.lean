/- Chapter 7: package model: a primitive is called; a call is evaluated. -/
import Derived.Test.YthooljlikllnpaaDoorHd
namespace Go.Proofs.YthooljlikllnpaaDoor
set_option linter.unusedVariables false
set_option linter.unusedSimpArgs false
open Go.RowKit

set_option maxRecDepth 100000 in
set_option maxHeartbeats 400000 in
theorem call_prim1 (rb N : Nat) (s : ByteArray) (b : Bool) (t : TypeId) (x : Value) (E : List PanicEntry) (R D : World → Prop) (w : World)
    (k0 : w.cell? ⟨N, 0, none⟩ = some (.iface 114 (.string s)))
    (PR : Calls Tryd.prog 59 #[.pointer (some ⟨rb, 0, none⟩), .string s, .slice (some ⟨N, 1, none⟩) 1 1] w (Ev rb b (.iface t x) E R D w)) :
    Calls Tryd.prog 44 #[.pointer (some ⟨rb, 0, none⟩), .slice (some ⟨N, 0, none⟩) 2 2] w (Ev rb b (.iface t x) E R D w) := by
  have HP := hidd PR
  clear PR
  have hta := assertP (.string s)
  go_enter Tryd.func44, Tryd.ntmps44
  go_wp2_with fail
  refine HP.out.mono ?_
  rintro e w3 ⟨hk3, hq⟩
  rcases hq with ⟨hok, rfl, hR3⟩ | ⟨hok, rfl, hD⟩
  · go_wp2_with fail
    go_ret
    exact ⟨hk3, Or.inl ⟨by first | exact hok | rfl, rfl, hR3⟩⟩
  · go_wp2_with fail
    exact ⟨rfl, hk3, Or.inr ⟨rfl, rfl, hD⟩⟩
set_option maxRecDepth 100000 in
set_option maxHeartbeats 400000 in
theorem call_prim2 (rb N : Nat) (s : ByteArray) (b : Bool) (t : TypeId) (x : Value) (E : List PanicEntry) (R D : World → Prop) (w : World)
    (k0 : w.cell? ⟨N, 0, none⟩ = some (.iface 114 (.string s)))
    (PR : Calls Tryd.prog 59 #[.pointer (some ⟨rb, 0, none⟩), .string s, .slice (some ⟨N, 1, none⟩) 2 2] w (Ev rb b (.iface t x) E R D w)) :
    Calls Tryd.prog 44 #[.pointer (some ⟨rb, 0, none⟩), .slice (some ⟨N, 0, none⟩) 3 3] w (Ev rb b (.iface t x) E R D w) := by
  have HP := hidd PR
  clear PR
  have hta := assertP (.string s)
  go_enter Tryd.func44, Tryd.ntmps44
  go_wp2_with fail
  refine HP.out.mono ?_
  rintro e w3 ⟨hk3, hq⟩
  rcases hq with ⟨hok, rfl, hR3⟩ | ⟨hok, rfl, hD⟩
  · go_wp2_with fail
    go_ret
    exact ⟨hk3, Or.inl ⟨by first | exact hok | rfl, rfl, hR3⟩⟩
  · go_wp2_with fail
    exact ⟨rfl, hk3, Or.inr ⟨rfl, rfl, hD⟩⟩
set_option maxRecDepth 100000 in
set_option maxHeartbeats 3200000 in
theorem eval_call (rb cb co lb lo n cap : Nat) (tv gm fr : Value) (left calls : Int) (ok : Nat → Bool) (ft : Nat → TypeId) (fx : Nat → Value) (b B : Bool) (t : TypeId) (x : Value) (E : List PanicEntry) (R : Nat → World → Prop) (R' D : World → Prop) (w : World)
    (hr : RN rb tv left calls gm w) (hl : 0 < left) (hl9 : left ≤ 1000000) (hc : rb ≠ cb) (hn : n ≤ 1000) (hcap : n ≤ cap) (hrb : rb < w.heap.size)
    (k0 : w.cell? ⟨cb, co, none⟩ = some (.int .i64 9)) (k11 : w.cell? ⟨cb, co + 11, none⟩ = some (.slice (some ⟨lb, lo, none⟩) n cap))
    (hst : ∀ j W W', W'.heap[rb]? = W.heap[rb]? → R j W → R j W')
    (h0 : ∀ W, RN rb tv (left - 1) calls gm W → R 0 W)
    (IH : ∀ j W, j < n → Keep rb w W → R j W → Calls Tryd.prog 28 #[.pointer (some ⟨rb, 0, none⟩), .pointer (some ⟨lb, lo + j * 12, none⟩), fr] W (Ev rb (ok j) (.iface (ft j) (fx j)) E (R (j + 1)) D W))
    (CL : ∀ N W, w.heap.size ≤ N → N < W.heap.size → Keep rb w W → R n W → (∀ j, j < n → W.cell? ⟨N, j, none⟩ = some (.iface (ft j) (fx j))) → Calls Tryd.prog 44 #[.pointer (some ⟨rb, 0, none⟩), .slice (some ⟨N, 0, none⟩) n n] W (Ev rb b (.iface t x) E R' D W))
    (hB : (∀ j, j < n → ok j = true) → B = b) (hB' : (∃ j, j < n ∧ ok j = false) → B = false) :
    Calls Tryd.prog 28 #[.pointer (some ⟨rb, 0, none⟩), .pointer (some ⟨cb, co, none⟩), fr] w (Ev rb B (.iface t x) E R' D w) := by
  have c1 : w.cell? ⟨rb, 1, none⟩ = some (.int .i64 left) := (cellO hr).trans rfl
  have z1 := looseO (q := 1) hr
  have hg : decide (left > 0) = true := by simp; omega
  have hg' : decide (0 < left) = true := by simp; omega
  have HK1 : Hid (Keep rb w (w.setCell ⟨rb, 1, none⟩ (.int .i64 (left - 1)))) := (Keep.refl rb w).setCell _ rfl _
  have HR1 : Hid (RN rb tv (left - 1) calls gm (w.setCell ⟨rb, 1, none⟩ (.int .i64 (left - 1)))) := cell_setV hr _
  have HB : Hid (((∀ j, j < n → ok j = true) → B = b) ∧ ((∃ j, j < n ∧ ok j = false) → B = false)) := ⟨hB, hB'⟩
  have HCL := hidd CL
  have HAL : Hid (∀ W, Keep rb w W → R 0 W → Calls Tryd.prog 45 #[.pointer (some ⟨rb, 0, none⟩), .slice (some ⟨lb, lo, none⟩) n cap, fr] W (EvA rb n ok ft fx E R D W)) := fun W hk hR =>
    all_any rb lb lo n cap fr ok ft fx E R D W hn hcap (Nat.lt_of_lt_of_le hrb hk.size) hst hR (fun j W' hj hk' hR' => IH j W' hj (hk.trans hk') hR')
  have H0 := hidd h0
  have HR := hidd hr
  clear hB hB' CL IH h0 hst hr
  go_enter Tryd.func28, Tryd.ntmps28
  go_wp2_with fail
  refine (Must_yes 2 _).mono ?_
  rintro e w1 ⟨rfl, rfl⟩
  go_wp2_with fail
  refine (HAL.out _ HK1.out (H0.out _ HR1.out)).mono ?_
  rintro e w3 ⟨hk3, hq⟩
  have HK3 : Hid (Keep rb w1 w3) := HK1.out.trans hk3
  rcases hq with ⟨hok, ⟨N, hN, hN3, rfl, hcs⟩, hR3⟩ | ⟨hok, rfl, hD⟩
  · have HC := hidd (HCL.out N w3 (Nat.le_trans HK1.out.size hN) hN3 HK3.out hR3 hcs)
    have HBB := hidd (HB.out.1 hok)
    clear HCL HAL H0 HR hR3 hcs hk3 hok HB HK1 HR1
    go_wp2_with fail
    refine HC.out.mono ?_
    rintro e w4 ⟨hk4, hq⟩
    rcases hq with ⟨hok, rfl, hR4⟩ | ⟨hok, rfl, hD⟩
    · go_wp2_with fail
      go_ret
      exact ⟨HK3.out.trans hk4, Or.inl ⟨HBB.out.trans hok, rfl, hR4⟩⟩
    · go_wp2_with fail
      exact ⟨rfl, HK3.out.trans hk4, Or.inr ⟨HBB.out.trans hok, rfl, hD⟩⟩
  · have HBB := hidd (HB.out.2 hok)
    clear HCL HAL H0 HR hk3 hok HB HK1 HR1
    go_wp2_with fail
    exact ⟨rfl, HK3.out, Or.inr ⟨HBB.out, rfl, hD⟩⟩
end Go.Proofs.YthooljlikllnpaaDoor
