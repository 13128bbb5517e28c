/- Chapter 7: package model: a primitive is called; a call is evaluated. Chapter 7: package model: a call of a primitive on two numbers is evaluated. -/
import Derived.Test.YthooljlikllnpaaDoorK14
namespace Go.Proofs.YthooljlikllnpaaDoor
section
set_option linter.unusedVariables false
set_option linter.unusedSimpArgs false
open Go.RowKit

set_option maxRecDepth 100000 in
set_option maxHeartbeats 400000 in
theorem call_prim1 (rb N : Nat) (s : ByteArray) (b : Bool) (t : TypeId) (x : Value) (E : List PanicEntry) (R D : World → Prop) (w : World)
    (k0 : w.cell? ⟨N, 0, none⟩ = some (.iface 114 (.string s)))
    (PR : Calls Tryd.prog 59 #[.pointer (some ⟨rb, 0, none⟩), .string s, .slice (some ⟨N, 1, none⟩) 1 1] w (Ev rb b (.iface t x) E R D w)) :
    Calls Tryd.prog 44 #[.pointer (some ⟨rb, 0, none⟩), .slice (some ⟨N, 0, none⟩) 2 2] w (Ev rb b (.iface t x) E R D w) := by
  have HP := hidd PR
  clear PR
  have hta := assertP (.string s)
  go_enter Tryd.func44, Tryd.ntmps44
  go_wp2_with fail
  refine HP.out.mono ?_
  rintro e w3 ⟨hk3, hq⟩
  rcases hq with ⟨hok, rfl, hR3⟩ | ⟨hok, rfl, hD⟩
  · go_wp2_with fail
    go_ret
    exact ⟨hk3, Or.inl ⟨by first | exact hok | rfl, rfl, hR3⟩⟩
  · go_wp2_with fail
    exact ⟨rfl, hk3, Or.inr ⟨rfl, rfl, hD⟩⟩
set_option maxRecDepth 100000 in
set_option maxHeartbeats 400000 in
theorem call_prim2 (rb N : Nat) (s : ByteArray) (b : Bool) (t : TypeId) (x : Value) (E : List PanicEntry) (R D : World → Prop) (w : World)
    (k0 : w.cell? ⟨N, 0, none⟩ = some (.iface 114 (.string s)))
    (PR : Calls Tryd.prog 59 #[.pointer (some ⟨rb, 0, none⟩), .string s, .slice (some ⟨N, 1, none⟩) 2 2] w (Ev rb b (.iface t x) E R D w)) :
    Calls Tryd.prog 44 #[.pointer (some ⟨rb, 0, none⟩), .slice (some ⟨N, 0, none⟩) 3 3] w (Ev rb b (.iface t x) E R D w) := by
  have HP := hidd PR
  clear PR
  have hta := assertP (.string s)
  go_enter Tryd.func44, Tryd.ntmps44
  go_wp2_with fail
  refine HP.out.mono ?_
  rintro e w3 ⟨hk3, hq⟩
  rcases hq with ⟨hok, rfl, hR3⟩ | ⟨hok, rfl, hD⟩
  · go_wp2_with fail
    go_ret
    exact ⟨hk3, Or.inl ⟨by first | exact hok | rfl, rfl, hR3⟩⟩
  · go_wp2_with fail
    exact ⟨rfl, hk3, Or.inr ⟨rfl, rfl, hD⟩⟩
set_option maxRecDepth 100000 in
set_option maxHeartbeats 3200000 in
theorem eval_call (rb cb co lb lo n cap : Nat) (tv gm fr : Value) (left calls : Int) (ok : Nat → Bool) (ft : Nat → TypeId) (fx : Nat → Value) (b B : Bool) (t : TypeId) (x : Value) (E : List PanicEntry) (R : Nat → World → Prop) (R' D : World → Prop) (w : World)
    (hr : RN rb tv left calls gm w) (hl : 0 < left) (hl9 : left ≤ 1000000) (hc : rb ≠ cb) (hn : n ≤ 1000) (hcap : n ≤ cap) (hrb : rb < w.heap.size)
    (k0 : w.cell? ⟨cb, co, none⟩ = some (.int .i64 9)) (k11 : w.cell? ⟨cb, co + 11, none⟩ = some (.slice (some ⟨lb, lo, none⟩) n cap))
    (hst : ∀ j W W', W'.heap[rb]? = W.heap[rb]? → R j W → R j W')
    (h0 : ∀ W, RN rb tv (left - 1) calls gm W → R 0 W)
    (IH : ∀ j W, j < n → Keep rb w W → R j W → Calls Tryd.prog 28 #[.pointer (some ⟨rb, 0, none⟩), .pointer (some ⟨lb, lo + j * 12, none⟩), fr] W (Ev rb (ok j) (.iface (ft j) (fx j)) E (R (j + 1)) D W))
    (CL : ∀ N W, w.heap.size ≤ N → N < W.heap.size → Keep rb w W → R n W → (∀ j, j < n → W.cell? ⟨N, j, none⟩ = some (.iface (ft j) (fx j))) → Calls Tryd.prog 44 #[.pointer (some ⟨rb, 0, none⟩), .slice (some ⟨N, 0, none⟩) n n] W (Ev rb b (.iface t x) E R' D W))
    (hB : (∀ j, j < n → ok j = true) → B = b) (hB' : (∃ j, j < n ∧ ok j = false) → B = false) :
    Calls Tryd.prog 28 #[.pointer (some ⟨rb, 0, none⟩), .pointer (some ⟨cb, co, none⟩), fr] w (Ev rb B (.iface t x) E R' D w) := by
  have c1 : w.cell? ⟨rb, 1, none⟩ = some (.int .i64 left) := (cellO hr).trans rfl
  have z1 := looseO (q := 1) hr
  have hg : decide (left > 0) = true := by simp; omega
  have hg' : decide (0 < left) = true := by simp; omega
  have HK1 : Hid (Keep rb w (w.setCell ⟨rb, 1, none⟩ (.int .i64 (left - 1)))) := (Keep.refl rb w).setCell _ rfl _
  have HR1 : Hid (RN rb tv (left - 1) calls gm (w.setCell ⟨rb, 1, none⟩ (.int .i64 (left - 1)))) := cell_setV hr _
  have HB : Hid (((∀ j, j < n → ok j = true) → B = b) ∧ ((∃ j, j < n ∧ ok j = false) → B = false)) := ⟨hB, hB'⟩
  have HCL := hidd CL
  have HAL : Hid (∀ W, Keep rb w W → R 0 W → Calls Tryd.prog 45 #[.pointer (some ⟨rb, 0, none⟩), .slice (some ⟨lb, lo, none⟩) n cap, fr] W (EvA rb n ok ft fx E R D W)) := fun W hk hR =>
    all_any rb lb lo n cap fr ok ft fx E R D W hn hcap (Nat.lt_of_lt_of_le hrb hk.size) hst hR (fun j W' hj hk' hR' => IH j W' hj (hk.trans hk') hR')
  have H0 := hidd h0
  have HR := hidd hr
  clear hB hB' CL IH h0 hst hr
  go_enter Tryd.func28, Tryd.ntmps28
  go_wp2_with fail
  refine (Must_yes 2 _).mono ?_
  rintro e w1 ⟨rfl, rfl⟩
  go_wp2_with fail
  refine (HAL.out _ HK1.out (H0.out _ HR1.out)).mono ?_
  rintro e w3 ⟨hk3, hq⟩
  have HK3 : Hid (Keep rb w1 w3) := HK1.out.trans hk3
  rcases hq with ⟨hok, ⟨N, hN, hN3, rfl, hcs⟩, hR3⟩ | ⟨hok, rfl, hD⟩
  · have HC := hidd (HCL.out N w3 (Nat.le_trans HK1.out.size hN) hN3 HK3.out hR3 hcs)
    have HBB := hidd (HB.out.1 hok)
    clear HCL HAL H0 HR hR3 hcs hk3 hok HB HK1 HR1
    go_wp2_with fail
    refine HC.out.mono ?_
    rintro e w4 ⟨hk4, hq⟩
    rcases hq with ⟨hok, rfl, hR4⟩ | ⟨hok, rfl, hD⟩
    · go_wp2_with fail
      go_ret
      exact ⟨HK3.out.trans hk4, Or.inl ⟨HBB.out.trans hok, rfl, hR4⟩⟩
    · go_wp2_with fail
      exact ⟨rfl, HK3.out.trans hk4, Or.inr ⟨HBB.out.trans hok, rfl, hD⟩⟩
  · have HBB := hidd (HB.out.2 hok)
    clear HCL HAL H0 HR hk3 hok HB HK1 HR1
    go_wp2_with fail
    exact ⟨rfl, HK3.out, Or.inr ⟨HBB.out, rfl, hD⟩⟩
end
section
set_option linter.unusedVariables false
set_option linter.unusedSimpArgs false
open Go.RowKit

def opT (f : Fin 4) : TypeId := match f with | 0 => 104 | 1 => 104 | 2 => 104 | 3 => 105
def opX (f : Fin 4) (a b : Int) : Value := match f with | 0 => .int .i64 (a + b) | 1 => .int .i64 (a - b) | 2 => .int .i64 (a * b) | 3 => .bool (decide (a < b))
theorem opV_eq (f : Fin 4) (a b : Int) : opV f a b = .iface (opT f) (opX f a b) := by match f with | 0 => rfl | 1 => rfl | 2 => rfl | 3 => rfl
theorem Keep.ofBelow {rb : Nat} {w w' : World} (h : Below w.heap.size w w') : Keep rb w w' := (Keep.refl rb w).below h
theorem RN.stay {rb : Nat} {tv gm : Value} {left calls : Int} {w w' : World} (e : w'.heap[rb]? = w.heap[rb]?) (h : RN rb tv left calls gm w) : RN rb tv left calls gm w' := e.trans h
theorem RN.step {rb : Nat} {tv gm : Value} {left calls : Int} {w : World} (h : RN rb tv left calls gm w) : RN rb tv (left - 1) calls gm (w.setCell ⟨rb, 1, none⟩ (.int .i64 (left - 1))) := cell_setV h _
theorem Ev.num {rb cb co : Nat} {tv gm fr : Value} {left calls n : Int} {E : List PanicEntry} {D : World → Prop} {w : World} (hr : RN rb tv left calls gm w) (hl : 0 < left) (hl9 : left ≤ 1000000) (hc : rb ≠ cb)
    (k0 : w.cell? ⟨cb, co, none⟩ = some (.int .i64 1)) (k2 : w.cell? ⟨cb, co + 2, none⟩ = some (.int .i64 n)) :
    Calls Tryd.prog 28 #[.pointer (some ⟨rb, 0, none⟩), .pointer (some ⟨cb, co, none⟩), fr] w (Ev rb true (.iface 104 (.int .i64 n)) E (RN rb tv (left - 1) calls gm) D w) := by
  refine (eval_num rb cb co tv gm fr left calls n w hr hl hl9 hc k0 k2).mono ?_
  rintro e w' ⟨rfl, rfl⟩
  exact ⟨(Keep.refl rb w).setCell _ rfl _, Or.inl ⟨rfl, rfl, hr.step⟩⟩
theorem Ev.prim {rb cb co : Nat} {tv gm fr : Value} {left calls : Int} {s : ByteArray} {E : List PanicEntry} {D : World → Prop} {w : World} (hr : RN rb tv left calls gm w) (hl : 0 < left) (hl9 : left ≤ 1000000) (hc : rb ≠ cb)
    (k0 : w.cell? ⟨cb, co, none⟩ = some (.int .i64 6)) (k4 : w.cell? ⟨cb, co + 4, none⟩ = some (.string s)) :
    Calls Tryd.prog 28 #[.pointer (some ⟨rb, 0, none⟩), .pointer (some ⟨cb, co, none⟩), fr] w (Ev rb true (.iface 114 (.string s)) E (RN rb tv (left - 1) calls gm) D w) := by
  refine (eval_prim rb cb co tv gm fr left calls s w hr hl hl9 hc k0 k4).mono ?_
  rintro e w' ⟨rfl, rfl⟩
  exact ⟨(Keep.refl rb w).setCell _ rfl _, Or.inl ⟨rfl, rfl, hr.step⟩⟩
theorem eval_sum (f : Fin 4) (a b : Int) (rb cb co lb lo cap : Nat) (tv gm fr : Value) (left calls : Int) (w : World)
    (hr : RN rb tv left calls gm w) (hl : 4 ≤ left) (hl9 : left ≤ 1000000) (hc : rb ≠ cb) (hlb : rb ≠ lb) (hlw : lb < w.heap.size) (hrb : rb < w.heap.size) (hcap : 3 ≤ cap)
    (h1 : rangeN a = true) (h2 : rangeN b = true)
    (k0 : w.cell? ⟨cb, co, none⟩ = some (.int .i64 9)) (k11 : w.cell? ⟨cb, co + 11, none⟩ = some (.slice (some ⟨lb, lo, none⟩) 3 cap))
    (p0 : w.cell? ⟨lb, lo, none⟩ = some (.int .i64 6)) (p4 : w.cell? ⟨lb, lo + 4, none⟩ = some (.string (opB f)))
    (q0 : w.cell? ⟨lb, lo + 12, none⟩ = some (.int .i64 1)) (q2 : w.cell? ⟨lb, lo + 12 + 2, none⟩ = some (.int .i64 a))
    (s0 : w.cell? ⟨lb, lo + 24, none⟩ = some (.int .i64 1)) (s2 : w.cell? ⟨lb, lo + 24 + 2, none⟩ = some (.int .i64 b)) :
    Calls Tryd.prog 28 #[.pointer (some ⟨rb, 0, none⟩), .pointer (some ⟨cb, co, none⟩), fr] w (Ev rb (opOk f a b) (.iface (opT f) (opX f a b)) (endP 6) (RN rb tv (left - 4) calls gm) (RN rb tv (left - 4) calls gm) w) := by
  have cell : ∀ W, Keep rb w W → ∀ q, W.cell? ⟨lb, q, none⟩ = w.cell? ⟨lb, q, none⟩ := fun W hk q => hk.cell (p := ⟨lb, q, none⟩) hlw (fun e => hlb e.symm)
  refine eval_call rb cb co lb lo 3 cap tv gm fr left calls (fun _ => true) (fun j => if j = 0 then 114 else 104) (fun j => if j = 0 then .string (opB f) else if j = 1 then .int .i64 a else .int .i64 b)
    (opOk f a b) (opOk f a b) (opT f) (opX f a b) (endP 6) (fun j W => RN rb tv (left - 1 - j) calls gm W) _ _ w hr (by omega) hl9 hc (by omega) hcap hrb k0 k11 (fun j W W' e h => RN.stay e h) (fun W h => by simpa using h) ?_ ?_ (fun _ => rfl) (fun ⟨j, _, h⟩ => absurd h (by simp))
  · intro j W hj hk hR
    have e : (left - 1 - (j : Int)) - 1 = left - 1 - ((j + 1 : Nat) : Int) := by omega
    match j, hj with
    | 0, _ =>
      have := Ev.prim (fr := fr) (E := endP 6) (D := RN rb tv (left - 4) calls gm) hR (by omega) (by omega) hlb ((cell W hk _).trans p0) ((cell W hk _).trans p4)
      rw [e] at this
      simpa using this
    | 1, _ =>
      have := Ev.num (fr := fr) (E := endP 6) (D := RN rb tv (left - 4) calls gm) hR (by omega) (by omega) hlb ((cell W hk _).trans q0) ((cell W hk _).trans q2)
      rw [e] at this
      simpa using this
    | 2, _ =>
      have := Ev.num (fr := fr) (E := endP 6) (D := RN rb tv (left - 4) calls gm) hR (by omega) (by omega) hlb ((cell W hk _).trans s0) ((cell W hk _).trans s2)
      rw [e] at this
      simpa using this
  · intro N W hN hNW hk hR hcs
    have g0 := hcs 0 (by omega)
    have g1 := hcs 1 (by omega)
    have g2 := hcs 2 (by omega)
    simp only [if_true] at g0
    refine call_prim2 rb N (opB f) (opOk f a b) (opT f) (opX f a b) (endP 6) _ _ W g0 ?_
    refine (prim_two f a b (.pointer (some ⟨rb, 0, none⟩)) N 1 2 W h1 h2 g1 g2).mono ?_
    rintro e w' ⟨he, hb⟩
    have hR' : RN rb tv (left - 4) calls gm w' := by
      have e3 : left - 1 - ((3 : Nat) : Int) = left - 4 := by omega
      have := RN.stay (hb.block rb (Nat.lt_of_lt_of_le hrb hk.size)) hR
      rwa [e3] at this
    refine ⟨Keep.ofBelow hb, ?_⟩
    cases hq : opOk f a b
    · rw [hq] at he
      exact Or.inr ⟨rfl, he, hR'⟩
    · rw [hq] at he
      rw [← opV_eq]
      exact Or.inl ⟨rfl, he, hR'⟩
end
end Go.Proofs.YthooljlikllnpaaDoor
