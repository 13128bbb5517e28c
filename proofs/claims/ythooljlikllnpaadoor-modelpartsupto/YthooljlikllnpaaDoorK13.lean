/- Chapter 7: package model: one part of one expression is run. -/
import Derived.Test.YthooljlikllnpaaDoorK12
import Derived.LoopN
namespace Go.Proofs.YthooljlikllnpaaDoor
set_option linter.unusedVariables false
set_option linter.unusedSimpArgs false
open Go.RowKit

set_option maxRecDepth 100000 in
set_option maxHeartbeats 3200000 in
theorem run_one (rb pb po pcap cb co ccap : Nat) (nm : ByteArray) (b : Bool) (t : TypeId) (x : Value) (how : Int) (R D : World → Prop) (w : World)
    (hrb : rb < w.heap.size) (k0 : w.cell? ⟨pb, po, none⟩ = some (.string nm)) (k1 : w.cell? ⟨pb, po + 1, none⟩ = some (.slice (some ⟨cb, co, none⟩) 1 ccap)) (hpb : pb < w.heap.size)
    (hst : ∀ (N : Nat) (y z : Int) (W : World), W.cell? ⟨N, 0, none⟩ = some (.int .i64 y) → N ≠ rb → R W → R (W.setCell ⟨N, 0, none⟩ (.int .i64 z)))
    (hstD : ∀ (W W' : World), W'.heap[rb]? = W.heap[rb]? → D W → D W')
    (EV : ∀ (W : World) (fr : Value), Below w.heap.size w W → Calls Tryd.prog 28 #[.pointer (some ⟨rb, 0, none⟩), .pointer (some ⟨cb, co, none⟩), fr] W (Ev rb b (.iface t x) (endP how) R D W)) :
    Calls Tryd.prog 21 #[.pointer (some ⟨rb, 0, none⟩), .slice (some ⟨pb, po, none⟩) 1 pcap] w fun e w' => e = .returned (.int .i64 (if b then 1 else how)) ∧ Keep rb w w' ∧ (b = true → R w') ∧ (b = false → D w') := by
  have hmf : ∀ (fn : Fn) (first cap : Array Value) (w : World), (Instr.makeFunc fn first cap).run Tryd.prog w = .ok (.func fn first cap) w := fun _ _ _ _ => rfl
  have HEV := hidd EV
  have HST := hidd hst
  have HSD := hidd hstD
  clear EV hst hstD
  have BB : Hid (Below w.heap.size w (((w.alloc (.cells #[.int .i64 0] 3)).alloc (.cells #[.string nm, .slice (some ⟨cb, co, none⟩) 1 ccap] 39)).alloc (.cells #[.slice none 0 0, .int .i64 0, .int .i64 0, .pointer none, .pointer none] 83))) := (((Below.refl _ _).alloc (Nat.le_refl _) _).alloc (by simp) _).alloc (by simp; omega) _
  have H0 : Hid ((((w.alloc (.cells #[.int .i64 0] 3)).alloc (.cells #[.string nm, .slice (some ⟨cb, co, none⟩) 1 ccap] 39)).alloc (.cells #[.slice none 0 0, .int .i64 0, .int .i64 0, .pointer none, .pointer none] 83)).cell? ⟨w.heap.size, 0, none⟩ = some (.int .i64 0) ∧ (((w.alloc (.cells #[.int .i64 0] 3)).alloc (.cells #[.string nm, .slice (some ⟨cb, co, none⟩) 1 ccap] 39)).alloc (.cells #[.slice none 0 0, .int .i64 0, .int .i64 0, .pointer none, .pointer none] 83)).frozen? ⟨w.heap.size, 0, none⟩ = false ∧ w.heap.size < (((w.alloc (.cells #[.int .i64 0] 3)).alloc (.cells #[.string nm, .slice (some ⟨cb, co, none⟩) 1 ccap] 39)).alloc (.cells #[.slice none 0 0, .int .i64 0, .int .i64 0, .pointer none, .pointer none] 83)).heap.size) := ⟨by simp [go_sem], by simp [go_sem], by simp; omega⟩
  have HE := hidd (HEV.out (((w.alloc (.cells #[.int .i64 0] 3)).alloc (.cells #[.string nm, .slice (some ⟨cb, co, none⟩) 1 ccap] 39)).alloc (.cells #[.slice none 0 0, .int .i64 0, .int .i64 0, .pointer none, .pointer none] 83)) (.pointer (some ⟨w.heap.size + 1 + 1, 0, none⟩)) BB.out)
  go_enter_defers Tryd.func21, Tryd.ntmps21
  go_wp2_with fail
  refine wp_loop_rounds 2 ?_
  rw [rounds_succ]
  go_wp2_with fail
  refine wp_loop_rounds 2 ?_
  rw [rounds_succ]
  go_wp2_with fail
  refine HE.out.mono ?_
  rintro e w3 ⟨hk3, hq⟩
  have hk : Keep rb w w3 := ((Keep.refl rb w).below BB.out).trans hk3
  have hN3 : w.heap.size < w3.heap.size := Nat.lt_of_lt_of_le H0.out.2.2 hk3.size
  have g0 : w3.cell? ⟨w.heap.size, 0, none⟩ = some (.int .i64 0) := (hk3.cell (p := ⟨w.heap.size, 0, none⟩) H0.out.2.2 (by simp; omega)).trans H0.out.1
  have y0 : w3.frozen? ⟨w.heap.size, 0, none⟩ = false := (hk3.frozen (p := ⟨w.heap.size, 0, none⟩) H0.out.2.2 (by simp; omega)).trans H0.out.2.1
  have HK := hidd hk
  clear hk3 BB H0 HE HEV k0 k1
  rcases hq with ⟨hb, rfl, hR⟩ | ⟨hb, rfl, hD⟩
  · have HR := hidd (HST.out w.heap.size 0 1 w3 g0 (by omega) hR)
    subst hb
    clear HST hR HSD
    go_wp2_with fail
    rw [rounds_succ]
    go_wp2_with fail
    rw [rounds_succ]
    go_wp2_with fail
    refine leaves_cons (f := 26) (args := #[.pointer (some ⟨w.heap.size, 0, none⟩)]) (by simp) (by simp [go_sem]) ?_
    refine (catch_idle _ _).mono ?_
    rintro e u' w4 ⟨rfl, rfl, rfl⟩
    have hkk := HK.out.setNew ⟨w.heap.size, 0, none⟩ (Nat.le_refl _) (.int .i64 1)
    simp [Leaves, settle, results, Tryd.results21, go_sem, g0, hkk, HR.out]
  · subst hb
    show bodyPostD _ _ _ _ _ _
    refine leaves_cons (f := 26) (args := #[.pointer (some ⟨w.heap.size, 0, none⟩)]) (by simp) (by simp [go_sem]) ?_
    refine (catch_ended w.heap.size how 0 w3 hN3 g0 y0).mono ?_
    rintro e u' w'' ⟨rfl, rfl, w2, hb2, rfl⟩
    have k2 := (hb2.cell (p := ⟨w.heap.size, 0, none⟩) hN3).trans g0
    have hkk := (HK.out.below hb2).setNew ⟨w.heap.size, 0, none⟩ (Nat.le_refl _) (.int .i64 how)
    have hDD := HSD.out w3 (w2.setCell ⟨w.heap.size, 0, none⟩ (.int .i64 how)) ((Below.heap_setCell _ _ _ _ (by simp; omega)).trans (hb2.block rb (by omega))) hD
    simp [Leaves, settle, results, Tryd.results21, go_sem, k2, hkk, hDD]
end Go.Proofs.YthooljlikllnpaaDoor
