/- Chapter 7: package model: a procedure without anything around it is called. Chapter 7: package model: a procedure is called whose body is a number. -/
import Derived.Test.YthooljlikllnpaaDoorK40
namespace Go.Proofs.YthooljlikllnpaaDoor
section
set_option linter.unusedVariables false
set_option linter.unusedSimpArgs false
open Go.RowKit

/-- The frame that is around a body. -/
def RF (fb : Nat) (w : World) : Prop := w.heap[fb]? = some (.cells #[.slice none 0 0, .int .i64 0, .int .i64 0, .pointer none, .pointer none] 83 (0, 0))
set_option maxRecDepth 100000 in
set_option maxHeartbeats 1600000 in
theorem leap_root (fb : Nat) (w : World) (h : RF fb w) : Calls Tryd.prog 75 #[.pointer (some ⟨fb, 0, none⟩)] w fun e w' => e = .returned (.pointer (some ⟨fb, 0, none⟩)) ∧ w' = w := by
  have c2 : w.cell? ⟨fb, 2, none⟩ = some (.int .i64 0) := (cellO h).trans rfl
  clear h
  go_enter Tryd.func75, Tryd.ntmps75
  go_wp2_with fail
  go_ret
  exact ⟨rfl, rfl⟩
set_option maxRecDepth 100000 in
set_option maxHeartbeats 3200000 in
theorem With_root (fb N o k c : Nat) (w : World) (h : RF fb w) (hk : k ≤ 1000) : Calls Tryd.prog 60 #[.pointer (some ⟨fb, 0, none⟩), .slice (some ⟨N, o, none⟩) k c] w fun e w' => ∃ g, e = .returned (.pointer (some ⟨g, 0, none⟩)) ∧ Below w.heap.size w w' := by
  have c1 : w.cell? ⟨fb, 1, none⟩ = some (.int .i64 0) := (cellO h).trans rfl
  have c2 : w.cell? ⟨fb, 2, none⟩ = some (.int .i64 0) := (cellO h).trans rfl
  have HL : Hid (∀ W, Below w.heap.size w W → Calls Tryd.prog 75 #[.pointer (some ⟨fb, 0, none⟩)] W fun e w' => e = .returned (.pointer (some ⟨fb, 0, none⟩)) ∧ w' = W) := fun W hb => leap_root fb W ((hb.block fb (Array.getElem?_eq_some_iff.1 h).1).trans h)
  clear h
  by_cases h0 : k = 0
  · subst h0
    go_enter Tryd.func60, Tryd.ntmps60
    go_wp2_with fail
    go_ret
    exact ⟨fb, rfl, Below.refl _ _⟩
  · have hd : ((k : Int) == 0) = false := by simp; omega
    have hd' : ¬ ((k : Int) = 0) := by omega
    go_enter Tryd.func60, Tryd.ntmps60
    go_wp2_with fail
    go_region_with (go_at_call 75; refine (HL.out _ (Below.drew (Below.refl _ _))).mono ?_; rintro e w2 ⟨rfl, rfl⟩)
    all_goals
      go_wp2_with fail
      go_ret
      exact ⟨_, rfl, (Below.drew (Below.refl _ _)).alloc (Nat.le_refl _) _⟩
end
section
set_option linter.unusedVariables false
set_option linter.unusedSimpArgs false
open Go.RowKit

theorem RT.calls {B rb : Nat} {txs : List (List UInt8)} {left calls : Int} {gm : Value} {W : World} (h : RT B rb txs left calls gm W) (c : Int) : RT B rb txs left c gm (W.setCell ⟨rb, 2, none⟩ (.int .i64 c)) := by
  obtain ⟨tv, h1, h2⟩ := h
  refine ⟨tv, cell_setV h1 _, ?_⟩
  have hne := own_ne h2 h1
  refine h2.kept (row := some rb) ⟨rfl, rfl, rfl, by simp [World.setCell], fun k _ hk => Below.heap_setCell _ _ _ _ (fun e => hk (by simp [e]))⟩ (Or.inr hne)
theorem RT.cell2 {B rb : Nat} {txs : List (List UInt8)} {left calls : Int} {gm : Value} {W : World} (h : RT B rb txs left calls gm W) : W.cell? ⟨rb, 2, none⟩ = some (.int .i64 calls) ∧ W.frozen? ⟨rb, 2, none⟩ = false := by
  obtain ⟨tv, h1, h2⟩ := h
  exact ⟨(cellO h1).trans rfl, looseO h1⟩
theorem assertNoPr (v : Value) (w : World) : (Instr.typeAssert (.iface 115 v) 77 114 true).run Tryd.prog w = .ok (.tuple #[.string ⟨#[]⟩, .bool false]) w := by
  obtain ⟨i, hi, hz⟩ := Option.map_eq_some_iff.1 (show (Tryd.prog.info? 114).map (·.zero) = some (some (.string ⟨#[]⟩)) by kernel_rfl)
  simp [Instr.typeAssert, run_underlying Tryd.underlying114, hi, hz]
theorem assertProc (v : Value) (w : World) : (Instr.typeAssert (.iface 115 v) 77 115 true).run Tryd.prog w = .ok (.tuple #[v, .bool true]) w := by
  simp [Instr.typeAssert, run_underlying Tryd.underlying115]
set_option maxRecDepth 100000 in
set_option maxHeartbeats 1600000 in
theorem call_proc (B rb N k P lb lo fb : Nat) (txs : List (List UInt8)) (gm : Value) (left n : Int) (w : World) (hr : RT B rb txs left 0 gm w) (hl : 0 < left) (hl9 : left ≤ 1000000) (hB : B ≤ rb) (hBw : B ≤ w.heap.size) (hlb : lb < B) (hk : k ≤ 100)
    (h0 : w.cell? ⟨N, 0, none⟩ = some (.iface 115 (.pointer (some ⟨P, 0, none⟩)))) (hP : w.heap[P]? = some (.cells #[.int .i64 k, .pointer (some ⟨lb, lo, none⟩), .pointer (some ⟨fb, 0, none⟩)] 117 (0, 0))) (hF : RF fb w)
    (k0 : w.cell? ⟨lb, lo, none⟩ = some (.int .i64 1)) (k2 : w.cell? ⟨lb, lo + 2, none⟩ = some (.int .i64 n)) :
    Calls Tryd.prog 44 #[.pointer (some ⟨rb, 0, none⟩), .slice (some ⟨N, 0, none⟩) (k + 1) (k + 1)] w (EvK B rb (fun t v W => t = 104 ∧ v = .int .i64 n ∧ RT B rb txs (left - 1) 0 gm W) w) := by
  have ha1 := assertNoPr (.pointer (some ⟨P, 0, none⟩))
  have ha2 := assertProc (.pointer (some ⟨P, 0, none⟩))
  have hrn : P ≠ rb ∧ fb ≠ rb ∧ lb ≠ rb := by
    obtain ⟨tv, hR, _⟩ := hr
    exact ⟨ne_type hR hP (by decide), ne_type hR hF (by decide), by omega⟩
  have p0 : w.cell? ⟨P, 0, none⟩ = some (.int .i64 k) := (cellO hP).trans rfl
  obtain ⟨c2, z2⟩ := hr.cell2
  have HR1 := hidd (hr.calls 1)
  obtain ⟨W1, hW1⟩ : ∃ W1, W1 = w.setCell ⟨rb, 2, none⟩ (.int .i64 1) := ⟨_, rfl⟩
  have HK1 : Hid (KT B rb w W1) := by rw [hW1]; exact KT.ofKeep ((Keep.refl rb w).setCell _ rfl _)
  have hP1 := HK1.out.at hP (by decide) hrn.1
  have hF1 : RF fb W1 := HK1.out.at hF (by decide) hrn.2.1
  have hB1 := HK1.out.toBelow hB hBw
  have x1 : W1.cell? ⟨P, 1, none⟩ = some (.pointer (some ⟨lb, lo, none⟩)) := (cellO hP1).trans rfl
  have x2 : W1.cell? ⟨P, 2, none⟩ = some (.pointer (some ⟨fb, 0, none⟩)) := (cellO hP1).trans rfl
  have HW : Hid (∀ W o k c, k ≤ 1000 → Below W1.heap.size W1 W → Calls Tryd.prog 60 #[.pointer (some ⟨fb, 0, none⟩), .slice (some ⟨N, o, none⟩) k c] W fun e w' => ∃ g, e = .returned (.pointer (some ⟨g, 0, none⟩)) ∧ Below W.heap.size W w') := fun W o k c hk hb => With_root fb N o k c W ((hb.block fb (Array.getElem?_eq_some_iff.1 hF1).1).trans hF1) hk
  rw [← hW1] at HR1
  have HE : Hid (∀ g W, Below W1.heap.size W1 W → Calls Tryd.prog 28 #[.pointer (some ⟨rb, 0, none⟩), .pointer (some ⟨lb, lo, none⟩), .pointer (some ⟨g, 0, none⟩)] W (EvK B rb (fun t v W' => t = 104 ∧ v = .int .i64 n ∧ RT B rb txs (left - 1) 1 gm W') W)) := fun g W hb => by
    have hbb : Below B w W := hB1.trans (hb.mono (by have := HK1.out.size; omega))
    exact EvK.num (HR1.out.below hb) hl hl9 (by omega) ((hbb.cell (p := ⟨lb, lo, none⟩) hlb).trans k0) ((hbb.cell (p := ⟨lb, lo + 2, none⟩) hlb).trans k2)
  have hxP : P < W1.heap.size := (Array.getElem?_eq_some_iff.1 hP1).1
  have HX : Hid (∀ W, Below W1.heap.size W1 W → W.cell? ⟨P, 1, none⟩ = some (.pointer (some ⟨lb, lo, none⟩)) ∧ W.cell? ⟨P, 2, none⟩ = some (.pointer (some ⟨fb, 0, none⟩))) := fun W hb => ⟨(hb.cell (p := ⟨P, 1, none⟩) hxP).trans x1, (hb.cell (p := ⟨P, 2, none⟩) hxP).trans x2⟩
  have hw1 := hW1.symm
  have hq : (((k + 1 : Nat) : Int) - 1) = k := by omega
  clear hr hP hF k0 k2 hP1 hF1 hB1 x1 x2 hW1
  have hd1 : decide (((k + 1 : Nat) : Int) < 1) = false := by simp; omega
  go_enter Tryd.func44, Tryd.ntmps44
  go_wp2_with fail
  all_goals
    refine (Must_yes _ _).mono ?_
    rintro e w2 ⟨rfl, rfl⟩
    go_wp2_with fail
    refine (Must_yes _ _).mono ?_
    rintro e w2 ⟨rfl, rfl⟩
    go_wp2_with fail
    refine (Must_yes _ _).mono ?_
    rintro e w2 ⟨rfl, rfl⟩
    obtain ⟨y1, y2⟩ := HX.out W1 (Below.refl _ _)
    go_wp2_with fail
    go_region_with (first
      | (go_at_call 60; refine (HW.out _ _ _ _ (by omega) (Below.drew (Below.refl _ _))).mono ?_; rintro e w3 ⟨g, rfl, hb3⟩; have HB3 : Hid (Below W1.heap.size W1 w3) := (Below.drew (Below.refl _ _)).trans hb3; obtain ⟨u1, u2⟩ := HX.out w3 HB3.out)
      | (go_at_call 28; refine (HE.out g w3 HB3.out).mono ?_; rintro e w4 ⟨hk4, t, v, rfl, rfl, rfl, hr4⟩))
    all_goals
      obtain ⟨r2, s2⟩ := hr4.cell2
      have HKK : Hid (KT B rb w2 (w4.setCell ⟨rb, 2, none⟩ (.int .i64 0))) := HK1.out.trans ((KT.ofBelow HB3.out).trans (hk4.trans (KT.ofKeep ((Keep.refl rb w4).setCell _ rfl _))))
      have HRR := hidd (hr4.calls 0)
      clear hk4 hr4
      go_wp2_with fail
      go_ret
      exact ⟨HKK.out, _, _, rfl, rfl, rfl, HRR.out⟩
end
end Go.Proofs.YthooljlikllnpaaDoor
