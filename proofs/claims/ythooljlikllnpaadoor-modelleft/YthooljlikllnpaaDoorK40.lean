/- Chapter 7: package model: out of a number, evaluated anywhere. -/
import Derived.Test.YthooljlikllnpaaDoorK39
namespace Go.Proofs.YthooljlikllnpaaDoor
set_option linter.unusedVariables false
set_option linter.unusedSimpArgs false
open Go.RowKit

theorem EvK.num {B rb cb co : Nat} {txs : List (List UInt8)} {gm fr : Value} {left calls n : Int} {w : World} (hr : RT B rb txs left calls gm w) (hl : 0 < left) (hl9 : left ≤ 1000000) (hc : rb ≠ cb)
    (k0 : w.cell? ⟨cb, co, none⟩ = some (.int .i64 1)) (k2 : w.cell? ⟨cb, co + 2, none⟩ = some (.int .i64 n)) :
    Calls Tryd.prog 28 #[.pointer (some ⟨rb, 0, none⟩), .pointer (some ⟨cb, co, none⟩), fr] w (EvK B rb (fun t x W => t = 104 ∧ x = .int .i64 n ∧ RT B rb txs (left - 1) calls gm W) w) := by
  obtain ⟨tv, hR, hO⟩ := hr
  refine (eval_num rb cb co tv gm fr left calls n w hR hl hl9 hc k0 k2).mono ?_
  rintro e w' ⟨rfl, rfl⟩
  exact ⟨KT.ofKeep ((Keep.refl rb w).setCell _ rfl _), _, _, rfl, rfl, rfl, RT.step ⟨tv, hR, hO⟩⟩
theorem EvK.prim {B rb cb co : Nat} {txs : List (List UInt8)} {gm fr : Value} {left calls : Int} {s : ByteArray} {w : World} (hr : RT B rb txs left calls gm w) (hl : 0 < left) (hl9 : left ≤ 1000000) (hc : rb ≠ cb)
    (k0 : w.cell? ⟨cb, co, none⟩ = some (.int .i64 6)) (k4 : w.cell? ⟨cb, co + 4, none⟩ = some (.string s)) :
    Calls Tryd.prog 28 #[.pointer (some ⟨rb, 0, none⟩), .pointer (some ⟨cb, co, none⟩), fr] w (EvK B rb (fun t x W => t = 114 ∧ x = .string s ∧ RT B rb txs (left - 1) calls gm W) w) := by
  obtain ⟨tv, hR, hO⟩ := hr
  refine (eval_prim rb cb co tv gm fr left calls s w hR hl hl9 hc k0 k4).mono ?_
  rintro e w' ⟨rfl, rfl⟩
  exact ⟨KT.ofKeep ((Keep.refl rb w).setCell _ rfl _), _, _, rfl, rfl, rfl, RT.step ⟨tv, hR, hO⟩⟩
theorem RT.set77 {B rb N q : Nat} {txs : List (List UInt8)} {left calls : Int} {gm v : Value} {W : World} {cs : Array Value} (h1 : W.heap[N]? = some (.cells cs 77 (0, 0))) (h : RT B rb txs left calls gm W) : RT B rb txs left calls gm (W.setCell ⟨N, q, none⟩ v) := by
  obtain ⟨tv, hR, hO⟩ := h
  have hne : rb ≠ N := ne77 h1 hR (by decide)
  exact RT.set ⟨tv, hR, hO⟩ h1 (by decide) (fun e => hne e.symm)
def RU (B rb : Nat) (txs : List (List UInt8)) (left calls n : Int) (gm : Value) (vs : List (TypeId × Value)) (W : World) : Prop :=
  RT B rb txs (left - 1 - vs.length) calls gm W ∧ vs = [(114, .string outB), (104, .int .i64 n)].take vs.length
theorem RT.first {B rb : Nat} {txs : List (List UInt8)} {left calls : Int} {gm : Value} {w W : World} (hr : RT B rb txs left calls gm w) (hb : Below w.heap.size (w.setCell ⟨rb, 1, none⟩ (.int .i64 (left - 1))) W) : RT B rb txs (left - 1) calls gm W := by
  refine hr.step.below ?_
  have e : (w.setCell ⟨rb, 1, none⟩ (.int .i64 (left - 1))).heap.size = w.heap.size := by simp
  rw [e]
  exact hb
theorem out_num (B T : Nat) (n : Int) (txs : List (List UInt8)) (rb cb co lb lo cap : Nat) (gm fr : Value) (left calls : Int) (w : World)
    (hr : RT B rb txs left calls gm w) (hl : 3 ≤ left) (hl9 : left ≤ 1000000) (hB : B ≤ rb) (hBw : B ≤ w.heap.size) (hc : cb < B) (hlb : lb < B) (hcap : 2 ≤ cap) (hn : txs.length < 200)
    (ht : Tab T w) (hT : T ≤ B) (h1 : rangeN n = true)
    (k0 : w.cell? ⟨cb, co, none⟩ = some (.int .i64 9)) (k11 : w.cell? ⟨cb, co + 11, none⟩ = some (.slice (some ⟨lb, lo, none⟩) 2 cap))
    (p0 : w.cell? ⟨lb, lo, none⟩ = some (.int .i64 6)) (p4 : w.cell? ⟨lb, lo + 4, none⟩ = some (.string outB))
    (q0 : w.cell? ⟨lb, lo + 12, none⟩ = some (.int .i64 1)) (q2 : w.cell? ⟨lb, lo + 12 + 2, none⟩ = some (.int .i64 n)) :
    Calls Tryd.prog 28 #[.pointer (some ⟨rb, 0, none⟩), .pointer (some ⟨cb, co, none⟩), fr] w (EvK B rb (fun t v W => t = 104 ∧ v = .int .i64 n ∧ RT B rb (txs ++ [Lib.itoa n]) (left - 3) calls gm W) w) := by
  have cell : ∀ W, KT B rb w W → ∀ q, W.cell? ⟨lb, q, none⟩ = w.cell? ⟨lb, q, none⟩ := fun W hk q => (hk.toBelow hB hBw).cell (p := ⟨lb, q, none⟩) hlb
  have hrb : rb < w.heap.size := by
    obtain ⟨tv, hR, _⟩ := hr
    exact (Array.getElem?_eq_some_iff.1 hR).1
  refine eval_callK B rb cb co lb lo 2 cap txs gm fr left calls (RU B rb txs left calls n gm) _ w hr (by omega) hl9 (by omega) (by omega) hcap hrb k0 k11 (fun vs W N cs q v g1 _ h => ⟨h.1.set77 g1, h.2⟩) (fun W hb => ⟨?_, rfl⟩) ?_ ?_
  · simpa using hr.first hb
  · intro vs W hj hk hR
    obtain ⟨hR, hv⟩ := hR
    match vs, hj, hR, hv with
    | [], _, hR, hv =>
      refine (EvK.prim (fr := fr) hR (by simp; omega) (by simp; omega) (by omega) ((cell W hk _).trans p0) ((cell W hk _).trans p4)).mono ?_
      rintro e w' ⟨g1, t, v, g2, rfl, rfl, g3⟩
      refine ⟨g1, _, _, g2, ?_, rfl⟩
      simpa using g3
    | [v0], _, hR, hv =>
      refine (EvK.num (fr := fr) hR (by simp; omega) (by simp; omega) (by omega) ((cell W hk _).trans q0) ((cell W hk _).trans q2)).mono ?_
      rintro e w' ⟨g1, t, v, g2, rfl, rfl, g3⟩
      refine ⟨g1, _, _, g2, ?_, ?_⟩
      · have e : left - 1 - 1 - 1 = left - 1 - 2 := by omega
        simpa [e] using g3
      · simp at hv
        simp [hv]
    | _ :: _ :: _, hj, _, _ => simp at hj; omega
  · intro N vs W hN hNW hk hvl h77 hR hcs
    obtain ⟨hR, hv⟩ := hR
    rw [hvl] at hR hv
    simp at hv
    subst hv
    have g0 := hcs 0 _ _ rfl
    have g1 := hcs 1 _ _ rfl
    have hkB := hk.toBelow hB hBw
    have hBW : B ≤ W.heap.size := Nat.le_trans hBw hk.size
    have e : left - 1 - ((2 : Nat) : Int) = left - 3 := by omega
    rw [e] at hR
    refine call_primK1 B rb N outB _ W g0 ?_
    refine (prim_outK B rb N 1 104 (.int .i64 n) (RT B rb (txs ++ [Lib.itoa n]) (left - 3) calls gm) W g1 h77 (by omega) ?_).mono ?_
    · refine put_gen B rb 1 104 (.int .i64 n) (Lib.itoa n) txs (left - 3) calls gm W hR hBW hn (itoa_some n) ?_
      intro W' hb hw
      have := value_num T W.heap.size W.heap.size 0 n [] W' hw (by omega) (by omega) (by simp) hb.size (ht.below ((hkB.mono hT).trans (hb.mono (by omega)))) (by omega) h1 (itoa_short n h1)
      simpa using this
    · rintro e w' ⟨rfl, hk', hr'⟩
      exact ⟨hk', _, _, rfl, rfl, rfl, hr'⟩
set_option maxRecDepth 100000 in
set_option maxHeartbeats 1600000 in
theorem eval_lam (B rb cb co lb lo cap fb : Nat) (txs : List (List UInt8)) (gm : Value) (left calls i : Int) (w : World) (hr : RT B rb txs left calls gm w) (hl : 0 < left) (hl9 : left ≤ 1000000) (hc : rb ≠ cb) (hcap : 1 ≤ cap)
    (k0 : w.cell? ⟨cb, co, none⟩ = some (.int .i64 8)) (k1 : w.cell? ⟨cb, co + 1, none⟩ = some (.int .i64 i)) (k11 : w.cell? ⟨cb, co + 11, none⟩ = some (.slice (some ⟨lb, lo, none⟩) 1 cap)) :
    Calls Tryd.prog 28 #[.pointer (some ⟨rb, 0, none⟩), .pointer (some ⟨cb, co, none⟩), .pointer (some ⟨fb, 0, none⟩)] w (EvK B rb (fun t v W => t = 115 ∧ RT B rb txs (left - 1) calls gm W ∧ ∃ P, w.heap.size ≤ P ∧ v = .pointer (some ⟨P, 0, none⟩) ∧ W.heap[P]? = some (.cells #[.int .i64 i, .pointer (some ⟨lb, lo, none⟩), .pointer (some ⟨fb, 0, none⟩)] 117 (0, 0))) w) := by
  have hr' := hr
  obtain ⟨tv, hR, hO⟩ := hr'
  have c1 : w.cell? ⟨rb, 1, none⟩ = some (.int .i64 left) := (cellO hR).trans rfl
  have z1 := looseO (q := 1) hR
  have hg : decide (left > 0) = true := by simp; omega
  have hg' : decide (0 < left) = true := by simp; omega
  have HK1 : Hid (KT B rb w (w.setCell ⟨rb, 1, none⟩ (.int .i64 (left - 1)))) := KT.ofKeep ((Keep.refl rb w).setCell _ rfl _)
  have HR1 := hidd hr.step
  obtain ⟨W1, hW1⟩ : ∃ W1, W1 = w.setCell ⟨rb, 1, none⟩ (.int .i64 (left - 1)) := ⟨_, rfl⟩
  have hs1 : W1.heap.size = w.heap.size := by rw [hW1]; simp
  have x0 : W1.cell? ⟨cb, co, none⟩ = some (.int .i64 8) := by rw [hW1]; exact (World.cell?_of_block (Below.heap_setCell _ _ _ _ (by simpa using fun e => hc e.symm))).trans k0
  have x1 : W1.cell? ⟨cb, co + 1, none⟩ = some (.int .i64 i) := by rw [hW1]; exact (World.cell?_of_block (Below.heap_setCell _ _ _ _ (by simpa using fun e => hc e.symm))).trans k1
  have x11 : W1.cell? ⟨cb, co + 11, none⟩ = some (.slice (some ⟨lb, lo, none⟩) 1 cap) := by rw [hW1]; exact (World.cell?_of_block (Below.heap_setCell _ _ _ _ (by simpa using fun e => hc e.symm))).trans k11
  rw [← hW1] at HK1 HR1
  have hw1 := hW1.symm
  have HS := hidd hs1
  clear hr hR hO hW1 hs1
  go_enter Tryd.func28, Tryd.ntmps28
  go_wp2_with fail
  refine (Must_yes 2 _).mono ?_
  rintro e w1 ⟨rfl, rfl⟩
  go_wp2_with fail
  go_region
  all_goals
    have HB : Hid (Below W1.heap.size W1 (W1.drew.alloc (.cells #[.int .i64 i, .pointer (some ⟨lb, lo, none⟩), .pointer (some ⟨fb, 0, none⟩)] 117))) := (Below.drew (Below.refl _ _)).alloc (Nat.le_refl _) _
    have HP := hidd (World.alloc_heap_new W1.drew (.cells #[.int .i64 i, .pointer (some ⟨lb, lo, none⟩), .pointer (some ⟨fb, 0, none⟩)] 117))
    go_wp2_with fail
    go_ret
    exact ⟨HK1.out.trans (KT.ofBelow HB.out), _, _, rfl, rfl, HR1.out.below HB.out, _, Nat.le_of_eq HS.out.symm, rfl, HP.out⟩
end Go.Proofs.YthooljlikllnpaaDoor
