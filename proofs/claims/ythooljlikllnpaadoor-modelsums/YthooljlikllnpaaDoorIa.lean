/- Chapter 7: ModelSums: the law's walk. -/
import Derived.Test.YthooljlikllnpaaDoorHz
namespace Go.Proofs.YthooljlikllnpaaDoor
set_option linter.unusedVariables false
set_option linter.unusedSimpArgs false
open Go.RowKit

theorem mul_small {a b : Int} (h1 : a < 1000000) (h2 : -1000000 < a) (h3 : b < 1000000000) (h4 : -1000000000 < b) : -9223372036854775808 ≤ a * b ∧ a * b ≤ 9223372036854775807 := by
  have e : (a * b).natAbs = a.natAbs * b.natAbs := Int.natAbs_mul a b
  have g : a.natAbs * b.natAbs ≤ 1000000 * 1000000000 := Nat.mul_le_mul (by omega) (by omega)
  omega
set_option maxRecDepth 100000 in
set_option maxHeartbeats 6400000 in
theorem ModelSums_in (T : Nat) (a b : Int) (w : World) (ht : Tab T w) (hT : T ≤ w.heap.size) (h1 : rangeN a = true) (h2 : rangeN b = true) : Calls Tryd.prog 7 #[.int .i64 a, .int .i64 b] w fun e w' => e = .returned (.bool true) ∧ Below w.heap.size w w' := by
  obtain ⟨W0, hW0⟩ : ∃ W0, W0 = (w.alloc (.cells #[.int .i64 a] 2)).alloc (.cells #[.int .i64 b] 2) := ⟨_, rfl⟩
  have hb0 : Below w.heap.size w W0 := by rw [hW0]; exact ((Below.refl _ _).alloc (Nat.le_refl _) _).alloc (by simp) _
  have a0 : W0.heap[w.heap.size]? = some (.cells #[.int .i64 a] 2 (0, 0)) := by rw [hW0, Below.heap_alloc _ _ _ (alloc_lt _ _)]; exact World.alloc_heap_new w _
  have a1 : W0.heap[w.heap.size + 1]? = some (.cells #[.int .i64 b] 2 (0, 0)) := by
    rw [hW0]
    have := World.alloc_heap_new (w.alloc (.cells #[.int .i64 a] 2)) (.cells #[.int .i64 b] 2)
    simpa using this
  have t0 : Tab T W0 := ht.below (hb0.mono hT)
  have hT0 := Nat.le_trans hT hb0.size
  have k0 : W0.cell? ⟨w.heap.size, 0, none⟩ = some (.int .i64 a) := (cellO a0).trans rfl
  have k1 : W0.cell? ⟨w.heap.size + 1, 0, none⟩ = some (.int .i64 b) := (cellO a1).trans rfl
  have HAl := hidd (alive_any T W0 t0 hT0)
  have HK : Hid (∀ W, Below W0.heap.size W0 W → W.cell? ⟨w.heap.size, 0, none⟩ = some (.int .i64 a) ∧ W.cell? ⟨w.heap.size + 1, 0, none⟩ = some (.int .i64 b)) := fun W hb => ⟨(hb.cell (p := ⟨w.heap.size, 0, none⟩) (cell_lt k0)).trans k0, (hb.cell (p := ⟨w.heap.size + 1, 0, none⟩) (cell_lt k1)).trans k1⟩
  have HRun : Hid (∀ (f : Fin 4) W, Below W0.heap.size W0 W → Calls Tryd.prog 19 #[.string (opB f), .pointer (some ⟨w.heap.size, 0, none⟩), .pointer (some ⟨w.heap.size + 1, 0, none⟩)] W fun e w' => e = .returned (runS f a b) ∧ Below W.heap.size W w') := fun f W hb =>
    run19_any T f a b w.heap.size (w.heap.size + 1) W (t0.below (hb.mono hT0)) (Nat.le_trans hT0 hb.size) h1 h2 (HK.out W hb).1 (HK.out W hb).2
  have HFit : Hid (∀ n W, -9223372036854775808 ≤ n → n ≤ 9223372036854775807 → Below W0.heap.size W0 W → Calls Tryd.prog 20 #[.int .i64 n, .string ⟨(if rangeN n then Lib.itoa n else []).toArray⟩, .int .i64 (if rangeN n then 1 else 6)] W fun e w' => e = .returned (.bool true) ∧ Below W.heap.size W w') := fun n W g1 g2 hb => fits_true T n g1 g2 W (t0.below (hb.mono hT0)) (Nat.le_trans hT0 hb.size)
  unfold rangeN at h1 h2
  simp only [Bool.and_eq_true, decide_eq_true_eq] at h1 h2
  obtain ⟨s0, h0, R0, F0⟩ : ∃ s0 h0, Hid (∀ W, Below W0.heap.size W0 W → Calls Tryd.prog 19 #[.string ⟨#[43]⟩, .pointer (some ⟨w.heap.size, 0, none⟩), .pointer (some ⟨w.heap.size + 1, 0, none⟩)] W fun e w' => e = .returned (.tuple #[.string s0, .int .i64 h0]) ∧ Below W.heap.size W w') ∧ Hid (∀ W, Below W0.heap.size W0 W → Calls Tryd.prog 20 #[.int .i64 (a + b), .string s0, .int .i64 h0] W fun e w' => e = .returned (.bool true) ∧ Below W.heap.size W w') :=
    ⟨_, _, fun W hb => HRun.out 0 W hb, fun W hb => HFit.out (a + b) W (by omega) (by omega) hb⟩
  obtain ⟨s1, h3, R1, F1⟩ : ∃ s0 h0, Hid (∀ W, Below W0.heap.size W0 W → Calls Tryd.prog 19 #[.string ⟨#[45]⟩, .pointer (some ⟨w.heap.size, 0, none⟩), .pointer (some ⟨w.heap.size + 1, 0, none⟩)] W fun e w' => e = .returned (.tuple #[.string s0, .int .i64 h0]) ∧ Below W.heap.size W w') ∧ Hid (∀ W, Below W0.heap.size W0 W → Calls Tryd.prog 20 #[.int .i64 (a - b), .string s0, .int .i64 h0] W fun e w' => e = .returned (.bool true) ∧ Below W.heap.size W w') :=
    ⟨_, _, fun W hb => HRun.out 1 W hb, fun W hb => HFit.out (a - b) W (by omega) (by omega) hb⟩
  obtain ⟨s2, h4, R2, F2⟩ : ∃ s0 h0, Hid (∀ W, Below W0.heap.size W0 W → Calls Tryd.prog 19 #[.string ⟨#[42]⟩, .pointer (some ⟨w.heap.size, 0, none⟩), .pointer (some ⟨w.heap.size + 1, 0, none⟩)] W fun e w' => e = .returned (.tuple #[.string s0, .int .i64 h0]) ∧ Below W.heap.size W w') ∧ Hid (-9223372036854775808 ≤ a * b ∧ a * b ≤ 9223372036854775807 → ∀ W, Below W0.heap.size W0 W → Calls Tryd.prog 20 #[.int .i64 (a * b), .string s0, .int .i64 h0] W fun e w' => e = .returned (.bool true) ∧ Below W.heap.size W w') :=
    ⟨_, _, fun W hb => HRun.out 2 W hb, fun g W hb => HFit.out (a * b) W g.1 g.2 hb⟩
  have R3 : Hid (∀ W, Below W0.heap.size W0 W → Calls Tryd.prog 19 #[.string ⟨#[60]⟩, .pointer (some ⟨w.heap.size, 0, none⟩), .pointer (some ⟨w.heap.size + 1, 0, none⟩)] W fun e w' => e = .returned (.tuple #[.string ⟨(truthB (decide (a < b))).toArray⟩, .int .i64 1]) ∧ Below W.heap.size W w') := fun W hb => HRun.out 3 W hb
  have HB0 := hidd hb0
  have hw0 := hW0.symm
  clear HRun HFit hW0 hb0 a0 a1 t0 hT0 ht hT
  have d1 : decide (a > 1000000000000000) = false := by simp; omega
  have d2 : decide (a < -1000000000000000) = false := by simp; omega
  have d3 : decide (b > 1000000000000000) = false := by simp; omega
  have d4 : decide (b < -1000000000000000) = false := by simp; omega
  have d1' : decide (1000000000000000 < a) = false := by simp; omega
  have d3' : decide (1000000000000000 < b) = false := by simp; omega
  go_enter Tryd.func7, Tryd.ntmps7
  go_wp2_with fail
  refine HAl.out.mono ?_
  rintro e w1 ⟨rfl, hb1⟩
  obtain ⟨c0, c1⟩ := HK.out w1 hb1
  have HB1 := hidd hb1
  clear hb1
  go_wp2_with fail
  refine (R0.out _ HB1.out).mono ?_
  rintro e w2 ⟨rfl, hb2⟩
  have HB2 := hidd (HB1.out.trans (hb2.mono HB1.out.size))
  obtain ⟨x2, y2⟩ := HK.out w2 HB2.out
  clear hb2
  go_wp2_with fail
  refine (F0.out _ HB2.out).mono ?_
  rintro e w3 ⟨rfl, hb3⟩
  have HB3 := hidd (HB2.out.trans (hb3.mono HB2.out.size))
  obtain ⟨x3, y3⟩ := HK.out w3 HB3.out
  clear hb3
  go_wp2_with fail
  refine (R1.out _ HB3.out).mono ?_
  rintro e w4 ⟨rfl, hb4⟩
  have HB4 := hidd (HB3.out.trans (hb4.mono HB3.out.size))
  obtain ⟨x4, y4⟩ := HK.out w4 HB4.out
  clear hb4
  go_wp2_with fail
  refine (F1.out _ HB4.out).mono ?_
  rintro e w5 ⟨rfl, hb5⟩
  have HB5 := hidd (HB4.out.trans (hb5.mono HB4.out.size))
  obtain ⟨x5, y5⟩ := HK.out w5 HB5.out
  clear hb5
  go_wp2_with fail
  refine (R2.out _ HB5.out).mono ?_
  rintro e w6 ⟨rfl, hb6⟩
  have HB6 := hidd (HB5.out.trans (hb6.mono HB5.out.size))
  obtain ⟨x6, y6⟩ := HK.out w6 HB6.out
  clear hb6
  have last : Hid (∀ W, Below W0.heap.size W0 W → Below w.heap.size w W) := fun W hb => HB0.out.trans (hb.mono HB0.out.size)
  by_cases m1 : a < 1000000
  · by_cases m2 : a > -1000000
    · by_cases m3 : b < 1000000000
      · by_cases m4 : b > -1000000000
        · obtain ⟨p1, p2⟩ := mul_small m1 m2 m3 m4
          have F2' := hidd (F2.out ⟨p1, p2⟩)
          have e1 : decide (a < 1000000) = true := by simpa using m1
          have e2 : decide (a > -1000000) = true := by simpa using m2
          have e3 : decide (b < 1000000000) = true := by simpa using m3
          have e4 : decide (b > -1000000000) = true := by simpa using m4
          go_wp2_with fail
          refine (F2'.out _ HB6.out).mono ?_
          rintro e w7 ⟨rfl, hb7⟩
          have HB7 := hidd (HB6.out.trans (hb7.mono HB6.out.size))
          obtain ⟨x7, y7⟩ := HK.out w7 HB7.out
          clear hb7
          go_wp2_with fail
          refine (R3.out _ HB7.out).mono ?_
          rintro e w8 ⟨rfl, hb8⟩
          have HB8 := hidd (HB7.out.trans (hb8.mono HB7.out.size))
          obtain ⟨x8, y8⟩ := HK.out w8 HB8.out
          clear hb8
          by_cases hlt : a < b
          · have g1 : decide (a < b) = true := by simpa using hlt
            rw [g1]
            unfold truthB
            go_wp2_with fail
            go_ret
            exact ⟨rfl, last.out _ HB8.out⟩
          · have g1 : decide (a < b) = false := by simpa using hlt
            rw [g1]
            unfold truthB
            go_wp2_with fail
            go_ret
            exact ⟨rfl, last.out _ HB8.out⟩
        · have e1 : decide (a < 1000000) = true := by simpa using m1
          have e2 : decide (a > -1000000) = true := by simpa using m2
          have e3 : decide (b < 1000000000) = true := by simpa using m3
          have e4 : decide (b > -1000000000) = false := by simpa using m4
          go_wp2_with fail
          refine (R3.out _ HB6.out).mono ?_
          rintro e w8 ⟨rfl, hb8⟩
          have HB8 := hidd (HB6.out.trans (hb8.mono HB6.out.size))
          obtain ⟨x8, y8⟩ := HK.out w8 HB8.out
          clear hb8
          by_cases hlt : a < b
          · have g1 : decide (a < b) = true := by simpa using hlt
            rw [g1]
            unfold truthB
            go_wp2_with fail
            go_ret
            exact ⟨rfl, last.out _ HB8.out⟩
          · have g1 : decide (a < b) = false := by simpa using hlt
            rw [g1]
            unfold truthB
            go_wp2_with fail
            go_ret
            exact ⟨rfl, last.out _ HB8.out⟩
      · have e1 : decide (a < 1000000) = true := by simpa using m1
        have e2 : decide (a > -1000000) = true := by simpa using m2
        have e3 : decide (b < 1000000000) = false := by simpa using m3
        go_wp2_with fail
        refine (R3.out _ HB6.out).mono ?_
        rintro e w8 ⟨rfl, hb8⟩
        have HB8 := hidd (HB6.out.trans (hb8.mono HB6.out.size))
        obtain ⟨x8, y8⟩ := HK.out w8 HB8.out
        clear hb8
        by_cases hlt : a < b
        · have g1 : decide (a < b) = true := by simpa using hlt
          rw [g1]
          unfold truthB
          go_wp2_with fail
          go_ret
          exact ⟨rfl, last.out _ HB8.out⟩
        · have g1 : decide (a < b) = false := by simpa using hlt
          rw [g1]
          unfold truthB
          go_wp2_with fail
          go_ret
          exact ⟨rfl, last.out _ HB8.out⟩
    · have e1 : decide (a < 1000000) = true := by simpa using m1
      have e2 : decide (a > -1000000) = false := by simpa using m2
      go_wp2_with fail
      refine (R3.out _ HB6.out).mono ?_
      rintro e w8 ⟨rfl, hb8⟩
      have HB8 := hidd (HB6.out.trans (hb8.mono HB6.out.size))
      obtain ⟨x8, y8⟩ := HK.out w8 HB8.out
      clear hb8
      by_cases hlt : a < b
      · have g1 : decide (a < b) = true := by simpa using hlt
        rw [g1]
        unfold truthB
        go_wp2_with fail
        go_ret
        exact ⟨rfl, last.out _ HB8.out⟩
      · have g1 : decide (a < b) = false := by simpa using hlt
        rw [g1]
        unfold truthB
        go_wp2_with fail
        go_ret
        exact ⟨rfl, last.out _ HB8.out⟩
  · have e1 : decide (a < 1000000) = false := by simpa using m1
    go_wp2_with fail
    refine (R3.out _ HB6.out).mono ?_
    rintro e w8 ⟨rfl, hb8⟩
    have HB8 := hidd (HB6.out.trans (hb8.mono HB6.out.size))
    obtain ⟨x8, y8⟩ := HK.out w8 HB8.out
    clear hb8
    by_cases hlt : a < b
    · have g1 : decide (a < b) = true := by simpa using hlt
      rw [g1]
      unfold truthB
      go_wp2_with fail
      go_ret
      exact ⟨rfl, last.out _ HB8.out⟩
    · have g1 : decide (a < b) = false := by simpa using hlt
      rw [g1]
      unfold truthB
      go_wp2_with fail
      go_ret
      exact ⟨rfl, last.out _ HB8.out⟩
end Go.Proofs.YthooljlikllnpaaDoor
