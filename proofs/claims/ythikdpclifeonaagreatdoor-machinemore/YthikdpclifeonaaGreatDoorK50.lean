/- Chapter 11: MORE INSTRUCTIONS, NO LESS: the walk. Chapter 11: WHAT IS CHECKED DOES NOT FALL: the walk. -/
import Derived.BigQuiet
import Derived.Deep.QuietTactic
import Derived.StillTail
import Derived.Test.YthikdpclifeonaaGreatDoorK48
import Derived.Test.YthikdpclifeonaaGreatDoorK49
namespace Go.Proofs.YthikdpclifeonaaGreatDoor.V
section
set_option linter.unusedVariables false
set_option linter.unusedSimpArgs false
open Go.RowKit
open Go.Proofs.YthikdpclifeonaaGreatDoor

theorem still_of_quiet {P : Program} {ops : Array Oper} {W : World} {Q : Act → Prop} : ∀ (l : List Oper) (a : Act), wpQuiet P ops (fun w' => w' = W) Q l a → wpStill P ops W Q l a
  | [], _, h => h
  | o :: rest, a, h => by
    unfold wpQuiet at h
    unfold wpStill
    by_cases hw : Region.wanted o (yielded ops a.tmps) = true
    · rw [if_pos hw] at h ⊢
      obtain ⟨v, h1, h2⟩ := h
      have h3 := h1 W rfl
      have h4 := still_of_quiet rest _ h2
      unfold Oper.quietAt at h3
      unfold Oper.still
      generalize (execOp a.eval o).run P W = r at h3
      unfold Oper.quietUpon at h3
      unfold Oper.stillUpon
      split at h3
      · obtain ⟨rfl, rfl⟩ := h3; exact ⟨rfl, h4⟩
      · obtain ⟨rfl, rfl⟩ := h3; exact ⟨rfl, h4⟩
      · obtain ⟨rfl, h5⟩ := h3; exact ⟨rfl, v, h5, h4⟩
      · exact h3.elim
    · rw [if_neg hw] at h ⊢
      exact still_of_quiet rest _ h

/-- A region that draws its order, whose first operations only read and whose others wait for them all. -/
theorem wp_region_quiet_tail {P : Program} {id : Nat} {Q : Exit → Act → World → Prop} {a : Act} {w : World} {l : List Oper} (n : Nat) (hm : P.follows .mixedOrders = true) (hB : Region.lexTailB .any l.toArray n = true)
    (h : wpQuiet P l.toArray (fun w' => w' = w.drew) (fun a' => wpList P l.toArray Q (l.drop n) a' w.drew) (l.take n) a) : (Code.region id l.toArray true).wp P Q a w :=
  wp_region_still_tail n hm hB (still_of_quiet _ _ h)
theorem mc0_more (ng s m : Nat) : mc0 ng (s + m) = moreM m (mc0 ng s) := rfl
/-- What is told with more instructions. -/
theorem machine_more (ng : Nat) (PP : List Pro) (ss : List Int) (steps mo : Int) (h1 : 0 ≤ mo) (h3 : 0 ≤ steps) (h4 : steps ≤ 1000000 - mo) :
    ((machineR ng PP ss (steps + mo)).2 = (machineR ng PP ss steps).2) ∧ ((machineR ng PP ss steps).2 = 0 → (∃ r, (machineR ng PP ss (steps + mo)).1.2 = (machineR ng PP ss steps).1.2 ++ r) ∧ ((machineR ng PP ss steps).1.1 ≠ 2 → (machineR ng PP ss (steps + mo)).1 = (machineR ng PP ss steps).1)) := by
  unfold machineR
  by_cases hw : wrongI ng PP ss = 0
  · rw [if_pos hw, if_pos hw, if_neg (by omega), if_neg (by omega)]
    have e : (steps + mo).toNat = steps.toNat + mo.toNat := by omega
    refine ⟨rfl, fun _ => ⟨?_, ?_⟩⟩
    · have := (run_moreM PP mo.toNat (ss.map Int.toNat) (mc0 ng steps.toNat)).1
      rw [e, mc0_more]
      exact this
    · intro hh
      have := (run_moreM PP mo.toNat (ss.map Int.toNat) (mc0 ng steps.toNat)).2 hh
      rw [e, mc0_more, this]
      rfl
  · rw [if_neg hw, if_neg hw]
    exact ⟨rfl, fun h => absurd h hw⟩
/-- What is told of a right image. -/
theorem machine_well (ng : Nat) (PP : List Pro) (ss : List Int) (steps : Int) : ((machineR ng PP ss steps).2 ≠ 0 → (machineR ng PP ss steps).1 = (0, [])) ∧ ((machineR ng PP ss steps).2 = 0 → wrongI ng PP ss = 0 ∧ 1 ≤ (machineR ng PP ss steps).1.1 ∧ (machineR ng PP ss steps).1.1 ≤ 7 ∧ (machineR ng PP ss steps).1.2.length ≤ 200) := by
  unfold machineR
  by_cases hw : wrongI ng PP ss = 0
  · rw [if_pos hw]
    by_cases hs : steps < 0 ∨ 1000000 < steps
    · rw [if_pos hs]
      exact ⟨fun _ => rfl, fun h => by simp at h⟩
    · rw [if_neg hs]
      have := run_how PP (ss.map Int.toNat) (mc0 ng steps.toNat) (by show 0 ≤ 200; omega)
      exact ⟨fun h => absurd rfl h, fun _ => ⟨hw, this.1, this.2.1, this.2.2⟩⟩
  · rw [if_neg hw]
    exact ⟨fun _ => rfl, fun h => absurd h hw⟩
/-- A box more. -/
theorem box1 (w : World) (A : Array Value) (s : TypeId) : Below w.heap.size w (w.alloc (.cells A s)) ∧ (w.alloc (.cells A s)).heap[w.heap.size]? = some (.cells A s (0, 0)) := ⟨(Below.refl _ _).alloc (Nat.le_refl _) _, World.alloc_heap_new w _⟩
set_option maxRecDepth 100000 in
set_option maxHeartbeats 3200000 in
theorem More_walk (T ng : Nat) (PP : List Pro) (ss : List Int) (ga pa ba : Option Addr) (gc pc bc : Nat) (steps mo : Int) (w : World) (hl : PL w.heap.size w pa PP) (hpc : PP.length ≤ pc) (hbs : NL w.heap.size w ba ss) (hbc : ss.length ≤ bc) (htab : TabS w) (tab : Tab T w) (hT : T ≤ w.heap.size) :
    Calls Tryz.prog 5 #[.agg #[.slice ga ng gc, .slice pa PP.length pc, .slice ba ss.length bc], .int .i64 steps, .int .i64 mo] w fun e w' => e = .returned (.bool true) ∧ Below w.heap.size w w' := by
  have hbs' : ∀ W, Below w.heap.size w W → NL W.heap.size W ba ss := fun W hb => by
    rcases hbs with h | ⟨b, o, h1, h2, h3⟩
    · exact Or.inl h
    · exact Or.inr ⟨b, o, h1, Nat.lt_of_lt_of_le h2 hb.size, fun i v hi => (hb.cell (p := ⟨b, o + i, none⟩) h2).trans (h3 i v hi)⟩
  have HAL : Hid (∀ W, Below w.heap.size w W → Calls Tryz.prog 12 #[] W fun e w' => e = .returned (.bool true) ∧ Below W.heap.size W w') := fun W hb => alive_any T W (htab.below hb) (tab.below (hb.mono hT)) (Nat.le_trans hT hb.size)
  have HR : Hid (∀ st W, Below w.heap.size w W → Calls Tryz.prog 7 #[.agg #[.slice ga ng gc, .slice pa PP.length pc, .slice ba ss.length bc], .int .i64 st] W (ToldM W (machineR ng PP ss st))) := fun st W hb => Run7_any T ng PP ss ga pa ba gc pc bc st W ((hl.below hb).mono hb.size) hpc (hbs' W hb) hbc (htab.below hb) (tab.below (hb.mono hT)) (Nat.le_trans hT hb.size)
  have HW : Hid (∀ W, Below w.heap.size w W → Calls Tryz.prog 9 #[.agg #[.slice ga ng gc, .slice pa PP.length pc, .slice ba ss.length bc]] W fun e w' => e = .returned (.int .i64 (wrongI ng PP ss)) ∧ Below W.heap.size W w') := fun W hb => Wrong9_any ng PP ss ga pa ba gc pc bc W ((hl.below hb).mono hb.size) hpc (hbs' W hb) hbc (htab.below hb)
  clear hl hpc hbs hbc htab tab hT hbs'
  generalize PP.length = k at *
  generalize ss.length = n at *
  obtain ⟨W0, hW0⟩ : ∃ W0, W0 = w.alloc (.cells #[.slice ga ng gc, .slice pa k pc, .slice ba n bc] 26) := ⟨_, rfl⟩
  obtain ⟨gb0, ga0⟩ := box1 w #[.slice ga ng gc, .slice pa k pc, .slice ba n bc] 26
  rw [← hW0] at gb0 ga0
  have HB0 := hidd gb0
  have HX : Hid (∀ W, Below W0.heap.size W0 W → W.cell? ⟨w.heap.size, 0, none⟩ = some (.slice ga ng gc) ∧ W.cell? ⟨w.heap.size, 1, none⟩ = some (.slice pa k pc) ∧ W.cell? ⟨w.heap.size, 2, none⟩ = some (.slice ba n bc)) := fun W hb => by
    have := (hb.block _ (Array.getElem?_eq_some_iff.1 ga0).1).trans ga0
    exact ⟨(cellO this).trans rfl, (cellO this).trans rfl, (cellO this).trans rfl⟩
  have hw0 := hW0.symm
  clear gb0 ga0 hW0
  by_cases a1 : mo < 0
  · have f1 : decide (mo < 0) = true := by simp; omega
    go_enter Tryz.func5, Tryz.ntmps5
    go_wp2_with fail
    refine (HAL.out W0 HB0.out).mono ?_
    rintro e w1 ⟨rfl, hb1⟩
    have HB1 : Hid (Below w.heap.size w w1) := HB0.out.trans (hb1.mono HB0.out.size)
    clear hb1
    go_wp2_with fail
    go_ret
    exact ⟨rfl, HB1.out⟩
  have f1 : decide (mo < 0) = false := by simp; omega
  by_cases a2 : 1000000 < mo
  · have f2 : decide (mo > 1000000) = true := by simp; omega
    have f2' : decide (1000000 < mo) = true := by simp; omega
    go_enter Tryz.func5, Tryz.ntmps5
    go_wp2_with fail
    refine (HAL.out W0 HB0.out).mono ?_
    rintro e w1 ⟨rfl, hb1⟩
    have HB1 : Hid (Below w.heap.size w w1) := HB0.out.trans (hb1.mono HB0.out.size)
    clear hb1
    go_wp2_with fail
    go_ret
    exact ⟨rfl, HB1.out⟩
  have f2 : decide (mo > 1000000) = false := by simp; omega
  have f2' : decide (1000000 < mo) = false := by simp; omega
  by_cases a3 : steps < 0
  · have f3 : decide (steps < 0) = true := by simp; omega
    go_enter Tryz.func5, Tryz.ntmps5
    go_wp2_with fail
    refine (HAL.out W0 HB0.out).mono ?_
    rintro e w1 ⟨rfl, hb1⟩
    have HB1 : Hid (Below w.heap.size w w1) := HB0.out.trans (hb1.mono HB0.out.size)
    clear hb1
    go_wp2_with fail
    go_ret
    exact ⟨rfl, HB1.out⟩
  have f3 : decide (steps < 0) = false := by simp; omega
  by_cases a4 : 1000000 - mo < steps
  · have f4 : decide (steps > 1000000 - mo) = true := by simp; omega
    have f4' : decide (1000000 - mo < steps) = true := by simp; omega
    go_enter Tryz.func5, Tryz.ntmps5
    go_wp2_with fail
    refine (HAL.out W0 HB0.out).mono ?_
    rintro e w1 ⟨rfl, hb1⟩
    have HB1 : Hid (Below w.heap.size w w1) := HB0.out.trans (hb1.mono HB0.out.size)
    clear hb1
    go_wp2_with fail
    go_ret
    exact ⟨rfl, HB1.out⟩
  have f4 : decide (steps > 1000000 - mo) = false := by simp; omega
  have f4' : decide (1000000 - mo < steps) = false := by simp; omega
  obtain ⟨hf, hok⟩ := machine_more ng PP ss steps mo (by omega) (by omega) (by omega)
  have HR1 := hidd (HR.out steps)
  have HR2 := hidd (HR.out (steps + mo))
  cases hR1 : machineR ng PP ss steps with
  | mk q1 z1 =>
  cases hR2 : machineR ng PP ss (steps + mo) with
  | mk q2 z2 =>
  rw [hR1] at HR1 hf hok
  rw [hR2] at HR2 hf hok
  simp only at hf hok
  subst hf
  obtain ⟨h1, o1⟩ := q1
  obtain ⟨h2, o2⟩ := q2
  simp only at hok
  have HOK := hidd hok
  unfold ToldM at HR1 HR2
  simp only at HR1 HR2
  have b1 : 0 ≤ steps ∧ steps ≤ 1000000 ∧ 0 ≤ mo ∧ mo ≤ 1000000 := by omega
  obtain ⟨b1, b2, b3, b4⟩ := b1
  clear hR1 hR2 hok HR a1 a2 a3 a4 HW
  go_enter Tryz.func5, Tryz.ntmps5
  go_wp2_with fail
  refine (HAL.out W0 HB0.out).mono ?_
  rintro e w1 ⟨rfl, hb1⟩
  obtain ⟨x0, x1, x2⟩ := HX.out w1 hb1
  have HB1 : Hid (Below w.heap.size w w1 ∧ Below W0.heap.size W0 w1) := ⟨HB0.out.trans (hb1.mono HB0.out.size), hb1⟩
  clear hb1
  go_wp2_with fail
  refine (HR1.out w1 HB1.out.1).mono ?_
  rintro e w2 ⟨hb2, a, n1, c, rfl, ht1, hl1⟩
  obtain ⟨W3, hW3⟩ : ∃ W3, W3 = w2.alloc (.cells #[.int .i64 h1, .slice a n1 c] 29) := ⟨_, rfl⟩
  obtain ⟨g1, g2⟩ := box1 w2 #[.int .i64 h1, .slice a n1 c] 29
  rw [← hW3] at g1 g2
  have hb12 : Below w1.heap.size w1 W3 := hb2.trans (g1.mono hb2.size)
  have HB3 : Hid (Below w.heap.size w W3) := HB1.out.1.trans (hb12.mono HB1.out.1.size)
  obtain ⟨u0, u1, u2⟩ := HX.out W3 (HB1.out.2.trans (hb12.mono HB1.out.2.size))
  have HG : Hid (W3.heap[w2.heap.size]? = some (.cells #[.int .i64 h1, .slice a n1 c] 29 (0, 0)) ∧ TM o1 a n1 c W3 ∧ o1.length ≤ maxLen) := ⟨g2, ht1.up g1, hl1⟩
  have hw3 := hW3.symm
  clear hb2 g1 g2 ht1 hl1 hW3 hb12 x0 x1 x2
  go_wp2_with fail
  refine (HR2.out W3 HB3.out).mono ?_
  rintro e w4 ⟨hb4, a2, n2, c2, rfl, ht2, hl2⟩
  obtain ⟨W5, hW5⟩ : ∃ W5, W5 = w4.alloc (.cells #[.int .i64 h2, .slice a2 n2 c2] 29) := ⟨_, rfl⟩
  obtain ⟨g1, g2⟩ := box1 w4 #[.int .i64 h2, .slice a2 n2 c2] 29
  rw [← hW5] at g1 g2
  have hb5 : Below W3.heap.size W3 W5 := hb4.trans (g1.mono hb4.size)
  obtain ⟨k1, k3, k4⟩ := HG.out
  have m1 := (hb5.block _ (Array.getElem?_eq_some_iff.1 k1).1).trans k1
  have e10 : W5.cell? ⟨w2.heap.size, 0, none⟩ = some (.int .i64 h1) := (cellO m1).trans rfl
  have e11 : W5.cell? ⟨w2.heap.size, 1, none⟩ = some (.slice a n1 c) := (cellO m1).trans rfl
  have e30 : W5.cell? ⟨w4.heap.size, 0, none⟩ = some (.int .i64 h2) := (cellO g2).trans rfl
  have e31 : W5.cell? ⟨w4.heap.size, 1, none⟩ = some (.slice a2 n2 c2) := (cellO g2).trans rfl
  have HB5 : Hid (Below w.heap.size w W5) := HB3.out.trans (hb5.mono HB3.out.size)
  have HT : Hid (TM o1 a n1 c W5 ∧ TM o2 a2 n2 c2 W5 ∧ o2.length ≤ maxLen) := ⟨k3.up hb5, ht2.up g1, hl2⟩
  have hw5 := hW5.symm
  clear hb4 g1 g2 ht2 hl2 hW5 hb5 k1 k3 k4 m1 HG HR1 HR2 HAL u0 u1 u2 HX
  by_cases hx : z2 = 0
  · obtain ⟨⟨r, hr⟩, hh⟩ := HOK.out hx
    subst hx
    by_cases h2' : h1 = 2
    · subst h2'
      subst hr
      obtain ⟨t1, t2, t3⟩ := HT.out
      have hSM : TM o1 a2 n1 c2 W5 := by rw [t1.1]; exact t2.take
      have hle : n1 ≤ n2 := by rw [t1.1, t2.1]; simp
      have hc2 : n2 ≤ c2 := t2.2.1
      have hn9 : n2 ≤ maxLen := by rw [t2.1]; exact t3
      unfold maxLen at hn9
      have HSM : Hid (Calls Tryz.prog 11 #[.agg #[.int .i64 2, .slice a n1 c], .agg #[.int .i64 2, .slice a2 n1 c2]] W5.drew fun e w' => e = .returned (.bool true) ∧ Below W5.drew.heap.size W5.drew w') := Same11_how 2 o1 a a2 n1 n1 c c2 W5.drew (by simp at t3; omega) (t1.up (Below.refl _ _).drew) (hSM.up (Below.refl _ _).drew)
      have hd : decide ((n1 : Int) ≤ (n2 : Int)) = true := by simp; omega
      clear HOK hh t1 t2 t3 HT hSM
      go_wp2_with fail
      refine wp_region_quiet_tail 18 (by kernel_rfl) (by kernel_rfl) ?_
      simp only [List.take_succ_cons, List.take_zero, List.drop_succ_cons, List.drop_zero]
      repeat (go_big_quiet_step (fail))
      refine wpQuiet_nil ?_
      go_wp2_with fail
      refine HSM.out.mono ?_
      rintro e w6 ⟨rfl, hb6⟩
      have HB6 : Hid (Below w.heap.size w w6) := (HB5.out.drew).trans (hb6.mono HB5.out.size)
      clear hb6 HSM
      go_wp2_with fail
      go_ret
      exact ⟨rfl, HB6.out⟩
    · have hp := hh h2'
      simp only [Prod.mk.injEq] at hp
      obtain ⟨rfl, rfl⟩ := hp
      have hd : (h2 == 2) = false := by simpa using h2'
      have hd2 : (h2 != 2) = true := by simpa using h2'
      obtain ⟨t1, t2, t3⟩ := HT.out
      have HSM : Hid (Calls Tryz.prog 11 #[.agg #[.int .i64 h2, .slice a n1 c], .agg #[.int .i64 h2, .slice a2 n2 c2]] W5 fun e w' => e = .returned (.bool true) ∧ Below W5.heap.size W5 w') := Same11_how h2 o2 a a2 n1 n2 c c2 W5 t3 t1 t2
      clear HOK hh t1 t2 t3 HT hr h2'
      go_wp2_with fail
      refine HSM.out.mono ?_
      rintro e w6 ⟨rfl, hb6⟩
      have HB6 : Hid (Below w.heap.size w w6) := HB5.out.trans (hb6.mono HB5.out.size)
      clear hb6 HSM
      go_wp2_with fail
      go_ret
      exact ⟨rfl, HB6.out⟩
  · have hd : (z2 == 0) = false := by simpa using hx
    have hd2 : (z2 != 0) = true := by simpa using hx
    clear HOK HT hx
    go_wp2_with fail
    go_ret
    exact ⟨rfl, HB5.out⟩
end
section
set_option linter.unusedVariables false
set_option linter.unusedSimpArgs false
open Go.RowKit
open Go.Proofs.YthikdpclifeonaaGreatDoor

set_option maxRecDepth 100000 in
set_option maxHeartbeats 3200000 in
theorem Well_walk (T ng : Nat) (PP : List Pro) (ss : List Int) (ga pa ba : Option Addr) (gc pc bc : Nat) (steps : Int) (w : World) (hl : PL w.heap.size w pa PP) (hpc : PP.length ≤ pc) (hbs : NL w.heap.size w ba ss) (hbc : ss.length ≤ bc) (htab : TabS w) (tab : Tab T w) (hT : T ≤ w.heap.size) :
    Calls Tryz.prog 6 #[.agg #[.slice ga ng gc, .slice pa PP.length pc, .slice ba ss.length bc], .int .i64 steps] w fun e w' => e = .returned (.bool true) ∧ Below w.heap.size w w' := by
  have hbs' : ∀ W, Below w.heap.size w W → NL W.heap.size W ba ss := fun W hb => by
    rcases hbs with h | ⟨b, o, h1, h2, h3⟩
    · exact Or.inl h
    · exact Or.inr ⟨b, o, h1, Nat.lt_of_lt_of_le h2 hb.size, fun i v hi => (hb.cell (p := ⟨b, o + i, none⟩) h2).trans (h3 i v hi)⟩
  have HAL : Hid (∀ W, Below w.heap.size w W → Calls Tryz.prog 12 #[] W fun e w' => e = .returned (.bool true) ∧ Below W.heap.size W w') := fun W hb => alive_any T W (htab.below hb) (tab.below (hb.mono hT)) (Nat.le_trans hT hb.size)
  have HR : Hid (∀ st W, Below w.heap.size w W → Calls Tryz.prog 7 #[.agg #[.slice ga ng gc, .slice pa PP.length pc, .slice ba ss.length bc], .int .i64 st] W (ToldM W (machineR ng PP ss st))) := fun st W hb => Run7_any T ng PP ss ga pa ba gc pc bc st W ((hl.below hb).mono hb.size) hpc (hbs' W hb) hbc (htab.below hb) (tab.below (hb.mono hT)) (Nat.le_trans hT hb.size)
  have HW : Hid (∀ W, Below w.heap.size w W → Calls Tryz.prog 9 #[.agg #[.slice ga ng gc, .slice pa PP.length pc, .slice ba ss.length bc]] W fun e w' => e = .returned (.int .i64 (wrongI ng PP ss)) ∧ Below W.heap.size W w') := fun W hb => Wrong9_any ng PP ss ga pa ba gc pc bc W ((hl.below hb).mono hb.size) hpc (hbs' W hb) hbc (htab.below hb)
  clear hl hpc hbs hbc htab tab hT hbs'
  generalize PP.length = k at *
  generalize ss.length = n at *
  obtain ⟨W0, hW0⟩ : ∃ W0, W0 = w.alloc (.cells #[.slice ga ng gc, .slice pa k pc, .slice ba n bc] 26) := ⟨_, rfl⟩
  obtain ⟨gb0, ga0⟩ := box1 w #[.slice ga ng gc, .slice pa k pc, .slice ba n bc] 26
  rw [← hW0] at gb0 ga0
  have HB0 := hidd gb0
  have HX : Hid (∀ W, Below W0.heap.size W0 W → W.cell? ⟨w.heap.size, 0, none⟩ = some (.slice ga ng gc) ∧ W.cell? ⟨w.heap.size, 1, none⟩ = some (.slice pa k pc) ∧ W.cell? ⟨w.heap.size, 2, none⟩ = some (.slice ba n bc)) := fun W hb => by
    have := (hb.block _ (Array.getElem?_eq_some_iff.1 ga0).1).trans ga0
    exact ⟨(cellO this).trans rfl, (cellO this).trans rfl, (cellO this).trans rfl⟩
  have hw0 := hW0.symm
  clear gb0 ga0 hW0
  obtain ⟨hf, hok⟩ := machine_well ng PP ss steps
  have HR1 := hidd (HR.out steps)
  cases hR1 : machineR ng PP ss steps with
  | mk q1 z =>
  rw [hR1] at HR1 hf hok
  simp only at hf hok
  obtain ⟨h1, o1⟩ := q1
  simp only at hf hok
  have HF := hidd hf
  have HOK := hidd hok
  unfold ToldM at HR1
  simp only at HR1
  clear hR1 hok hf HR
  go_enter Tryz.func6, Tryz.ntmps6
  go_wp2_with fail
  refine (HAL.out W0 HB0.out).mono ?_
  rintro e w1 ⟨rfl, hb1⟩
  obtain ⟨x0, x1, x2⟩ := HX.out w1 hb1
  have HB1 : Hid (Below w.heap.size w w1 ∧ Below W0.heap.size W0 w1) := ⟨HB0.out.trans (hb1.mono HB0.out.size), hb1⟩
  clear hb1
  go_wp2_with fail
  refine (HR1.out w1 HB1.out.1).mono ?_
  rintro e w2 ⟨hb2, a, n1, c, rfl, ht1, hl1⟩
  obtain ⟨W3, hW3⟩ : ∃ W3, W3 = w2.alloc (.cells #[.int .i64 h1, .slice a n1 c] 29) := ⟨_, rfl⟩
  obtain ⟨g1, g2⟩ := box1 w2 #[.int .i64 h1, .slice a n1 c] 29
  rw [← hW3] at g1 g2
  have hb12 : Below w1.heap.size w1 W3 := hb2.trans (g1.mono hb2.size)
  have HB3 : Hid (Below w.heap.size w W3) := HB1.out.1.trans (hb12.mono HB1.out.1.size)
  obtain ⟨u0, u1, u2⟩ := HX.out W3 (HB1.out.2.trans (hb12.mono HB1.out.2.size))
  have HG : Hid (W3.heap[w2.heap.size]? = some (.cells #[.int .i64 h1, .slice a n1 c] 29 (0, 0)) ∧ TM o1 a n1 c W3 ∧ o1.length ≤ maxLen) := ⟨g2, ht1.up g1, hl1⟩
  have e10 : W3.cell? ⟨w2.heap.size, 0, none⟩ = some (.int .i64 h1) := (cellO g2).trans rfl
  have e11 : W3.cell? ⟨w2.heap.size, 1, none⟩ = some (.slice a n1 c) := (cellO g2).trans rfl
  have hw3 := hW3.symm
  clear hb2 g1 g2 ht1 hl1 hW3 hb12 x0 x1 x2
  by_cases hx : z = 0
  · obtain ⟨i1, i2, i3, i4⟩ := HOK.out hx
    subst hx
    rw [i1] at HW
    have HW3 := hidd (HW.out W3 HB3.out)
    have hn1 : n1 ≤ 200 := by rw [HG.out.2.1.1]; exact i4
    have d1 : decide (h1 ≥ 1) = true := by simp; omega
    have d1' : decide (1 ≤ h1) = true := by simp; omega
    have d2 : decide (h1 ≤ 7) = true := by simp; omega
    have d3 : decide ((n1 : Int) ≤ 200) = true := by simp; omega
    clear HF HOK i1 i4 HX HAL HW
    go_wp2_with (first | (refine HW3.out.mono ?_; rintro e w6 ⟨rfl, hb6⟩; have q10 := (hb6.cell (p := ⟨w2.heap.size, 0, none⟩) (cell_ltX e10)).trans e10; have q11 := (hb6.cell (p := ⟨w2.heap.size, 1, none⟩) (cell_ltX e11)).trans e11; have HB6 : Hid (Below w.heap.size w w6) := HB3.out.trans (hb6.mono HB3.out.size); clear hb6 HW3))
    go_ret
    exact ⟨rfl, HB6.out⟩
  · have hp := HF.out hx
    simp only [Prod.mk.injEq] at hp
    obtain ⟨rfl, rfl⟩ := hp
    have hd : (z == 0) = false := by simpa using hx
    have hd2 : (z != 0) = true := by simpa using hx
    have HSM : Hid (Calls Tryz.prog 11 #[.agg #[.int .i64 0, .slice a n1 c], .agg #[.int .i64 0, .slice none 0 0]] W3 fun e w' => e = .returned (.bool true) ∧ Below W3.heap.size W3 w') := Same11_how 0 [] a none n1 0 c 0 W3 (Nat.zero_le _) HG.out.2.1 (TM.nil _ _ _)
    clear HF HOK hx HX HAL HW HG
    go_wp2_with fail
    refine HSM.out.mono ?_
    rintro e w6 ⟨rfl, hb6⟩
    have HB6 : Hid (Below w.heap.size w w6) := HB3.out.trans (hb6.mono HB3.out.size)
    clear hb6 HSM
    go_wp2_with fail
    go_ret
    exact ⟨rfl, HB6.out⟩
end
end Go.Proofs.YthikdpclifeonaaGreatDoor.V
