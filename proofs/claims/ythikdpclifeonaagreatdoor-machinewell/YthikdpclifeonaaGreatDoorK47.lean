/- Chapter 11: WHAT machine.Run TELLS. Chapter 11: the laws' own functions: results compared. Chapter 11: Run where nothing is wrong. -/
import Derived.Test.YthikdpclifeonaaGreatDoorK22
import Derived.Test.YthikdpclifeonaaGreatDoorK46
namespace Go.Proofs.YthikdpclifeonaaGreatDoor.V
section
set_option linter.unusedVariables false
set_option linter.unusedSimpArgs false
open Go.RowKit
open Go.Proofs.YthikdpclifeonaaGreatDoor

/-- Texts in memory. -/
def TM (txs : List (List UInt8)) (a : Option Addr) (n c : Nat) (W : World) : Prop := n = txs.length ∧ n ≤ c ∧ (txs = [] ∨ ∃ G, a = some ⟨G, 0, none⟩ ∧ (∃ cs, W.heap[G]? = some (.cells cs 9 (0, 0))) ∧ ∀ j s, txs[j]? = some s → W.cell? ⟨G, j, none⟩ = some (strV s))
theorem TM.nil (c : Nat) (a : Option Addr) (W : World) : TM [] a 0 c W := ⟨rfl, Nat.zero_le _, Or.inl rfl⟩
/-- What is told of what Run tells. -/
def ToldM (w : World) (r : (Int × List (List UInt8)) × Int) (e : Ending) (w' : World) : Prop := Below w.heap.size w w' ∧ ∃ a n c, e = .returned (.tuple #[.agg #[.int .i64 r.1.1, .slice a n c], .int .i64 r.2]) ∧ TM r.1.2 a n c w' ∧ r.1.2.length ≤ maxLen
set_option maxRecDepth 100000 in
set_option maxHeartbeats 3200000 in
theorem Run7_wrong (ga pa ba : Option Addr) (ng gc k pc n bc : Nat) (steps : Int) (x : Int) (hx : ¬ x = 0) (w : World)
    (HW : ∀ W, Below w.heap.size w W → Calls Tryz.prog 9 #[.agg #[.slice ga ng gc, .slice pa k pc, .slice ba n bc]] W fun e w' => e = .returned (.int .i64 x) ∧ Below W.heap.size W w') :
    Calls Tryz.prog 7 #[.agg #[.slice ga ng gc, .slice pa k pc, .slice ba n bc], .int .i64 steps] w (ToldM w ((0, []), x)) := by
  have HWH := hidd HW
  clear HW
  have hd : (x != 0) = true := by simpa using hx
  obtain ⟨W0, hW0⟩ : ∃ W0, W0 = (w.alloc (.cells #[.slice ga ng gc, .slice pa k pc, .slice ba n bc] 26)).alloc (.cells #[.int .i64 0, .slice none 0 0] 29) := ⟨_, rfl⟩
  have hbW0 : Below w.heap.size w W0 := by rw [hW0]; exact ((Below.refl _ _).alloc (Nat.le_refl _) _).alloc (by simp) _
  have a1 : W0.heap[w.heap.size + 1]? = some (.cells #[.int .i64 0, .slice none 0 0] 29 (0, 0)) := by
    rw [hW0]
    have := World.alloc_heap_new (w.alloc (.cells #[.slice ga ng gc, .slice pa k pc, .slice ba n bc] 26)) (.cells #[.int .i64 0, .slice none 0 0] 29)
    simpa using this
  have HC := hidd (HWH.out W0 hbW0)
  have q0 : W0.cell? ⟨w.heap.size, 0, none⟩ = some (.slice ga ng gc) := by rw [hW0]; simp [go_sem]
  have q1 : W0.cell? ⟨w.heap.size, 1, none⟩ = some (.slice pa k pc) := by rw [hW0]; simp [go_sem]
  have q2 : W0.cell? ⟨w.heap.size, 2, none⟩ = some (.slice ba n bc) := by rw [hW0]; simp [go_sem]
  have hw0 := hW0.symm
  have HB0 := hidd hbW0
  have HA1 := hidd a1
  clear hW0 hbW0 a1 HWH
  go_enter Tryz.func7, Tryz.ntmps7
  go_wp2_with fail
  refine HC.out.mono ?_
  rintro e w1 ⟨rfl, hb1⟩
  have hA := (hb1.block _ (Array.getElem?_eq_some_iff.1 HA1.out).1).trans HA1.out
  have c0 : w1.cell? ⟨w.heap.size + 1, 0, none⟩ = some (.int .i64 0) := (cellO hA).trans rfl
  have c1 : w1.cell? ⟨w.heap.size + 1, 1, none⟩ = some (.slice none 0 0) := (cellO hA).trans rfl
  have f0 : w1.frozen? ⟨w.heap.size + 1, 0, none⟩ = false := looseO hA
  have f1 : w1.frozen? ⟨w.heap.size + 1, 1, none⟩ = false := looseO hA
  have BF : Hid (Below w.heap.size w w1) := HB0.out.trans (hb1.mono HB0.out.size)
  clear hb1 hA HC hx
  go_wp2_with fail
  refine bodyPost_ret (v := .tuple #[.agg #[.int .i64 0, .slice none 0 0], .int .i64 x]) (by simp [results, Tryz.results7, go_sem, c0, c1]) rfl ⟨?_, none, 0, 0, rfl, TM.nil _ _ _, Nat.zero_le _⟩
  exact (BF.out.setCell (p := ⟨w.heap.size + 1, 0, none⟩) (Nat.le_succ _) _).setCell (p := ⟨w.heap.size + 1, 1, none⟩) (Nat.le_succ _) _
set_option maxRecDepth 100000 in
set_option maxHeartbeats 3200000 in
theorem Run7_range (ga pa ba : Option Addr) (ng gc k pc n bc : Nat) (steps : Int) (hx : steps < 0 ∨ 1000000 < steps) (w : World)
    (HW : ∀ W, Below w.heap.size w W → Calls Tryz.prog 9 #[.agg #[.slice ga ng gc, .slice pa k pc, .slice ba n bc]] W fun e w' => e = .returned (.int .i64 0) ∧ Below W.heap.size W w') :
    Calls Tryz.prog 7 #[.agg #[.slice ga ng gc, .slice pa k pc, .slice ba n bc], .int .i64 steps] w (ToldM w ((0, []), 3)) := by
  have HWH := hidd HW
  clear HW
  obtain ⟨W0, hW0⟩ : ∃ W0, W0 = (w.alloc (.cells #[.slice ga ng gc, .slice pa k pc, .slice ba n bc] 26)).alloc (.cells #[.int .i64 0, .slice none 0 0] 29) := ⟨_, rfl⟩
  have hbW0 : Below w.heap.size w W0 := by rw [hW0]; exact ((Below.refl _ _).alloc (Nat.le_refl _) _).alloc (by simp) _
  have a1 : W0.heap[w.heap.size + 1]? = some (.cells #[.int .i64 0, .slice none 0 0] 29 (0, 0)) := by
    rw [hW0]
    have := World.alloc_heap_new (w.alloc (.cells #[.slice ga ng gc, .slice pa k pc, .slice ba n bc] 26)) (.cells #[.int .i64 0, .slice none 0 0] 29)
    simpa using this
  have HC := hidd (HWH.out W0 hbW0)
  have q0 : W0.cell? ⟨w.heap.size, 0, none⟩ = some (.slice ga ng gc) := by rw [hW0]; simp [go_sem]
  have q1 : W0.cell? ⟨w.heap.size, 1, none⟩ = some (.slice pa k pc) := by rw [hW0]; simp [go_sem]
  have q2 : W0.cell? ⟨w.heap.size, 2, none⟩ = some (.slice ba n bc) := by rw [hW0]; simp [go_sem]
  have hw0 := hW0.symm
  have HB0 := hidd hbW0
  have HA1 := hidd a1
  have HX := hidd hx
  clear hW0 hbW0 a1 HWH hx
  go_enter Tryz.func7, Tryz.ntmps7
  go_wp2_with fail
  refine HC.out.mono ?_
  rintro e w1 ⟨rfl, hb1⟩
  have hA := (hb1.block _ (Array.getElem?_eq_some_iff.1 HA1.out).1).trans HA1.out
  have c0 : w1.cell? ⟨w.heap.size + 1, 0, none⟩ = some (.int .i64 0) := (cellO hA).trans rfl
  have c1 : w1.cell? ⟨w.heap.size + 1, 1, none⟩ = some (.slice none 0 0) := (cellO hA).trans rfl
  have f0 : w1.frozen? ⟨w.heap.size + 1, 0, none⟩ = false := looseO hA
  have f1 : w1.frozen? ⟨w.heap.size + 1, 1, none⟩ = false := looseO hA
  have BF : Hid (Below w.heap.size w w1) := HB0.out.trans (hb1.mono HB0.out.size)
  clear hb1 hA HC
  by_cases h1 : steps < 0
  · have d1 : decide (steps < 0) = true := by simpa using h1
    go_wp2_with fail
    refine bodyPost_ret (v := .tuple #[.agg #[.int .i64 0, .slice none 0 0], .int .i64 3]) (by simp [results, Tryz.results7, go_sem, c0, c1]) rfl ⟨?_, none, 0, 0, rfl, TM.nil _ _ _, Nat.zero_le _⟩
    exact (BF.out.setCell (p := ⟨w.heap.size + 1, 0, none⟩) (Nat.le_succ _) _).setCell (p := ⟨w.heap.size + 1, 1, none⟩) (Nat.le_succ _) _
  · have d1 : decide (steps < 0) = false := by simpa using h1
    have h2 : 1000000 < steps := by rcases HX.out with h | h <;> omega
    have d2 : decide (steps > 1000000) = true := by simpa using h2
    have d3 : decide (1000000 < steps) = true := by simpa using h2
    go_wp2_with fail
    refine bodyPost_ret (v := .tuple #[.agg #[.int .i64 0, .slice none 0 0], .int .i64 3]) (by simp [results, Tryz.results7, go_sem, c0, c1]) rfl ⟨?_, none, 0, 0, rfl, TM.nil _ _ _, Nat.zero_le _⟩
    exact (BF.out.setCell (p := ⟨w.heap.size + 1, 0, none⟩) (Nat.le_succ _) _).setCell (p := ⟨w.heap.size + 1, 1, none⟩) (Nat.le_succ _) _
end
section
set_option linter.unusedVariables false
set_option linter.unusedSimpArgs false
open Go.RowKit
open Go.Proofs.YthikdpclifeonaaGreatDoor

theorem cell_ltX {w : World} {G q : Nat} {v : Value} (h : w.cell? ⟨G, q, none⟩ = some v) : G < w.heap.size := by
  by_cases hl : G < w.heap.size
  · exact hl
  · simp [World.cell?, Array.getElem?_eq_none (Nat.le_of_not_lt hl)] at h
theorem TM.up {txs : List (List UInt8)} {a : Option Addr} {n c : Nat} {W W' : World} (h : TM txs a n c W) (hb : Below W.heap.size W W') : TM txs a n c W' := by
  obtain ⟨h1, h0, h2⟩ := h
  refine ⟨h1, h0, ?_⟩
  rcases h2 with h2 | ⟨G, h3, ⟨cs, h5⟩, h4⟩
  · exact Or.inl h2
  · exact Or.inr ⟨G, h3, ⟨cs, (hb.block G (Array.getElem?_eq_some_iff.1 h5).1).trans h5⟩, fun j s hj => (hb.cell (p := ⟨G, j, none⟩) (cell_ltX (h4 j s hj))).trans (h4 j s hj)⟩
theorem TM.take {o r : List (List UInt8)} {a : Option Addr} {n c : Nat} {W : World} (h : TM (o ++ r) a n c W) : TM o a o.length c W := by
  obtain ⟨rfl, h0, h2⟩ := h
  refine ⟨rfl, by simp at h0; omega, ?_⟩
  rcases h2 with h2 | ⟨G, h3, h5, h4⟩
  · exact Or.inl (by simp at h2; exact h2.1)
  · exact Or.inr ⟨G, h3, h5, fun j s hj => h4 j s (by rw [List.getElem?_append_left (List.getElem?_eq_some_iff.1 hj).1]; exact hj)⟩
set_option maxRecDepth 100000 in
set_option maxHeartbeats 3200000 in
theorem Same11_how (how : Int) (txs : List (List UInt8)) (a a2 : Option Addr) (n n2 c c2 : Nat) (w : World) (hn : txs.length ≤ maxLen) (h1 : TM txs a n c w) (h2 : TM txs a2 n2 c2 w) :
    Calls Tryz.prog 11 #[.agg #[.int .i64 how, .slice a n c], .agg #[.int .i64 how, .slice a2 n2 c2]] w fun e w' => e = .returned (.bool true) ∧ Below w.heap.size w w' := by
  unfold maxLen at hn
  obtain ⟨rfl, hc1, h1⟩ := h1
  obtain ⟨rfl, hc2, h2⟩ := h2
  obtain ⟨W0, hW0⟩ : ∃ W0, W0 = (w.alloc (.cells #[.int .i64 how, .slice a txs.length c] 29)).alloc (.cells #[.int .i64 how, .slice a2 txs.length c2] 29) := ⟨_, rfl⟩
  have hb0 : Below w.heap.size w W0 := by rw [hW0]; exact ((Below.refl _ _).alloc (Nat.le_refl _) _).alloc (by simp) _
  have a0 : W0.heap[w.heap.size]? = some (.cells #[.int .i64 how, .slice a txs.length c] 29 (0, 0)) := by rw [hW0, Below.heap_alloc _ _ _ (alloc_lt _ _)]; exact World.alloc_heap_new w _
  have a1 : W0.heap[w.heap.size + 1]? = some (.cells #[.int .i64 how, .slice a2 txs.length c2] 29 (0, 0)) := by
    rw [hW0]
    have := World.alloc_heap_new (w.alloc (.cells #[.int .i64 how, .slice a txs.length c] 29)) (.cells #[.int .i64 how, .slice a2 txs.length c2] 29)
    simpa using this
  have x0 : W0.cell? ⟨w.heap.size, 0, none⟩ = some (.int .i64 how) := (cellO a0).trans rfl
  have x1 : W0.cell? ⟨w.heap.size, 1, none⟩ = some (.slice a txs.length c) := (cellO a0).trans rfl
  have y0 : W0.cell? ⟨w.heap.size + 1, 0, none⟩ = some (.int .i64 how) := (cellO a1).trans rfl
  have y1 : W0.cell? ⟨w.heap.size + 1, 1, none⟩ = some (.slice a2 txs.length c2) := (cellO a1).trans rfl
  have HX : Hid (∀ W, Below W0.heap.size W0 W → W.cell? ⟨w.heap.size, 1, none⟩ = some (.slice a txs.length c) ∧ W.cell? ⟨w.heap.size + 1, 1, none⟩ = some (.slice a2 txs.length c2)) := fun W hb => ⟨(hb.cell (p := ⟨w.heap.size, 1, none⟩) (cell_ltX x1)).trans x1, (hb.cell (p := ⟨w.heap.size + 1, 1, none⟩) (cell_ltX y1)).trans y1⟩
  have HT : Hid (∀ W j s, Below W0.heap.size W0 W → txs[j]? = some s → ∃ G H, a = some ⟨G, 0, none⟩ ∧ a2 = some ⟨H, 0, none⟩ ∧ W.cell? ⟨G, j, none⟩ = some (.string ⟨s.toArray⟩) ∧ W.cell? ⟨H, j, none⟩ = some (.string ⟨s.toArray⟩)) := by
    intro W j s hb hj
    have hne : txs ≠ [] := by rintro rfl; simp at hj
    have hbb : Below w.heap.size w W := hb0.trans (hb.mono hb0.size)
    rcases h1 with h1 | ⟨G, rfl, _, g1⟩
    · exact absurd h1 hne
    rcases h2 with h2 | ⟨H, rfl, _, g2⟩
    · exact absurd h2 hne
    exact ⟨G, H, rfl, rfl, (hbb.cell (p := ⟨G, j, none⟩) (cell_ltX (g1 j s hj))).trans (g1 j s hj), (hbb.cell (p := ⟨H, j, none⟩) (cell_ltX (g2 j s hj))).trans (g2 j s hj)⟩
  have HB0 := hidd hb0
  have HC : Hid (txs.length ≤ c ∧ txs.length ≤ c2) := ⟨hc1, hc2⟩
  have HL : Hid (∀ j, j < txs.length → ∃ s, txs[j]? = some s) := fun j hj => ⟨_, List.getElem?_eq_getElem hj⟩
  have hw0 := hW0.symm
  clear h1 h2 hb0 a0 a1 hW0 hc1 hc2
  generalize txs.length = N at *
  go_enter Tryz.func11, Tryz.ntmps11
  go_wp2_with fail
  go_loopw [5, 23] (fun _ ix wr => ∃ j : Nat, j ≤ N ∧ ix = .int .i64 j ∧ Hid (Below W0.heap.size W0 wr)) (fun _ ix _ => N - (intOf ix).toNat)
  case atStart => exact ⟨0, Nat.zero_le _, rfl, Below.refl _ _⟩
  case round =>
    obtain ⟨j, hj, rfl, HB⟩ := hrel
    obtain ⟨u1, v1⟩ := HX.out wr HB.out
    by_cases hlt : j < N
    · obtain ⟨s, hs⟩ := HL.out j hlt
      obtain ⟨G, H, rfl, rfl, e1, e2⟩ := HT.out wr j s HB.out hs
      clear hs
      go_wp2_with fail
      go_region
      all_goals
        go_wp2_with fail
        go_roundw
        case rel => exact ⟨j + 1, hlt, by go_num, HB.out.drew⟩
        case measure => simp [intOf]; omega
    · obtain rfl : j = N := by omega
      go_wp2_with fail
      go_ret
      exact ⟨rfl, HB0.out.trans (HB.out.mono HB0.out.size)⟩
end
section
set_option linter.unusedVariables false
set_option linter.unusedSimpArgs false
open Go.RowKit
open Go.Proofs.YthikdpclifeonaaGreatDoor

theorem TM.set {txs : List (List UInt8)} {a : Option Addr} {n c N q : Nat} {cs : Array Value} {v : Value} {W : World} (hc : W.heap[N]? = some (.cells cs 29 (0, 0))) (h : TM txs a n c W) : TM txs a n c (W.setCell ⟨N, q, none⟩ v) := by
  obtain ⟨h1, h0, h2⟩ := h
  refine ⟨h1, h0, ?_⟩
  rcases h2 with h2 | ⟨G, h3, ⟨ds, h5⟩, h4⟩
  · exact Or.inl h2
  · have hne : G ≠ N := by
      rintro rfl
      rw [h5] at hc
      simp at hc
    exact Or.inr ⟨G, h3, ⟨ds, (Below.heap_setCell _ _ _ _ (by simpa using hne)).trans h5⟩, fun j s hj => (World.cell?_of_block (Below.heap_setCell _ _ _ _ (by simpa using hne))).trans (h4 j s hj)⟩
theorem setAt {W : World} {N : Nat} {v x y : Value} (h : W.heap[N]? = some (.cells #[x, y] 29 (0, 0))) : (W.setCell ⟨N, 0, none⟩ v).heap[N]? = some (.cells #[v, y] 29 (0, 0)) := cell_setV h v
set_option maxRecDepth 100000 in
set_option maxHeartbeats 3200000 in
theorem Run7_go (ga pa ba : Option Addr) (ng gc k pc n bc : Nat) (how st : Int) (hs0 : 0 ≤ st) (hs9 : st ≤ 1000000) (hng : ng ≤ 500) (txs : List (List UInt8)) (w : World)
    (HW : ∀ W, Below w.heap.size w W → Calls Tryz.prog 9 #[.agg #[.slice ga ng gc, .slice pa k pc, .slice ba n bc]] W fun e w' => e = .returned (.int .i64 0) ∧ Below W.heap.size W w')
    (HR : ∀ B rb G W, Below w.heap.size w W → w.heap.size + 2 ≤ B → B ≤ rb → B ≤ G → rb ≠ G → rb < W.heap.size → W.heap[G]? = some (.cells (List.replicate ng Value.nilIface).toArray 155 (0, 0)) → W.heap[rb]? = some (.cells #[.slice none 0 0, .slice none 0 0, .slice none 0 0, .int .i64 0, .pointer none, .slice none 0 0, .slice pa k pc, .slice (some ⟨G, 0, none⟩) ng ng, .int .i64 st] 65 (0, 0)) → Calls Tryz.prog 17 #[.pointer (some ⟨rb, 0, none⟩), .slice ba n bc] W fun e w' => e = .returned (.int .i64 how) ∧ Below B W w' ∧ ∃ a n c, w'.cell? ⟨rb, 0, none⟩ = some (.slice a n c) ∧ TM txs a n c w' ∧ txs.length ≤ maxLen) :
    Calls Tryz.prog 7 #[.agg #[.slice ga ng gc, .slice pa k pc, .slice ba n bc], .int .i64 st] w (ToldM w ((how, txs), 0)) := by
  have HWH := hidd HW
  have HRH := hidd HR
  clear HW HR
  have hg1 : decide (st < 0) = false := by simp; omega
  have hg2 : decide (st > 1000000) = false := by simp; omega
  have hg3 : decide (1000000 < st) = false := by simp; omega
  have n0 : (0 : Int) ≤ (ng : Int) := by omega
  have n9 : (ng : Int) ≤ 500 := by omega
  have hmk := make_vals ng (by omega)
  clear hs0 hs9 hng
  obtain ⟨W0, hW0⟩ : ∃ W0, W0 = (w.alloc (.cells #[.slice ga ng gc, .slice pa k pc, .slice ba n bc] 26)).alloc (.cells #[.int .i64 0, .slice none 0 0] 29) := ⟨_, rfl⟩
  have hbW0 : Below w.heap.size w W0 := by rw [hW0]; exact ((Below.refl _ _).alloc (Nat.le_refl _) _).alloc (by simp) _
  have hs0 : W0.heap.size = w.heap.size + 2 := by rw [hW0]; simp
  have a0 : W0.heap[w.heap.size]? = some (.cells #[.slice ga ng gc, .slice pa k pc, .slice ba n bc] 26 (0, 0)) := by rw [hW0, Below.heap_alloc _ _ _ (alloc_lt _ _)]; exact World.alloc_heap_new w _
  have a1 : W0.heap[w.heap.size + 1]? = some (.cells #[.int .i64 0, .slice none 0 0] 29 (0, 0)) := by
    rw [hW0]
    have := World.alloc_heap_new (w.alloc (.cells #[.slice ga ng gc, .slice pa k pc, .slice ba n bc] 26)) (.cells #[.int .i64 0, .slice none 0 0] 29)
    simpa using this
  have HC := hidd (HWH.out W0 hbW0)
  have q0 : W0.cell? ⟨w.heap.size, 0, none⟩ = some (.slice ga ng gc) := (cellO a0).trans rfl
  have q1 : W0.cell? ⟨w.heap.size, 1, none⟩ = some (.slice pa k pc) := (cellO a0).trans rfl
  have q2 : W0.cell? ⟨w.heap.size, 2, none⟩ = some (.slice ba n bc) := (cellO a0).trans rfl
  have hw0 := hW0.symm
  have HB0 : Hid (Below w.heap.size w W0 ∧ W0.heap.size = w.heap.size + 2) := ⟨hbW0, hs0⟩
  have HA0 := hidd a0
  have HA1 := hidd a1
  clear hW0 hbW0 a1 a0 HWH hs0
  go_enter Tryz.func7, Tryz.ntmps7
  go_wp2_with fail
  refine HC.out.mono ?_
  rintro e w1 ⟨rfl, hb1⟩
  have hA0 := (hb1.block _ (Array.getElem?_eq_some_iff.1 HA0.out).1).trans HA0.out
  have hA := (hb1.block _ (Array.getElem?_eq_some_iff.1 HA1.out).1).trans HA1.out
  have r0 : w1.cell? ⟨w.heap.size, 0, none⟩ = some (.slice ga ng gc) := (cellO hA0).trans rfl
  have r1 : w1.cell? ⟨w.heap.size, 1, none⟩ = some (.slice pa k pc) := (cellO hA0).trans rfl
  have r2 : w1.cell? ⟨w.heap.size, 2, none⟩ = some (.slice ba n bc) := (cellO hA0).trans rfl
  have HA0' := hidd hA0
  have HA1' := hidd hA
  have BF : Hid (Below w.heap.size w w1 ∧ w.heap.size + 2 ≤ w1.heap.size) := ⟨HB0.out.1.trans (hb1.mono HB0.out.1.size), by have := hb1.size; have := HB0.out.2; omega⟩
  have hlw : w.heap.size < w1.heap.size := by have := BF.out.2; omega
  clear hb1 hA HC hA0 q0 q1 q2 hw0
  go_wp2_with fail
  go_region
  · rename_i K hK
    have F : Hid (Below w1.heap.size w1 (((w1.alloc (.cells (Array.replicate ng Value.nilIface) 155)).alloc (.cells #[.slice none 0 0, .slice none 0 0, .slice none 0 0, .int .i64 0, .pointer none, .slice none 0 0, .slice pa k pc, .slice (some ⟨w1.heap.size, 0, none⟩) ng ng, .int .i64 st] 65)).drew) ∧ (((w1.alloc (.cells (Array.replicate ng Value.nilIface) 155)).alloc (.cells #[.slice none 0 0, .slice none 0 0, .slice none 0 0, .int .i64 0, .pointer none, .slice none 0 0, .slice pa k pc, .slice (some ⟨w1.heap.size, 0, none⟩) ng ng, .int .i64 st] 65)).drew).heap[w1.heap.size]? = some (.cells (List.replicate ng Value.nilIface).toArray 155 (0, 0)) ∧ (((w1.alloc (.cells (Array.replicate ng Value.nilIface) 155)).alloc (.cells #[.slice none 0 0, .slice none 0 0, .slice none 0 0, .int .i64 0, .pointer none, .slice none 0 0, .slice pa k pc, .slice (some ⟨w1.heap.size, 0, none⟩) ng ng, .int .i64 st] 65)).drew).heap[w1.heap.size + 1]? = some (.cells #[.slice none 0 0, .slice none 0 0, .slice none 0 0, .int .i64 0, .pointer none, .slice none 0 0, .slice pa k pc, .slice (some ⟨w1.heap.size, 0, none⟩) ng ng, .int .i64 st] 65 (0, 0)) ∧ w1.heap.size + 1 < (((w1.alloc (.cells (Array.replicate ng Value.nilIface) 155)).alloc (.cells #[.slice none 0 0, .slice none 0 0, .slice none 0 0, .int .i64 0, .pointer none, .slice none 0 0, .slice pa k pc, .slice (some ⟨w1.heap.size, 0, none⟩) ng ng, .int .i64 st] 65)).drew).heap.size) := by
      refine ⟨(((Below.refl _ _).alloc (Nat.le_refl _) _).alloc (by simp) _).drew, ?_, ?_, by show _ < (World.alloc _ _).heap.size; simp <;> omega⟩
      · show ((w1.alloc (.cells (Array.replicate ng Value.nilIface) 155)).alloc (.cells #[.slice none 0 0, .slice none 0 0, .slice none 0 0, .int .i64 0, .pointer none, .slice none 0 0, .slice pa k pc, .slice (some ⟨w1.heap.size, 0, none⟩) ng ng, .int .i64 st] 65)).heap[w1.heap.size]? = _
        rw [Below.heap_alloc _ _ _ (alloc_lt _ _), World.alloc_heap_new w1 _]
        simp
      · show ((w1.alloc (.cells (Array.replicate ng Value.nilIface) 155)).alloc (.cells #[.slice none 0 0, .slice none 0 0, .slice none 0 0, .int .i64 0, .pointer none, .slice none 0 0, .slice pa k pc, .slice (some ⟨w1.heap.size, 0, none⟩) ng ng, .int .i64 st] 65)).heap[w1.heap.size + 1]? = _
        have := World.alloc_heap_new (w1.alloc (.cells (Array.replicate ng Value.nilIface) 155)) (.cells #[.slice none 0 0, .slice none 0 0, .slice none 0 0, .int .i64 0, .pointer none, .slice none 0 0, .slice pa k pc, .slice (some ⟨w1.heap.size, 0, none⟩) ng ng, .int .i64 st] 65)
        simpa using this
    generalize (((w1.alloc (.cells (Array.replicate ng Value.nilIface) 155)).alloc (.cells #[.slice none 0 0, .slice none 0 0, .slice none 0 0, .int .i64 0, .pointer none, .slice none 0 0, .slice pa k pc, .slice (some ⟨w1.heap.size, 0, none⟩) ng ng, .int .i64 st] 65)).drew) = W2 at F ⊢
    have r2' : W2.cell? ⟨w.heap.size, 2, none⟩ = some (.slice ba n bc) := (F.out.1.cell (p := ⟨w.heap.size, 2, none⟩) hlw).trans r2
    have HA1'' : Hid (W2.heap[w.heap.size + 1]? = some (.cells #[.int .i64 0, .slice none 0 0] 29 (0, 0))) := (F.out.1.block _ (by have := BF.out.2; omega)).trans HA1'.out
    have HRR := hidd (HRH.out w1.heap.size (w1.heap.size + 1) (w1.heap.size) W2 (BF.out.1.trans (F.out.1.mono BF.out.1.size)) BF.out.2 (by omega) (by omega) (by omega) F.out.2.2.2 F.out.2.1 F.out.2.2.1)
    have BF2 : Hid (Below w.heap.size w W2 ∧ w.heap.size + 2 ≤ w1.heap.size ∧ w.heap.size + 2 ≤ W2.heap.size) := ⟨BF.out.1.trans (F.out.1.mono BF.out.1.size), BF.out.2, Nat.le_trans BF.out.2 F.out.1.size⟩
    clear F HRH r0 r1 r2 HA0 HA1 HA0' HA1' BF
    show K _ _
    apply hK
    clear hK
    go_wp2_with fail
    refine HRR.out.mono ?_
    rintro e w3 ⟨rfl, hb3, a, n', c, r0, hp3, hlen⟩
    have hA := (hb3.block _ (by have := BF2.out.2.1; omega)).trans HA1''.out
    have c0 : w3.cell? ⟨w.heap.size + 1, 0, none⟩ = some (.int .i64 0) := (cellO hA).trans rfl
    have c1 : w3.cell? ⟨w.heap.size + 1, 1, none⟩ = some (.slice none 0 0) := (cellO hA).trans rfl
    have f0 : w3.frozen? ⟨w.heap.size + 1, 0, none⟩ = false := looseO hA
    have f1 : w3.frozen? ⟨w.heap.size + 1, 1, none⟩ = false := looseO hA
    have BF3 : Hid (Below w.heap.size w w3) := BF2.out.1.trans (hb3.mono (by have := BF2.out.2.1; omega))
    have PF : Hid (TM txs a n' c w3 ∧ txs.length ≤ maxLen ∧ w3.heap[w.heap.size + 1]? = some (.cells #[.int .i64 0, .slice none 0 0] 29 (0, 0))) := ⟨hp3, hlen, hA⟩
    clear hA hp3 hlen hb3 HRR HA1'' BF2
    go_wp2_with fail
    have PX : Hid (TM txs a n' c ((w3.setCell ⟨w.heap.size + 1, 0, none⟩ (.int .i64 how)).setCell ⟨w.heap.size + 1, 1, none⟩ (.slice a n' c))) := TM.set (setAt PF.out.2.2) (TM.set PF.out.2.2 PF.out.1)
    refine bodyPost_ret (v := .tuple #[.agg #[.int .i64 how, .slice a n' c], .int .i64 0]) (by simp [results, Tryz.results7, go_sem, c0, c1]) rfl ⟨?_, a, n', c, rfl, PX.out, PF.out.2.1⟩
    exact (BF3.out.setCell (p := ⟨w.heap.size + 1, 0, none⟩) (Nat.le_succ _) _).setCell (p := ⟨w.heap.size + 1, 1, none⟩) (Nat.le_succ _) _
  · rename_i K hK
    have F : Hid (Below w1.heap.size w1 (((w1.alloc (.cells #[.slice none 0 0, .slice none 0 0, .slice none 0 0, .int .i64 0, .pointer none, .slice none 0 0, .slice pa k pc, .slice (some ⟨w1.heap.size + 1, 0, none⟩) ng ng, .int .i64 st] 65)).alloc (.cells (Array.replicate ng Value.nilIface) 155)).drew) ∧ (((w1.alloc (.cells #[.slice none 0 0, .slice none 0 0, .slice none 0 0, .int .i64 0, .pointer none, .slice none 0 0, .slice pa k pc, .slice (some ⟨w1.heap.size + 1, 0, none⟩) ng ng, .int .i64 st] 65)).alloc (.cells (Array.replicate ng Value.nilIface) 155)).drew).heap[w1.heap.size + 1]? = some (.cells (List.replicate ng Value.nilIface).toArray 155 (0, 0)) ∧ (((w1.alloc (.cells #[.slice none 0 0, .slice none 0 0, .slice none 0 0, .int .i64 0, .pointer none, .slice none 0 0, .slice pa k pc, .slice (some ⟨w1.heap.size + 1, 0, none⟩) ng ng, .int .i64 st] 65)).alloc (.cells (Array.replicate ng Value.nilIface) 155)).drew).heap[w1.heap.size]? = some (.cells #[.slice none 0 0, .slice none 0 0, .slice none 0 0, .int .i64 0, .pointer none, .slice none 0 0, .slice pa k pc, .slice (some ⟨w1.heap.size + 1, 0, none⟩) ng ng, .int .i64 st] 65 (0, 0)) ∧ w1.heap.size < (((w1.alloc (.cells #[.slice none 0 0, .slice none 0 0, .slice none 0 0, .int .i64 0, .pointer none, .slice none 0 0, .slice pa k pc, .slice (some ⟨w1.heap.size + 1, 0, none⟩) ng ng, .int .i64 st] 65)).alloc (.cells (Array.replicate ng Value.nilIface) 155)).drew).heap.size) := by
      refine ⟨(((Below.refl _ _).alloc (Nat.le_refl _) _).alloc (by simp) _).drew, ?_, ?_, by show _ < (World.alloc _ _).heap.size; simp <;> omega⟩
      · show ((w1.alloc (.cells #[.slice none 0 0, .slice none 0 0, .slice none 0 0, .int .i64 0, .pointer none, .slice none 0 0, .slice pa k pc, .slice (some ⟨w1.heap.size + 1, 0, none⟩) ng ng, .int .i64 st] 65)).alloc (.cells (Array.replicate ng Value.nilIface) 155)).heap[w1.heap.size + 1]? = _
        have := World.alloc_heap_new (w1.alloc (.cells #[.slice none 0 0, .slice none 0 0, .slice none 0 0, .int .i64 0, .pointer none, .slice none 0 0, .slice pa k pc, .slice (some ⟨w1.heap.size + 1, 0, none⟩) ng ng, .int .i64 st] 65)) (.cells (Array.replicate ng Value.nilIface) 155)
        simpa using this
      · show ((w1.alloc (.cells #[.slice none 0 0, .slice none 0 0, .slice none 0 0, .int .i64 0, .pointer none, .slice none 0 0, .slice pa k pc, .slice (some ⟨w1.heap.size + 1, 0, none⟩) ng ng, .int .i64 st] 65)).alloc (.cells (Array.replicate ng Value.nilIface) 155)).heap[w1.heap.size]? = _
        rw [Below.heap_alloc _ _ _ (alloc_lt _ _), World.alloc_heap_new w1 _]
    generalize (((w1.alloc (.cells #[.slice none 0 0, .slice none 0 0, .slice none 0 0, .int .i64 0, .pointer none, .slice none 0 0, .slice pa k pc, .slice (some ⟨w1.heap.size + 1, 0, none⟩) ng ng, .int .i64 st] 65)).alloc (.cells (Array.replicate ng Value.nilIface) 155)).drew) = W2 at F ⊢
    have r2' : W2.cell? ⟨w.heap.size, 2, none⟩ = some (.slice ba n bc) := (F.out.1.cell (p := ⟨w.heap.size, 2, none⟩) hlw).trans r2
    have HA1'' : Hid (W2.heap[w.heap.size + 1]? = some (.cells #[.int .i64 0, .slice none 0 0] 29 (0, 0))) := (F.out.1.block _ (by have := BF.out.2; omega)).trans HA1'.out
    have HRR := hidd (HRH.out w1.heap.size (w1.heap.size) (w1.heap.size + 1) W2 (BF.out.1.trans (F.out.1.mono BF.out.1.size)) BF.out.2 (by omega) (by omega) (by omega) F.out.2.2.2 F.out.2.1 F.out.2.2.1)
    have BF2 : Hid (Below w.heap.size w W2 ∧ w.heap.size + 2 ≤ w1.heap.size ∧ w.heap.size + 2 ≤ W2.heap.size) := ⟨BF.out.1.trans (F.out.1.mono BF.out.1.size), BF.out.2, Nat.le_trans BF.out.2 F.out.1.size⟩
    clear F HRH r0 r1 r2 HA0 HA1 HA0' HA1' BF
    show K _ _
    apply hK
    clear hK
    go_wp2_with fail
    refine HRR.out.mono ?_
    rintro e w3 ⟨rfl, hb3, a, n', c, r0, hp3, hlen⟩
    have hA := (hb3.block _ (by have := BF2.out.2.1; omega)).trans HA1''.out
    have c0 : w3.cell? ⟨w.heap.size + 1, 0, none⟩ = some (.int .i64 0) := (cellO hA).trans rfl
    have c1 : w3.cell? ⟨w.heap.size + 1, 1, none⟩ = some (.slice none 0 0) := (cellO hA).trans rfl
    have f0 : w3.frozen? ⟨w.heap.size + 1, 0, none⟩ = false := looseO hA
    have f1 : w3.frozen? ⟨w.heap.size + 1, 1, none⟩ = false := looseO hA
    have BF3 : Hid (Below w.heap.size w w3) := BF2.out.1.trans (hb3.mono (by have := BF2.out.2.1; omega))
    have PF : Hid (TM txs a n' c w3 ∧ txs.length ≤ maxLen ∧ w3.heap[w.heap.size + 1]? = some (.cells #[.int .i64 0, .slice none 0 0] 29 (0, 0))) := ⟨hp3, hlen, hA⟩
    clear hA hp3 hlen hb3 HRR HA1'' BF2
    go_wp2_with fail
    have PX : Hid (TM txs a n' c ((w3.setCell ⟨w.heap.size + 1, 0, none⟩ (.int .i64 how)).setCell ⟨w.heap.size + 1, 1, none⟩ (.slice a n' c))) := TM.set (setAt PF.out.2.2) (TM.set PF.out.2.2 PF.out.1)
    refine bodyPost_ret (v := .tuple #[.agg #[.int .i64 how, .slice a n' c], .int .i64 0]) (by simp [results, Tryz.results7, go_sem, c0, c1]) rfl ⟨?_, a, n', c, rfl, PX.out, PF.out.2.1⟩
    exact (BF3.out.setCell (p := ⟨w.heap.size + 1, 0, none⟩) (Nat.le_succ _) _).setCell (p := ⟨w.heap.size + 1, 1, none⟩) (Nat.le_succ _) _
end
end Go.Proofs.YthikdpclifeonaaGreatDoor.V
