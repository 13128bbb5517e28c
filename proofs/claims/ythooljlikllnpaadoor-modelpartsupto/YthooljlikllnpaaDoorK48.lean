/- Chapter 7: WHAT Run TELLS of any parts, for any steps. Chapter 7: MORE STEPS, NO LESS: the law's own functions. Chapter 7: MORE STEPS, NO LESS: the walk. -/
import Derived.Test.YthooljlikllnpaaDoorK19
import Derived.Test.YthooljlikllnpaaDoorK47
namespace Go.Proofs.YthooljlikllnpaaDoor
section
set_option linter.unusedVariables false
set_option linter.unusedSimpArgs false
open Go.RowKit

/-- Boxes of results and faults stay. -/
def K2 (W w' : World) : Prop := ∀ (k : Nat) (cs : Array Value) (t : TypeId), W.heap[k]? = some (.cells cs t (0, 0)) → t = 25 ∨ t = 28 → w'.heap[k]? = some (.cells cs t (0, 0))
set_option maxRecDepth 100000 in
set_option maxHeartbeats 3200000 in
theorem Run_go (sa : Option Addr) (n cap : Nat) (how st : Int) (hs0 : 0 ≤ st) (hs9 : st ≤ 1000000) (txs : List (List UInt8)) (w : World)
    (HW : ∀ W, Below w.heap.size w W → Calls Tryd.prog 10 #[.slice sa n cap] W fun e w' => e = .returned (fv (0, 0)) ∧ Below W.heap.size W w')
    (HR : ∀ rb gb W, Below w.heap.size w W → w.heap.size ≤ rb → w.heap.size ≤ gb → W.heap[gb]? = some (.map #[] 0) → RN rb (.slice none 0 0) st 0 (.map (some gb)) W → Calls Tryd.prog 21 #[.pointer (some ⟨rb, 0, none⟩), .slice sa n cap] W fun e w' => e = .returned (.int .i64 how) ∧ Below w.heap.size W w' ∧ K2 W w' ∧ ∃ a n c, w'.cell? ⟨rb, 0, none⟩ = some (.slice a n c) ∧ TM txs a n c w' ∧ txs.length ≤ maxLen) :
    Calls Tryd.prog 8 #[.slice sa n cap, .int .i64 st] w (ToldM w ((how, txs), (0, 0))) := by
  have HWH := hidd HW
  have HRH := hidd HR
  clear HW HR
  have hg1 : decide (st < 0) = false := by simp; omega
  have hg2 : decide (st > 1000000) = false := by simp; omega
  have hg3 : decide (1000000 < st) = false := by simp; omega
  clear hs0 hs9
  have hmm := @run_makeMap Tryd.prog
  unfold fv at *
  go_enter Tryd.func8, Tryd.ntmps8
  go_wp2_with fail
  refine (HWH.out _ (((Below.refl _ _).alloc (Nat.le_refl _) _).alloc (by simp) _)).mono ?_
  rintro e w1 ⟨rfl, hb1⟩
  obtain ⟨W0, hW0⟩ : ∃ W0, W0 = (w.alloc (.cells #[.int .i64 0, .slice none 0 0] 25)).alloc (.cells #[.int .i64 0, .int .i64 0] 28) := ⟨_, rfl⟩
  have hbW0 : Below w.heap.size w W0 := by rw [hW0]; exact ((Below.refl _ _).alloc (Nat.le_refl _) _).alloc (by simp) _
  have hs0 : W0.heap.size = w.heap.size + 2 := by rw [hW0]; simp
  have a0 : W0.heap[w.heap.size]? = some (.cells #[.int .i64 0, .slice none 0 0] 25 (0, 0)) := by rw [hW0, Below.heap_alloc _ _ _ (alloc_lt _ _)]; exact World.alloc_heap_new w _
  have a1 : W0.heap[w.heap.size + 1]? = some (.cells #[.int .i64 0, .int .i64 0] 28 (0, 0)) := by
    rw [hW0]
    have := World.alloc_heap_new (w.alloc (.cells #[.int .i64 0, .slice none 0 0] 25)) (.cells #[.int .i64 0, .int .i64 0] 28)
    simpa using this
  rw [← hW0] at hb1
  clear hW0
  have hs1 := hb1.size
  have BW : Hid (Below W0.heap.size W0 (((w1.alloc (.cells #[.int .i64 0, .int .i64 0] 28)).alloc (.map #[] 0)).alloc (.cells #[.slice none 0 0, .int .i64 st, .int .i64 0, .map (some (w1.heap.size + 1))] 59))) := ((hb1.alloc hb1.size _).alloc (by have := hb1.size; simp; omega) _).alloc (by have := hb1.size; simp; omega) _
  have RW : Hid (RN (w1.heap.size + 1 + 1) (.slice none 0 0) st 0 (.map (some (w1.heap.size + 1))) (((w1.alloc (.cells #[.int .i64 0, .int .i64 0] 28)).alloc (.map #[] 0)).alloc (.cells #[.slice none 0 0, .int .i64 st, .int .i64 0, .map (some (w1.heap.size + 1))] 59))) := by
    have := World.alloc_heap_new ((w1.alloc (.cells #[.int .i64 0, .int .i64 0] 28)).alloc (.map #[] 0)) (.cells #[.slice none 0 0, .int .i64 st, .int .i64 0, .map (some (w1.heap.size + 1))] 59)
    simpa [RN, Hid] using this
  have GW : Hid ((((w1.alloc (.cells #[.int .i64 0, .int .i64 0] 28)).alloc (.map #[] 0)).alloc (.cells #[.slice none 0 0, .int .i64 st, .int .i64 0, .map (some (w1.heap.size + 1))] 59)).heap[w1.heap.size + 1]? = some (.map #[] 0)) := by
    show _ = _
    rw [Below.heap_alloc _ _ _ (by simp)]
    have := World.alloc_heap_new (w1.alloc (.cells #[.int .i64 0, .int .i64 0] 28)) (.map #[] 0)
    simpa using this
  have HRR := hidd (HRH.out (w1.heap.size + 1 + 1) (w1.heap.size + 1) _ (hbW0.trans (BW.out.mono (by omega))) (by omega) (by omega) GW.out RW.out)
  clear HRH RW GW hb1 HWH
  go_wp2_with fail
  refine HRR.out.mono ?_
  rintro e w3 ⟨rfl, hb3, hk3, a, n', c, r0, hp3, hlen⟩
  have HLEN := hidd hlen
  clear hlen
  have hA : w3.heap[w.heap.size]? = some (.cells #[.int .i64 0, .slice none 0 0] 25 (0, 0)) := hk3 _ _ _ ((BW.out.block _ (by omega)).trans a0) (Or.inl rfl)
  have hA1 : w3.heap[w.heap.size + 1]? = some (.cells #[.int .i64 0, .int .i64 0] 28 (0, 0)) := hk3 _ _ _ ((BW.out.block _ (by omega)).trans a1) (Or.inr rfl)
  have BF : Hid (Below w.heap.size w w3) := (hbW0.trans (BW.out.mono (by omega))).trans hb3
  have c0 : w3.cell? ⟨w.heap.size, 0, none⟩ = some (.int .i64 0) := (cellO hA).trans rfl
  have c1 : w3.cell? ⟨w.heap.size, 1, none⟩ = some (.slice none 0 0) := (cellO hA).trans rfl
  have d0 : w3.cell? ⟨w.heap.size + 1, 0, none⟩ = some (.int .i64 0) := (cellO hA1).trans rfl
  have d1 : w3.cell? ⟨w.heap.size + 1, 1, none⟩ = some (.int .i64 0) := (cellO hA1).trans rfl
  have f0 : w3.frozen? ⟨w.heap.size, 0, none⟩ = false := looseO hA
  have f1 : w3.frozen? ⟨w.heap.size, 1, none⟩ = false := looseO hA
  have g0 : w3.frozen? ⟨w.heap.size + 1, 0, none⟩ = false := looseO hA1
  have g1 : w3.frozen? ⟨w.heap.size + 1, 1, none⟩ = false := looseO hA1
  have PF := hidd hp3
  clear hk3 hA hA1 hp3 a0 a1 BW HRR hbW0 hb3
  go_wp2_with fail
  have PX : Hid (TM txs a n' c ((((w3.setCell ⟨w.heap.size, 0, none⟩ (.int .i64 how)).setCell ⟨w.heap.size, 1, none⟩ (.slice a n' c)).setCell ⟨w.heap.size + 1, 0, none⟩ (.int .i64 0)).setCell ⟨w.heap.size + 1, 1, none⟩ (.int .i64 0))) :=
    TM.set (y := 0) (by simp [go_sem, c0, d0, d1]) (TM.set (y := 0) (by simp [go_sem, c0, d0, d1]) (TM.set (y := how) (by simp [go_sem, c0, d0, d1]) (TM.set (y := 0) c0 PF.out)))
  refine bodyPost_ret (v := .tuple #[.agg #[.int .i64 how, .slice a n' c], .agg #[.int .i64 0, .int .i64 0]]) (by simp [results, Tryd.results8, go_sem, c0, c1, d0, d1]) rfl ⟨?_, a, n', c, rfl, PX.out, HLEN.out⟩
  exact (((BF.out.setCell (p := ⟨w.heap.size, 0, none⟩) (Nat.le_refl _) _).setCell (p := ⟨w.heap.size, 1, none⟩) (Nat.le_refl _) _).setCell (p := ⟨w.heap.size + 1, 0, none⟩) (Nat.le_succ _) _).setCell (p := ⟨w.heap.size + 1, 1, none⟩) (Nat.le_succ _) _
theorem own_max {w : World} {base size n : Nat} {e : TypeId} {v : Value} {xs : List Value} (h : w.ownsRow base e size v n xs) : n ≤ maxLen := by
  rcases h.2 with ⟨_, rfl⟩ | ⟨g, cap, cur, _, _, _, hnc, hcm, _⟩
  · exact Nat.zero_le _
  · omega
theorem wz_ok : ∀ (ps : List (ByteArray × List Cor)) (i : Nat), (wrongZ ps i).1 = 0 → wrongZ ps i = (0, 0) ∧ ∀ p ∈ ps, wrongB p.2 = 0
  | [], i, _ => ⟨rfl, fun p hp => by simp at hp⟩
  | q :: r, i, h => by
    rw [wrongZ] at h ⊢
    by_cases e : wrongB q.2 = 0
    · rw [if_pos e] at h ⊢
      obtain ⟨h1, h2⟩ := wz_ok r (i + 1) h
      refine ⟨h1, fun p hp => ?_⟩
      rcases List.mem_cons.1 hp with rfl | hp
      · exact e
      · exact h2 p hp
    · rw [if_neg e] at h
      exact absurd h e
theorem ckB_all : ∀ (l : List Cor), ckB l = 0 → ∀ c ∈ l, Gd 0 c
  | [], _, c, hc => by simp at hc
  | d :: r, h, c, hc => by
    rw [ckB] at h
    by_cases e : (ckC 300 0 d 0).1 = 0
    · rw [if_pos e] at h
      rcases List.mem_cons.1 hc with rfl | hc
      · exact gd_of 300 0 c 0 (by omega) (by omega) (by omega) e
      · exact ckB_all r h c hc
    · rw [if_neg e] at h
      exact absurd h e
theorem wrongP_ok {ps : List (ByteArray × List Cor)} (h : (wrongP ps).1 = 0) : wrongP ps = (0, 0) ∧ ps.length ≤ 40 ∧ (∀ p ∈ ps, p.2.length ≤ 200) ∧ ∀ p ∈ ps, ∀ c ∈ p.2, Gd 0 c := by
  unfold wrongP at h ⊢
  by_cases z : 40 < ps.length
  · rw [if_pos z] at h; simp at h
  · rw [if_neg z] at h ⊢
    obtain ⟨h1, h2⟩ := wz_ok ps 0 h
    have hb : ∀ p ∈ ps, p.2.length ≤ 200 ∧ ckB p.2 = 0 := fun p hp => by
      have := h2 p hp
      unfold wrongB at this
      by_cases q : 200 < p.2.length
      · rw [if_pos q] at this; simp at this
      · rw [if_neg q] at this
        exact ⟨by omega, this⟩
    exact ⟨h1, by omega, fun p hp => (hb p hp).1, fun p hp => ckB_all p.2 (hb p hp).2⟩
/-- The store at the start of a run. -/
theorem Rel.start {rb gb st : Nat} {w W : World} (hb : Below w.heap.size w W) (hr : w.heap.size ≤ rb) (hg : w.heap.size ≤ gb) (hgm : W.heap[gb]? = some (.map #[] 0)) (hR : RN rb (.slice none 0 0) (st : Int) 0 (.map (some gb)) W) : Rel w.heap.size rb gb ⟨[], [], []⟩ (st0 st) W :=
  ⟨⟨.slice none 0 0, hR, World.ownsRow_nil _ _ _ _⟩, hr, hg, rfl, rfl, rfl, List.nodup_nil, List.nodup_nil, List.nodup_nil, fun k hk => by simp at hk, fun k hk => by simp at hk, fun k hk => by simp at hk, fun i k p h1 h2 => by simp at h2, fun i k q h1 h2 => by simp at h2, fun r k vs h1 h2 => by simp at h2, ⟨#[], 0, hgm, rfl, List.nodup_nil, fun i k v hi => by simp [st0] at hi⟩⟩
set_option maxRecDepth 100000 in
set_option maxHeartbeats 3200000 in
/-- A run of no parts. -/
theorem run_none (B rb gb : Nat) (sa : Option Addr) (scap : Nat) (m : Mm) (σ : St) (w : World) (h : Rel B rb gb m σ w) (sc : Sc σ) (hs : B ≤ w.heap.size) :
    Calls Tryd.prog 21 #[.pointer (some ⟨rb, 0, none⟩), .slice sa 0 scap] w (ToldG B rb gb m σ w (runF (bodies []) σ)) := by
  have hmf : ∀ (fn : Fn) (first cap : Array Value) (w : World), (Instr.makeFunc fn first cap).run Tryd.prog w = .ok (.func fn first cap) w := fun _ _ _ _ => rfl
  have hba : Below w.heap.size w (w.alloc (.cells #[.int .i64 0] 3)) := (Below.refl _ _).alloc (Nat.le_refl _) _
  have hbx := box_new w #[.int .i64 0] 3
  have g0 : (w.alloc (.cells #[.int .i64 0] 3)).cell? ⟨w.heap.size, 0, none⟩ = some (.int .i64 0) := (cellO hbx).trans rfl
  have y0 : (w.alloc (.cells #[.int .i64 0] 3)).frozen? ⟨w.heap.size, 0, none⟩ = false := looseO hbx
  have HT : Hid (ToldG B rb gb m σ w (runF (bodies []) σ) (.returned (.int .i64 1)) (w.alloc (.cells #[.int .i64 1] 3))) := ⟨m, rfl, (Cur.refl h sc).below ((Below.refl _ _).alloc (Nat.le_refl _) _) hs⟩
  clear h sc hbx hba
  generalize runF (bodies []) σ = R at *
  go_enter_defers Tryd.func21, Tryd.ntmps21
  go_wp2_with fail
  refine wp_loop_rounds 1 ?_
  rw [rounds_succ]
  go_wp2_with fail
  refine leaves_cons (f := 26) (args := #[.pointer (some ⟨w.heap.size, 0, none⟩)]) (by simp) (by simp [go_sem]) ?_
  refine (catch_idle _ _).mono ?_
  rintro e u' w4 ⟨rfl, rfl, rfl⟩
  have ht := HT.out
  simp [Leaves, settle, results, Tryd.results21, go_sem, g0, ht]
/-- WHAT Run TELLS of any parts. -/
theorem RunPs_any (B T : Nat) (ps : List (ByteArray × List Cor)) (sa : Option Addr) (scap : Nat) (steps : Int) (w : World) (hp : PsV B w sa ps) (hB : B ≤ w.heap.size) (tab : Tab T w) (hT : T ≤ w.heap.size) :
    Calls Tryd.prog 8 #[.slice sa ps.length scap, .int .i64 steps] w (ToldM w (modelR ps steps)) := by
  have HW : ∀ W, Below w.heap.size w W → Calls Tryd.prog 10 #[.slice sa ps.length scap] W fun e w' => e = .returned (fv (wrongP ps)) ∧ Below W.heap.size W w' := fun W hb => WrongPs_any B ps sa scap W (hp.below (hb.mono hB)) (Nat.le_trans hB hb.size)
  unfold modelR
  by_cases hw : (wrongP ps).1 = 0
  · rw [if_pos hw]
    obtain ⟨e0, h40, h200, hgd⟩ := wrongP_ok hw
    rw [e0] at HW
    by_cases hs : steps < 0 ∨ 1000000 < steps
    · rw [if_pos hs]
      exact Run_range sa ps.length scap steps hs w HW
    · rw [if_neg hs]
      have est : steps = ((steps.toNat : Nat) : Int) := by omega
      refine Run_go sa ps.length scap _ steps (by omega) (by omega) _ w HW ?_
      intro rb gb W hb hrb hgb hgm hR
      rw [est] at hR
      have hrel := Rel.start hb hrb hgb hgm hR
      have hsz := hb.size
      have hsc : Sc (st0 steps.toNat) := fun q hq => by simp [st0] at hq
      have hpW := (hp.up hB).below hb
      have hTW : Tab T W := tab.below (hb.mono hT)
      have fin : ∀ e w', ToldG w.heap.size rb gb ⟨[], [], []⟩ (st0 steps.toNat) W (runF (bodies ps) (st0 steps.toNat)) e w' → e = .returned (.int .i64 (runF (bodies ps) (st0 steps.toNat)).1) ∧ Below w.heap.size W w' ∧ K2 W w' ∧ ∃ a n c, w'.cell? ⟨rb, 0, none⟩ = some (.slice a n c) ∧ TM (runF (bodies ps) (st0 steps.toNat)).2.out a n c w' ∧ (runF (bodies ps) (st0 steps.toNat)).2.out.length ≤ maxLen := by
        rintro e w' ⟨m', h1, C⟩
        obtain ⟨tv, hRN, hO⟩ := C.rel.run
        have hlen := own_max hO
        obtain ⟨a, c, rfl, htm⟩ := TM.of hO
        exact ⟨h1, C.belowB hrel hsz, fun k cs t hk ht => C.kr.at hrel hk (by rcases ht with rfl | rfl <;> decide) (by rcases ht with rfl | rfl <;> decide) (by rcases ht with rfl | rfl <;> decide) (by rcases ht with rfl | rfl <;> decide), a, _, c, (cellO hRN).trans rfl, htm, hlen⟩
      rcases hpW.2 with h0 | ⟨pb, po, h1, h2, h3⟩
      · subst h0
        exact (run_none w.heap.size rb gb sa scap ⟨[], [], []⟩ (st0 steps.toNat) W hrel hsc hsz).mono fin
      · subst h1
        exact (run_any w.heap.size rb gb T pb po scap hT ps ⟨[], [], []⟩ (st0 steps.toNat) W hrel hsc hsz hTW h2 h3 hgd h40 h200 (by show steps.toNat ≤ 1000000; omega) (by show 0 ≤ 200; omega)).mono fin
  · rw [if_neg hw]
    exact Run_wrong sa ps.length scap steps (wrongP ps).1 (wrongP ps).2 hw w HW
end
section
set_option linter.unusedVariables false
set_option linter.unusedSimpArgs false
open Go.RowKit

set_option maxRecDepth 100000 in
set_option maxHeartbeats 3200000 in
theorem Same_how (how : Int) (txs : List (List UInt8)) (a a2 : Option Addr) (n n2 c c2 : Nat) (w : World) (hn : txs.length ≤ maxLen) (h1 : TM txs a n c w) (h2 : TM txs a2 n2 c2 w) :
    Calls Tryd.prog 12 #[.agg #[.int .i64 how, .slice a n c], .agg #[.int .i64 how, .slice a2 n2 c2]] w fun e w' => e = .returned (.bool true) ∧ Below w.heap.size w w' := by
  unfold maxLen at hn
  obtain ⟨rfl, hc1, h1⟩ := h1
  obtain ⟨rfl, hc2, h2⟩ := h2
  obtain ⟨W0, hW0⟩ : ∃ W0, W0 = (w.alloc (.cells #[.int .i64 how, .slice a txs.length c] 25)).alloc (.cells #[.int .i64 how, .slice a2 txs.length c2] 25) := ⟨_, rfl⟩
  have hb0 : Below w.heap.size w W0 := by rw [hW0]; exact ((Below.refl _ _).alloc (Nat.le_refl _) _).alloc (by simp) _
  have a0 : W0.heap[w.heap.size]? = some (.cells #[.int .i64 how, .slice a txs.length c] 25 (0, 0)) := by rw [hW0, Below.heap_alloc _ _ _ (alloc_lt _ _)]; exact World.alloc_heap_new w _
  have a1 : W0.heap[w.heap.size + 1]? = some (.cells #[.int .i64 how, .slice a2 txs.length c2] 25 (0, 0)) := by
    rw [hW0]
    have := World.alloc_heap_new (w.alloc (.cells #[.int .i64 how, .slice a txs.length c] 25)) (.cells #[.int .i64 how, .slice a2 txs.length c2] 25)
    simpa using this
  have x0 : W0.cell? ⟨w.heap.size, 0, none⟩ = some (.int .i64 how) := (cellO a0).trans rfl
  have x1 : W0.cell? ⟨w.heap.size, 1, none⟩ = some (.slice a txs.length c) := (cellO a0).trans rfl
  have y0 : W0.cell? ⟨w.heap.size + 1, 0, none⟩ = some (.int .i64 how) := (cellO a1).trans rfl
  have y1 : W0.cell? ⟨w.heap.size + 1, 1, none⟩ = some (.slice a2 txs.length c2) := (cellO a1).trans rfl
  have HX : Hid (∀ W, Below W0.heap.size W0 W → W.cell? ⟨w.heap.size, 1, none⟩ = some (.slice a txs.length c) ∧ W.cell? ⟨w.heap.size + 1, 1, none⟩ = some (.slice a2 txs.length c2)) := fun W hb => ⟨(hb.cell (p := ⟨w.heap.size, 1, none⟩) (cell_lt x1)).trans x1, (hb.cell (p := ⟨w.heap.size + 1, 1, none⟩) (cell_lt y1)).trans y1⟩
  have HT : Hid (∀ W j s, Below W0.heap.size W0 W → txs[j]? = some s → ∃ G H, a = some ⟨G, 0, none⟩ ∧ a2 = some ⟨H, 0, none⟩ ∧ W.cell? ⟨G, j, none⟩ = some (.string ⟨s.toArray⟩) ∧ W.cell? ⟨H, j, none⟩ = some (.string ⟨s.toArray⟩)) := by
    intro W j s hb hj
    have hne : txs ≠ [] := by rintro rfl; simp at hj
    have hbb : Below w.heap.size w W := hb0.trans (hb.mono hb0.size)
    rcases h1 with h1 | ⟨G, rfl, g1⟩
    · exact absurd h1 hne
    rcases h2 with h2 | ⟨H, rfl, g2⟩
    · exact absurd h2 hne
    exact ⟨G, H, rfl, rfl, (hbb.cell (p := ⟨G, j, none⟩) (cell_lt (g1 j s hj))).trans (g1 j s hj), (hbb.cell (p := ⟨H, j, none⟩) (cell_lt (g2 j s hj))).trans (g2 j s hj)⟩
  have HB0 := hidd hb0
  have HC : Hid (txs.length ≤ c ∧ txs.length ≤ c2) := ⟨hc1, hc2⟩
  have HL : Hid (∀ j, j < txs.length → ∃ s, txs[j]? = some s) := fun j hj => ⟨_, List.getElem?_eq_getElem hj⟩
  have hw0 := hW0.symm
  clear h1 h2 hb0 a0 a1 hW0 hc1 hc2
  generalize txs.length = N at *
  go_enter Tryd.func12, Tryd.ntmps12
  go_wp2_with fail
  go_loopw [5, 23] (fun _ ix wr => ∃ j : Nat, j ≤ N ∧ ix = .int .i64 j ∧ Hid (Below W0.heap.size W0 wr)) (fun _ ix _ => N - (intOf ix).toNat)
  case atStart => exact ⟨0, Nat.zero_le _, rfl, Below.refl _ _⟩
  case round =>
    obtain ⟨j, hj, rfl, HB⟩ := hrel
    obtain ⟨u1, v1⟩ := HX.out wr HB.out
    by_cases hlt : j < N
    · obtain ⟨s, hs⟩ := HL.out j hlt
      obtain ⟨G, H, rfl, rfl, e1, e2⟩ := HT.out wr j s HB.out hs
      clear hs
      go_wp2_with fail
      go_region
      all_goals
        go_wp2_with fail
        go_roundw
        case rel => exact ⟨j + 1, hlt, by go_num, HB.out.drew⟩
        case measure => simp [intOf]; omega
    · obtain rfl : j = N := by omega
      go_wp2_with fail
      go_ret
      exact ⟨rfl, HB0.out.trans (HB.out.mono HB0.out.size)⟩
set_option maxRecDepth 100000 in
set_option maxHeartbeats 3200000 in
/-- What begins with it. -/
theorem begins_any (txs r : List (List UInt8)) (a a2 : Option Addr) (n n2 c c2 : Nat) (w : World) (hn : (txs ++ r).length ≤ maxLen) (h1 : TM txs a n c w) (h2 : TM (txs ++ r) a2 n2 c2 w) :
    Calls Tryd.prog 14 #[.slice a n c, .slice a2 n2 c2] w fun e w' => e = .returned (.bool true) ∧ Below w.heap.size w w' := by
  unfold maxLen at hn
  obtain ⟨rfl, hc1, h1⟩ := h1
  obtain ⟨rfl, hc2, h2⟩ := h2
  have HT : Hid (∀ W j s, Below w.heap.size w W → txs[j]? = some s → ∃ G H, a = some ⟨G, 0, none⟩ ∧ a2 = some ⟨H, 0, none⟩ ∧ W.cell? ⟨G, j, none⟩ = some (.string ⟨s.toArray⟩) ∧ W.cell? ⟨H, j, none⟩ = some (.string ⟨s.toArray⟩)) := by
    intro W j s hb hj
    have hne : txs ≠ [] := by rintro rfl; simp at hj
    have hj2 : (txs ++ r)[j]? = some s := by rw [List.getElem?_append_left (List.getElem?_eq_some_iff.1 hj).1]; exact hj
    rcases h1 with h1 | ⟨G, rfl, g1⟩
    · exact absurd h1 hne
    rcases h2 with h2 | ⟨H, rfl, g2⟩
    · exact absurd h2 (by simp [hne])
    exact ⟨G, H, rfl, rfl, (hb.cell (p := ⟨G, j, none⟩) (cell_lt (g1 j s hj))).trans (g1 j s hj), (hb.cell (p := ⟨H, j, none⟩) (cell_lt (g2 j s hj2))).trans (g2 j s hj2)⟩
  have HL : Hid (∀ j, j < txs.length → ∃ s, txs[j]? = some s) := fun j hj => ⟨_, List.getElem?_eq_getElem hj⟩
  have hle : txs.length ≤ (txs ++ r).length := by simp
  clear h1 h2 hc1 hc2
  generalize txs.length = N at *
  generalize (txs ++ r).length = M at *
  have hd : decide ((N : Int) > (M : Int)) = false := by simp; omega
  have hd' : ¬ (M : Int) < (N : Int) := by omega
  go_enter Tryd.func14, Tryd.ntmps14
  go_wp2_with fail
  go_loopw [5, 13] (fun _ ix wr => ∃ j : Nat, j ≤ N ∧ ix = .int .i64 j ∧ Hid (Below w.heap.size w wr)) (fun _ ix _ => N - (intOf ix).toNat)
  case atStart => exact ⟨0, Nat.zero_le _, rfl, Below.refl _ _⟩
  case round =>
    obtain ⟨j, hj, rfl, HB⟩ := hrel
    by_cases hlt : j < N
    · obtain ⟨s, hs⟩ := HL.out j hlt
      obtain ⟨G, H, rfl, rfl, e1, e2⟩ := HT.out wr j s HB.out hs
      have hlt2 : j < M := by omega
      clear hs
      go_wp2_with fail
      go_region
      all_goals
        go_wp2_with fail
        go_roundw
        case rel => exact ⟨j + 1, hlt, by go_num, HB.out.drew⟩
        case measure => simp [intOf]; omega
    · obtain rfl : j = N := by omega
      go_wp2_with fail
      go_ret
      exact ⟨rfl, HB.out⟩
end
section
set_option linter.unusedVariables false
set_option linter.unusedSimpArgs false
open Go.RowKit

theorem st0_more (s m : Nat) : st0 (s + m) = more m (st0 s) := rfl
/-- What is told with more steps. -/
theorem model_more (ps : List (ByteArray × List Cor)) (steps mo : Int) (h1 : 0 ≤ mo) (h3 : 0 ≤ steps) (h4 : steps ≤ 1000000 - mo) :
    ((modelR ps (steps + mo)).2 = (modelR ps steps).2) ∧ ((modelR ps steps).2.1 = 0 → (modelR ps steps).2 = (0, 0) ∧ (∃ r, (modelR ps (steps + mo)).1.2 = (modelR ps steps).1.2 ++ r) ∧ ((modelR ps steps).1.1 ≠ 2 → (modelR ps (steps + mo)).1 = (modelR ps steps).1)) := by
  unfold modelR
  by_cases hw : (wrongP ps).1 = 0
  · rw [if_pos hw, if_pos hw, if_neg (by omega), if_neg (by omega)]
    refine ⟨rfl, fun _ => ⟨rfl, ?_, ?_⟩⟩
    · have := (run_more mo.toNat (bodies ps) (st0 steps.toNat)).1
      rw [show (steps + mo).toNat = steps.toNat + mo.toNat by omega, st0_more]
      exact this
    · intro hh
      have := (run_more mo.toNat (bodies ps) (st0 steps.toNat)).2 hh
      rw [show (steps + mo).toNat = steps.toNat + mo.toNat by omega, st0_more, this]
      rfl
  · rw [if_neg hw, if_neg hw]
    exact ⟨rfl, fun h => absurd h hw⟩
/-- Two boxes more. -/
theorem boxes2 (w : World) (A C : Array Value) (s t : TypeId) : Below w.heap.size w ((w.alloc (.cells A s)).alloc (.cells C t)) ∧ ((w.alloc (.cells A s)).alloc (.cells C t)).heap[w.heap.size]? = some (.cells A s (0, 0)) ∧ ((w.alloc (.cells A s)).alloc (.cells C t)).heap[w.heap.size + 1]? = some (.cells C t (0, 0)) := by
  refine ⟨((Below.refl _ _).alloc (Nat.le_refl _) _).alloc (by simp) _, ?_, ?_⟩
  · rw [Below.heap_alloc _ _ _ (alloc_lt _ _)]; exact World.alloc_heap_new w _
  · have := World.alloc_heap_new (w.alloc (.cells A s)) (.cells C t)
    simpa using this
set_option maxRecDepth 100000 in
set_option maxHeartbeats 3200000 in
theorem More_walk (B T : Nat) (ps : List (ByteArray × List Cor)) (sa : Option Addr) (scap : Nat) (steps mo : Int) (w : World) (hp : PsV B w sa ps) (hB : B ≤ w.heap.size) (tab : Tab T w) (hT : T ≤ w.heap.size) :
    Calls Tryd.prog 4 #[.slice sa ps.length scap, .int .i64 steps, .int .i64 mo] w fun e w' => e = .returned (.bool true) ∧ Below w.heap.size w w' := by
  have HAL : Hid (Calls Tryd.prog 13 #[] w fun e w' => e = .returned (.bool true) ∧ Below w.heap.size w w') := alive_any T w tab hT
  have HR : Hid (∀ st W, Below w.heap.size w W → Calls Tryd.prog 8 #[.slice sa ps.length scap, .int .i64 st] W (ToldM W (modelR ps st))) := fun st W hb => RunPs_any B T ps sa scap st W (hp.below (hb.mono hB)) (Nat.le_trans hB hb.size) (tab.below (hb.mono hT)) (Nat.le_trans hT hb.size)
  clear hp hB tab hT
  by_cases a1 : mo < 0
  · have f1 : decide (mo < 0) = true := by simp; omega
    go_enter Tryd.func4, Tryd.ntmps4
    go_wp2_with fail
    refine HAL.out.mono ?_
    rintro e w1 ⟨rfl, hb1⟩
    have HB1 := hidd hb1
    clear hb1
    go_wp2_with fail
    go_ret
    exact ⟨rfl, HB1.out⟩
  have f1 : decide (mo < 0) = false := by simp; omega
  by_cases a2 : 1000000 < mo
  · have f2 : decide (mo > 1000000) = true := by simp; omega
    have f2' : decide (1000000 < mo) = true := by simp; omega
    go_enter Tryd.func4, Tryd.ntmps4
    go_wp2_with fail
    refine HAL.out.mono ?_
    rintro e w1 ⟨rfl, hb1⟩
    have HB1 := hidd hb1
    clear hb1
    go_wp2_with fail
    go_ret
    exact ⟨rfl, HB1.out⟩
  have f2 : decide (mo > 1000000) = false := by simp; omega
  have f2' : decide (1000000 < mo) = false := by simp; omega
  by_cases a3 : steps < 0
  · have f3 : decide (steps < 0) = true := by simp; omega
    go_enter Tryd.func4, Tryd.ntmps4
    go_wp2_with fail
    refine HAL.out.mono ?_
    rintro e w1 ⟨rfl, hb1⟩
    have HB1 := hidd hb1
    clear hb1
    go_wp2_with fail
    go_ret
    exact ⟨rfl, HB1.out⟩
  have f3 : decide (steps < 0) = false := by simp; omega
  by_cases a4 : 1000000 - mo < steps
  · have f4 : decide (steps > 1000000 - mo) = true := by simp; omega
    have f4' : decide (1000000 - mo < steps) = true := by simp; omega
    go_enter Tryd.func4, Tryd.ntmps4
    go_wp2_with fail
    refine HAL.out.mono ?_
    rintro e w1 ⟨rfl, hb1⟩
    have HB1 := hidd hb1
    clear hb1
    go_wp2_with fail
    go_ret
    exact ⟨rfl, HB1.out⟩
  have f4 : decide (steps > 1000000 - mo) = false := by simp; omega
  have f4' : decide (1000000 - mo < steps) = false := by simp; omega
  obtain ⟨hf, hok⟩ := model_more ps steps mo (by omega) (by omega) (by omega)
  have HR1 := hidd (HR.out steps)
  have HR2 := hidd (HR.out (steps + mo))
  cases hR1 : modelR ps steps with
  | mk q1 z1 =>
  cases hR2 : modelR ps (steps + mo) with
  | mk q2 z2 =>
  rw [hR1] at HR1 hf hok
  rw [hR2] at HR2 hf hok
  simp only at hf hok
  subst hf
  obtain ⟨x, y⟩ := z2
  obtain ⟨h1, o1⟩ := q1
  obtain ⟨h2, o2⟩ := q2
  simp only at hok
  have HOK := hidd hok
  unfold ToldM fv at HR1 HR2
  simp only at HR1 HR2
  have b1 : 0 ≤ steps ∧ steps ≤ 1000000 ∧ 0 ≤ mo ∧ mo ≤ 1000000 := by omega
  obtain ⟨b1, b2, b3, b4⟩ := b1
  clear hR1 hR2 hok HR a1 a2 a3 a4
  go_enter Tryd.func4, Tryd.ntmps4
  go_wp2_with fail
  refine HAL.out.mono ?_
  rintro e w1 ⟨rfl, hb1⟩
  have HB1 := hidd hb1
  clear hb1
  go_wp2_with fail
  refine (HR1.out w1 HB1.out).mono ?_
  rintro e w2 ⟨hb2, a, n, c, rfl, ht1, hl1⟩
  obtain ⟨W3, hW3⟩ : ∃ W3, W3 = (w2.alloc (.cells #[.int .i64 h1, .slice a n c] 25)).alloc (.cells #[.int .i64 x, .int .i64 y] 28) := ⟨_, rfl⟩
  obtain ⟨g1, g2, g3⟩ := boxes2 w2 #[.int .i64 h1, .slice a n c] #[.int .i64 x, .int .i64 y] 25 28
  rw [← hW3] at g1 g2 g3
  have hb3 : Below w.heap.size w W3 := (HB1.out.trans (hb2.mono HB1.out.size)).trans (g1.mono (Nat.le_trans HB1.out.size hb2.size))
  have HB3 := hidd hb3
  have HG : Hid (W3.heap[w2.heap.size]? = some (.cells #[.int .i64 h1, .slice a n c] 25 (0, 0)) ∧ W3.heap[w2.heap.size + 1]? = some (.cells #[.int .i64 x, .int .i64 y] 28 (0, 0)) ∧ TM o1 a n c W3 ∧ o1.length ≤ maxLen) := ⟨g2, g3, ht1.up g1, hl1⟩
  have hw3 := hW3.symm
  clear hb2 hb3 g1 g2 g3 ht1 hl1 hW3
  go_wp2_with fail
  refine (HR2.out W3 HB3.out).mono ?_
  rintro e w4 ⟨hb4, a2, n2, c2, rfl, ht2, hl2⟩
  obtain ⟨W5, hW5⟩ : ∃ W5, W5 = (w4.alloc (.cells #[.int .i64 h2, .slice a2 n2 c2] 25)).alloc (.cells #[.int .i64 x, .int .i64 y] 28) := ⟨_, rfl⟩
  obtain ⟨g1, g2, g3⟩ := boxes2 w4 #[.int .i64 h2, .slice a2 n2 c2] #[.int .i64 x, .int .i64 y] 25 28
  rw [← hW5] at g1 g2 g3
  have hb5 : Below W3.heap.size W3 W5 := hb4.trans (g1.mono hb4.size)
  obtain ⟨k1, k2, k3, k4⟩ := HG.out
  have m1 := (hb5.block _ (Array.getElem?_eq_some_iff.1 k1).1).trans k1
  have m2 := (hb5.block _ (Array.getElem?_eq_some_iff.1 k2).1).trans k2
  have e10 : W5.cell? ⟨w2.heap.size, 0, none⟩ = some (.int .i64 h1) := (cellO m1).trans rfl
  have e11 : W5.cell? ⟨w2.heap.size, 1, none⟩ = some (.slice a n c) := (cellO m1).trans rfl
  have e20 : W5.cell? ⟨w2.heap.size + 1, 0, none⟩ = some (.int .i64 x) := (cellO m2).trans rfl
  have e21 : W5.cell? ⟨w2.heap.size + 1, 1, none⟩ = some (.int .i64 y) := (cellO m2).trans rfl
  have e30 : W5.cell? ⟨w4.heap.size, 0, none⟩ = some (.int .i64 h2) := (cellO g2).trans rfl
  have e31 : W5.cell? ⟨w4.heap.size, 1, none⟩ = some (.slice a2 n2 c2) := (cellO g2).trans rfl
  have e40 : W5.cell? ⟨w4.heap.size + 1, 0, none⟩ = some (.int .i64 x) := (cellO g3).trans rfl
  have e41 : W5.cell? ⟨w4.heap.size + 1, 1, none⟩ = some (.int .i64 y) := (cellO g3).trans rfl
  have HB5 : Hid (Below w.heap.size w W5) := HB3.out.trans (hb5.mono HB3.out.size)
  have HT : Hid (TM o1 a n c W5 ∧ TM o2 a2 n2 c2 W5 ∧ o2.length ≤ maxLen) := ⟨k3.up hb5, ht2.up g1, hl2⟩
  have hw5 := hW5.symm
  clear hb4 g1 g2 g3 ht2 hl2 hW5 hb5 k1 k2 k3 k4 m1 m2 HG HR1 HR2 HAL
  by_cases hx : x = 0
  · obtain ⟨hxy, ⟨r, hr⟩, hh⟩ := HOK.out hx
    subst hr
    have HBG : Hid (Calls Tryd.prog 14 #[.slice a n c, .slice a2 n2 c2] W5 fun e w' => e = .returned (.bool true) ∧ Below W5.heap.size W5 w') := begins_any o1 r a a2 n n2 c c2 W5 HT.out.2.2 HT.out.1 HT.out.2.1
    by_cases h2' : h1 = 2
    · subst h2'
      subst hx
      clear HOK hh hxy
      go_wp2_with fail
      refine HBG.out.mono ?_
      rintro e w6 ⟨rfl, hb6⟩
      have u10 := (hb6.cell (p := ⟨w2.heap.size, 0, none⟩) (cell_lt e10)).trans e10
      have HB6 : Hid (Below w.heap.size w w6) := HB5.out.trans (hb6.mono HB5.out.size)
      clear hb6
      go_wp2_with fail
      go_ret
      exact ⟨rfl, HB6.out⟩
    · have hd : (h1 == 2) = false := by simpa using h2'
      have hq := hh h2'
      have hq1 : h2 = h1 := congrArg Prod.fst hq
      have hq2 : o1 ++ r = o1 := congrArg Prod.snd hq
      subst hq1
      subst hx
      have HSM : Hid (∀ W, Below W5.heap.size W5 W → Calls Tryd.prog 12 #[.agg #[.int .i64 h2, .slice a n c], .agg #[.int .i64 h2, .slice a2 n2 c2]] W fun e w' => e = .returned (.bool true) ∧ Below W.heap.size W w') := fun W hb => Same_how h2 o1 a a2 n n2 c c2 W (by have := HT.out.2.2; rw [hq2] at this; exact this) (HT.out.1.up hb) (by have := HT.out.2.1; rw [hq2] at this; exact this.up hb)
      clear HOK hh hxy hq hq2 h2'
      go_wp2_with fail
      refine HBG.out.mono ?_
      rintro e w6 ⟨rfl, hb6⟩
      have u10 := (hb6.cell (p := ⟨w2.heap.size, 0, none⟩) (cell_lt e10)).trans e10
      have u11 := (hb6.cell (p := ⟨w2.heap.size, 1, none⟩) (cell_lt e11)).trans e11
      have u30 := (hb6.cell (p := ⟨w4.heap.size, 0, none⟩) (cell_lt e30)).trans e30
      have u31 := (hb6.cell (p := ⟨w4.heap.size, 1, none⟩) (cell_lt e31)).trans e31
      have HS := hidd (HSM.out w6 hb6)
      have HB6 : Hid (Below w.heap.size w w6) := HB5.out.trans (hb6.mono HB5.out.size)
      clear hb6 HSM HT HBG
      go_wp2_with fail
      refine HS.out.mono ?_
      rintro e w7 ⟨rfl, hb7⟩
      have HB7 : Hid (Below w.heap.size w w7) := HB6.out.trans (hb7.mono HB6.out.size)
      clear hb7
      go_wp2_with fail
      go_ret
      exact ⟨rfl, HB7.out⟩
  · have hd : (x != 0) = true := by simpa using hx
    clear HOK HT hx
    go_wp2_with fail
    go_ret
    exact ⟨rfl, HB5.out⟩
end
end Go.Proofs.YthooljlikllnpaaDoor
