/- Chapter 7: package model: Run, where texts are put out in between. -/
import Derived.Test.YthooljlikllnpaaDoorK42
namespace Go.Proofs.YthooljlikllnpaaDoor
set_option linter.unusedVariables false
set_option linter.unusedSimpArgs false
open Go.RowKit

set_option maxRecDepth 100000 in
set_option maxHeartbeats 3200000 in
theorem run_oneK (B rb pb po pcap cb co ccap : Nat) (nm : ByteArray) (R : World → Prop) (w : World)
    (hrb : rb < w.heap.size) (k0 : w.cell? ⟨pb, po, none⟩ = some (.string nm)) (k1 : w.cell? ⟨pb, po + 1, none⟩ = some (.slice (some ⟨cb, co, none⟩) 1 ccap)) (hpb : pb < w.heap.size)
    (hst : ∀ (N : Nat) (z : Int) (W : World), W.heap[N]? = some (.cells #[.int .i64 0] 3 (0, 0)) → R W → R (W.setCell ⟨N, 0, none⟩ (.int .i64 z)))
    (EV : ∀ (W : World) (fb : Nat), Below w.heap.size w W → RF fb W → Calls Tryd.prog 28 #[.pointer (some ⟨rb, 0, none⟩), .pointer (some ⟨cb, co, none⟩), .pointer (some ⟨fb, 0, none⟩)] W (EvK B rb (fun _ _ => R) W)) :
    Calls Tryd.prog 21 #[.pointer (some ⟨rb, 0, none⟩), .slice (some ⟨pb, po, none⟩) 1 pcap] w fun e w' => e = .returned (.int .i64 1) ∧ KT B rb w w' ∧ R w' := by
  have hmf : ∀ (fn : Fn) (first cap : Array Value) (w : World), (Instr.makeFunc fn first cap).run Tryd.prog w = .ok (.func fn first cap) w := fun _ _ _ _ => rfl
  have HEV := hidd EV
  have HST := hidd hst
  clear EV hst
  have BB : Hid (Below w.heap.size w (((w.alloc (.cells #[.int .i64 0] 3)).alloc (.cells #[.string nm, .slice (some ⟨cb, co, none⟩) 1 ccap] 39)).alloc (.cells #[.slice none 0 0, .int .i64 0, .int .i64 0, .pointer none, .pointer none] 83))) := (((Below.refl _ _).alloc (Nat.le_refl _) _).alloc (by simp) _).alloc (by simp; omega) _
  have H0 : Hid ((((w.alloc (.cells #[.int .i64 0] 3)).alloc (.cells #[.string nm, .slice (some ⟨cb, co, none⟩) 1 ccap] 39)).alloc (.cells #[.slice none 0 0, .int .i64 0, .int .i64 0, .pointer none, .pointer none] 83)).heap[w.heap.size]? = some (.cells #[.int .i64 0] 3 (0, 0)) ∧ RF (w.heap.size + 1 + 1) (((w.alloc (.cells #[.int .i64 0] 3)).alloc (.cells #[.string nm, .slice (some ⟨cb, co, none⟩) 1 ccap] 39)).alloc (.cells #[.slice none 0 0, .int .i64 0, .int .i64 0, .pointer none, .pointer none] 83))) := by
    constructor
    · rw [Below.heap_alloc _ _ _ (by simp; omega), Below.heap_alloc _ _ _ (alloc_lt _ _)]
      exact World.alloc_heap_new w _
    · have := World.alloc_heap_new ((w.alloc (.cells #[.int .i64 0] 3)).alloc (.cells #[.string nm, .slice (some ⟨cb, co, none⟩) 1 ccap] 39)) (.cells #[.slice none 0 0, .int .i64 0, .int .i64 0, .pointer none, .pointer none] 83)
      simpa [RF] using this
  have HE := hidd (HEV.out (((w.alloc (.cells #[.int .i64 0] 3)).alloc (.cells #[.string nm, .slice (some ⟨cb, co, none⟩) 1 ccap] 39)).alloc (.cells #[.slice none 0 0, .int .i64 0, .int .i64 0, .pointer none, .pointer none] 83)) (w.heap.size + 1 + 1) BB.out H0.out.2)
  go_enter_defers Tryd.func21, Tryd.ntmps21
  go_wp2_with fail
  refine wp_loop_rounds 2 ?_
  rw [rounds_succ]
  go_wp2_with fail
  refine wp_loop_rounds 2 ?_
  rw [rounds_succ]
  go_wp2_with fail
  refine HE.out.mono ?_
  rintro e w3 ⟨hk3, t, x, rfl, hR⟩
  have hk : KT B rb w w3 := (KT.ofBelow BB.out).trans hk3
  have hz := hk3.at H0.out.1 (by decide) (by omega)
  have g0 : w3.cell? ⟨w.heap.size, 0, none⟩ = some (.int .i64 0) := (cellO hz).trans rfl
  have y0 : w3.frozen? ⟨w.heap.size, 0, none⟩ = false := looseO hz
  have HK := hidd hk
  have HZ := hidd hz
  clear hk3 BB H0 HE HEV k0 k1 hz hk
  have HR := hidd (HST.out w.heap.size 1 w3 HZ.out hR)
  clear HST hR HZ
  go_wp2_with fail
  rw [rounds_succ]
  go_wp2_with fail
  rw [rounds_succ]
  go_wp2_with fail
  refine leaves_cons (f := 26) (args := #[.pointer (some ⟨w.heap.size, 0, none⟩)]) (by simp) (by simp [go_sem]) ?_
  refine (catch_idle _ _).mono ?_
  rintro e u' w4 ⟨rfl, rfl, rfl⟩
  have hkk := HK.out.setNew ⟨w.heap.size, 0, none⟩ (Nat.le_refl _) (.int .i64 1)
  simp [Leaves, settle, results, Tryd.results21, go_sem, g0, hkk, HR.out]
set_option maxRecDepth 100000 in
set_option maxHeartbeats 3200000 in
theorem Run_stK (pb : Nat) (how st : Int) (hs0 : 0 ≤ st) (hs9 : st ≤ 1000000) (P : Option Addr → Nat → Nat → World → Prop) (w : World)
    (hP : ∀ a n c N q y v W, W.cell? ⟨N, 0, none⟩ = some (.int .i64 y) → P a n c W → P a n c (W.setCell ⟨N, q, none⟩ v))
    (HW : ∀ W, Below w.heap.size w W → Calls Tryd.prog 10 #[.slice (some ⟨pb, 0, none⟩) 1 1] W fun e w' => e = .returned (fv (0, 0)) ∧ Below W.heap.size W w')
    (HR : ∀ rb gm W, Below w.heap.size w W → w.heap.size ≤ rb → rb < W.heap.size → RN rb (.slice none 0 0) st 0 gm W → Calls Tryd.prog 21 #[.pointer (some ⟨rb, 0, none⟩), .slice (some ⟨pb, 0, none⟩) 1 1] W fun e w' => e = .returned (.int .i64 how) ∧ KT w.heap.size rb W w' ∧ ∃ a n c left calls, RN rb (.slice a n c) left calls gm w' ∧ P a n c w') :
    Calls Tryd.prog 8 #[.slice (some ⟨pb, 0, none⟩) 1 1, .int .i64 st] w fun e w' => Below w.heap.size w w' ∧ ∃ a n c, e = .returned (.tuple #[.agg #[.int .i64 how, .slice a n c], fv (0, 0)]) ∧ P a n c w' := by
  have HWH := hidd HW
  have HRH := hidd HR
  clear HW HR
  have HPP := hidd hP
  clear hP
  have hg1 : decide (st < 0) = false := by simp; omega
  have hg2 : decide (st > 1000000) = false := by simp; omega
  have hg3 : decide (1000000 < st) = false := by simp; omega
  clear hs0 hs9
  have hmm := @run_makeMap Tryd.prog
  unfold fv at *
  go_enter Tryd.func8, Tryd.ntmps8
  go_wp2_with fail
  refine (HWH.out _ (((Below.refl _ _).alloc (Nat.le_refl _) _).alloc (by simp) _)).mono ?_
  rintro e w1 ⟨rfl, hb1⟩
  obtain ⟨W0, hW0⟩ : ∃ W0, W0 = (w.alloc (.cells #[.int .i64 0, .slice none 0 0] 25)).alloc (.cells #[.int .i64 0, .int .i64 0] 28) := ⟨_, rfl⟩
  have hbW0 : Below w.heap.size w W0 := by rw [hW0]; exact ((Below.refl _ _).alloc (Nat.le_refl _) _).alloc (by simp) _
  have hs0 : W0.heap.size = w.heap.size + 2 := by rw [hW0]; simp
  have a0 : W0.heap[w.heap.size]? = some (.cells #[.int .i64 0, .slice none 0 0] 25 (0, 0)) := by rw [hW0, Below.heap_alloc _ _ _ (alloc_lt _ _)]; exact World.alloc_heap_new w _
  have a1 : W0.heap[w.heap.size + 1]? = some (.cells #[.int .i64 0, .int .i64 0] 28 (0, 0)) := by
    rw [hW0]
    have := World.alloc_heap_new (w.alloc (.cells #[.int .i64 0, .slice none 0 0] 25)) (.cells #[.int .i64 0, .int .i64 0] 28)
    simpa using this
  rw [← hW0] at hb1
  clear hW0
  have BW : Hid (Below W0.heap.size W0 (((w1.alloc (.cells #[.int .i64 0, .int .i64 0] 28)).alloc (.map #[] 0)).alloc (.cells #[.slice none 0 0, .int .i64 st, .int .i64 0, .map (some (w1.heap.size + 1))] 59))) := ((hb1.alloc hb1.size _).alloc (by have := hb1.size; simp; omega) _).alloc (by have := hb1.size; simp; omega) _
  have hs1 := hb1.size
  have SZ : Hid ((((w1.alloc (.cells #[.int .i64 0, .int .i64 0] 28)).alloc (.map #[] 0)).alloc (.cells #[.slice none 0 0, .int .i64 st, .int .i64 0, .map (some (w1.heap.size + 1))] 59)).heap.size = w1.heap.size + 3) := by show _ = _; simp
  have RW : Hid (RN (w1.heap.size + 1 + 1) (.slice none 0 0) st 0 (.map (some (w1.heap.size + 1))) (((w1.alloc (.cells #[.int .i64 0, .int .i64 0] 28)).alloc (.map #[] 0)).alloc (.cells #[.slice none 0 0, .int .i64 st, .int .i64 0, .map (some (w1.heap.size + 1))] 59))) := by
    have := World.alloc_heap_new ((w1.alloc (.cells #[.int .i64 0, .int .i64 0] 28)).alloc (.map #[] 0)) (.cells #[.slice none 0 0, .int .i64 st, .int .i64 0, .map (some (w1.heap.size + 1))] 59)
    simpa [RN, Hid] using this
  have HRR := hidd (HRH.out (w1.heap.size + 1 + 1) (.map (some (w1.heap.size + 1))) _ (hbW0.trans (BW.out.mono (by omega))) (by omega) (by rw [SZ.out]; omega) RW.out)
  clear HRH RW hb1 HWH
  go_wp2_with fail
  refine HRR.out.mono ?_
  rintro e w3 ⟨rfl, hk3, a, n, c, left, calls, hr3, hp3⟩
  have hA : w3.heap[w.heap.size]? = some (.cells #[.int .i64 0, .slice none 0 0] 25 (0, 0)) := hk3.at ((BW.out.block _ (by omega)).trans a0) (by decide) (by omega)
  have hA1 : w3.heap[w.heap.size + 1]? = some (.cells #[.int .i64 0, .int .i64 0] 28 (0, 0)) := hk3.at ((BW.out.block _ (by omega)).trans a1) (by decide) (by omega)
  have BF : Hid (Below w.heap.size w w3) := (hbW0.trans (BW.out.mono (by omega))).trans (hk3.toBelow (by omega) (by rw [SZ.out]; omega))
  have c0 : w3.cell? ⟨w.heap.size, 0, none⟩ = some (.int .i64 0) := (cellO hA).trans rfl
  have c1 : w3.cell? ⟨w.heap.size, 1, none⟩ = some (.slice none 0 0) := (cellO hA).trans rfl
  have d0 : w3.cell? ⟨w.heap.size + 1, 0, none⟩ = some (.int .i64 0) := (cellO hA1).trans rfl
  have d1 : w3.cell? ⟨w.heap.size + 1, 1, none⟩ = some (.int .i64 0) := (cellO hA1).trans rfl
  have f0 : w3.frozen? ⟨w.heap.size, 0, none⟩ = false := looseO hA
  have f1 : w3.frozen? ⟨w.heap.size, 1, none⟩ = false := looseO hA
  have g0 : w3.frozen? ⟨w.heap.size + 1, 0, none⟩ = false := looseO hA1
  have g1 : w3.frozen? ⟨w.heap.size + 1, 1, none⟩ = false := looseO hA1
  have r0 : w3.cell? ⟨w1.heap.size + 1 + 1, 0, none⟩ = some (.slice a n c) := (cellO hr3).trans rfl
  have PF := hidd hp3
  clear hk3 hA hA1 hr3 hp3 a0 a1 BW HRR hbW0
  go_wp2_with fail
  have PX : Hid (P a n c ((((w3.setCell ⟨w.heap.size, 0, none⟩ (.int .i64 how)).setCell ⟨w.heap.size, 1, none⟩ (.slice a n c)).setCell ⟨w.heap.size + 1, 0, none⟩ (.int .i64 0)).setCell ⟨w.heap.size + 1, 1, none⟩ (.int .i64 0))) := by
    refine HPP.out _ _ _ _ _ 0 _ _ (by simp [go_sem, c0, d0, d1]) (HPP.out _ _ _ _ _ 0 _ _ (by simp [go_sem, c0, d0, d1]) (HPP.out _ _ _ _ _ how _ _ (by simp [go_sem, c0, d0, d1]) (HPP.out _ _ _ _ _ 0 _ _ c0 PF.out)))
  refine bodyPost_ret (v := .tuple #[.agg #[.int .i64 how, .slice a n c], .agg #[.int .i64 0, .int .i64 0]]) (by simp [results, Tryd.results8, go_sem, c0, c1, d0, d1]) rfl ⟨?_, a, n, c, rfl, PX.out⟩
  exact (((BF.out.setCell (p := ⟨w.heap.size, 0, none⟩) (Nat.le_refl _) _).setCell (p := ⟨w.heap.size, 1, none⟩) (Nat.le_refl _) _).setCell (p := ⟨w.heap.size + 1, 0, none⟩) (Nat.le_succ _) _).setCell (p := ⟨w.heap.size + 1, 1, none⟩) (Nat.le_succ _) _
theorem Dc.up {B B' : Nat} {w : World} (hB : B ≤ B') {f : Nat} {a : Option Addr} {ds : List Dat} (h : Dc (fun k => k < B) w f a ds) : Dc (fun k => k < B') w f a ds := Dc.stay (fun _ _ => rfl) (fun k hk => by omega) f a ds h
theorem Cc.up {B B' : Nat} {w : World} (hB : B ≤ B') : ∀ (f : Nat) (a : Option Addr) (cs : List Cor), Cc B w f a cs → Cc B' w f a cs
  | 0, _, _, h => h
  | f + 1, a, cs, h => by
    obtain ⟨hl, h⟩ := h
    refine ⟨hl, ?_⟩
    rcases h with h | ⟨b, o, ha, hb, h⟩
    · exact Or.inl h
    · refine Or.inr ⟨b, o, ha, by omega, fun i c hc => ?_⟩
      obtain ⟨qa, qc, ka, kc, h1, h2, h3, h4⟩ := h i c hc
      exact ⟨qa, qc, ka, kc, h1, h2, h3.up hB, Cc.up hB f ka _ h4⟩
theorem Cn.up {B B' : Nat} {w : World} {f b o : Nat} {c : Cor} (h : Cn B w f b o c) (hB : B ≤ B') : Cn B' w f b o c := by
  obtain ⟨hb, qa, qc, ka, kc, h1, h2, h3, h4⟩ := h
  exact ⟨by omega, qa, qc, ka, kc, h1, h2, h3.up hB, Cc.up hB f ka _ h4⟩
/-- What a run has told of its texts. -/
def TM (txs : List (List UInt8)) (a : Option Addr) (n c : Nat) (W : World) : Prop := n = txs.length ∧ n ≤ c ∧ (txs = [] ∨ ∃ G, a = some ⟨G, 0, none⟩ ∧ ∀ j s, txs[j]? = some s → W.cell? ⟨G, j, none⟩ = some (strV s))
theorem TM.set {txs : List (List UInt8)} {a : Option Addr} {n c N q : Nat} {y : Int} {v : Value} {W : World} (hc : W.cell? ⟨N, 0, none⟩ = some (.int .i64 y)) (h : TM txs a n c W) : TM txs a n c (W.setCell ⟨N, q, none⟩ v) := by
  obtain ⟨h1, h0, h2⟩ := h
  refine ⟨h1, h0, ?_⟩
  rcases h2 with h2 | ⟨G, h3, h4⟩
  · exact Or.inl h2
  · by_cases ht : txs = []
    · exact Or.inl ht
    refine Or.inr ⟨G, h3, fun j s hj => ?_⟩
    have hne : G ≠ N := by
      rintro rfl
      obtain ⟨t, r, rfl⟩ := List.exists_cons_of_ne_nil ht
      have := h4 0 t rfl
      rw [this] at hc
      cases hc
    exact (World.cell?_of_block (Below.heap_setCell _ _ _ _ (by simpa using hne))).trans (h4 j s hj)
theorem TM.up {txs : List (List UInt8)} {a : Option Addr} {n c : Nat} {W W' : World} (h : TM txs a n c W) (hb : Below W.heap.size W W') : TM txs a n c W' := by
  obtain ⟨h1, h0, h2⟩ := h
  refine ⟨h1, h0, ?_⟩
  rcases h2 with h2 | ⟨G, h3, h4⟩
  · exact Or.inl h2
  · exact Or.inr ⟨G, h3, fun j s hj => (hb.cell (p := ⟨G, j, none⟩) (cell_lt (h4 j s hj))).trans (h4 j s hj)⟩
theorem TM.of {B : Nat} {txs : List (List UInt8)} {tv : Value} {W : World} (h : W.ownsRow B 9 1 tv txs.length (txs.map strV)) : ∃ a c, tv = .slice a txs.length c ∧ TM txs a txs.length c W := by
  have h' := h
  obtain ⟨a, c, rfl, hc⟩ := own_slice h'
  refine ⟨a, c, rfl, rfl, hc, ?_⟩
  rcases h.2 with ⟨e, h0⟩ | ⟨g, cap, cur, e, _⟩
  · exact Or.inl (List.eq_nil_of_length_eq_zero h0)
  · cases e
    refine Or.inr ⟨g, rfl, fun j s hj => ?_⟩
    have := h.cells (g := g) rfl j (strV s) (by rw [List.getElem?_map, hj]; rfl)
    rw [add_lit0] at this
    exact this
/-- Run, of a part that puts numbers out, from the left. -/
theorem Run_left (ns : List Int) (B g T pb cb co ccap : Nat) (nm : ByteArray) (w : World) (hl : Cc B w (g + 1) (some ⟨cb, co, none⟩) [corL ns]) (hB : B ≤ w.heap.size) (hcc : 1 ≤ ccap) (hn : ns.length ≤ 30)
    (hp : w.heap[pb]? = some (.cells #[.string nm, .slice (some ⟨cb, co, none⟩) 1 ccap] 39 (0, 0))) (ht : Tab T w) (hT : T ≤ w.heap.size) (h1 : ∀ n ∈ ns, rangeN n = true) (hw : wrongB [corL ns] = 0) :
    Calls Tryd.prog 8 #[.slice (some ⟨pb, 0, none⟩) 1 1, .int .i64 500] w fun e w' => Below w.heap.size w w' ∧ ∃ a n c, e = .returned (.tuple #[.agg #[.int .i64 1, .slice a n c], fv (0, 0)]) ∧ TM (ns.map Lib.itoa) a n c w' := by
  obtain ⟨hpb, p0, p1⟩ := part_cells hp
  have hC : ∀ W, Below w.heap.size w W → Cn w.heap.size W g cb co (corL ns) := fun W hb => by
    obtain ⟨g', b', o', e1, e2, hh⟩ := hl.at (by simp)
    cases e1
    cases e2
    have := ((hh 0 _ rfl).up hB).below hb
    simpa using this
  refine Run_stK pb 1 500 (by omega) (by omega) (TM (ns.map Lib.itoa)) w (fun a n c N q y' v W hc h => h.set hc) ?_ ?_
  · intro W hb
    have := Wrong1 B (g + 1) pb nm [corL ns] (some ⟨cb, co, none⟩) ccap W (hl.below (hb.mono hB)) (Nat.le_trans hB hb.size) hcc ((hb.block pb hpb).trans hp)
    rw [hw] at this
    exact this
  · intro rb gm W hb hrb hrW hR
    have hsz := hb.size
    refine (run_oneK w.heap.size rb pb 0 1 cb co ccap nm (RT w.heap.size rb (ns.map Lib.itoa) (500 - 2 - 3 * ns.length - 1) 0 gm) W hrW ((hb.cell (p := ⟨pb, 0, none⟩) hpb).trans p0) ((hb.cell (p := ⟨pb, 0 + 1, none⟩) hpb).trans p1) (by omega) ?_ ?_).mono ?_
    · intro N z W1 hN h
      obtain ⟨tv, hRN⟩ := h.rn
      exact h.set hN (by decide) (fun e => (ne_type hN hRN (by decide)) e.symm)
    · intro W2 fb hb2 hF
      have hs2 := hb2.size
      have hb0 := hb.trans (hb2.mono hsz)
      have hRT : RT w.heap.size rb [] 500 0 gm W2 := ⟨.slice none 0 0, RN.stay (hb2.block rb hrW) hR, World.ownsRow_nil _ _ _ _⟩
      exact eval_left w.heap.size T ns g rb cb co fb gm 500 W2 hRT hn (by omega) (by omega) hrb (by omega) (hC W2 hb0) hF (ht.below (hb0.mono hT)) hT h1
    · rintro e w' ⟨rfl, hk, tv, hr, ho⟩
      obtain ⟨a, c, rfl, htm⟩ := TM.of ho
      rw [List.length_map] at hr htm
      exact ⟨rfl, hk, a, _, c, _, _, hr, htm⟩
end Go.Proofs.YthooljlikllnpaaDoor
