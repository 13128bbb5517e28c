/- Chapter 7: package model: rows and calls, where texts are put out in between. Chapter 7: package model: out of a number, evaluated anywhere. -/
import Derived.Test.YthooljlikllnpaaDoorK23
namespace Go.Proofs.YthooljlikllnpaaDoor
section
set_option linter.unusedVariables false
set_option linter.unusedSimpArgs false
open Go.RowKit

theorem KT.setNew {B rb : Nat} {a b : World} (h : KT B rb a b) (p : Addr) (hp : a.heap.size ≤ p.block) (v : Value) : KT B rb a (b.setCell p v) :=
  ⟨h.os, h.tape, h.output, by have := h.size; simp; omega, fun k hk hr hc => (Below.heap_setCell _ _ _ _ (by simp; omega)).trans (h.block k hk hr hc)⟩
/-- What eval tells of one expression: a value, of which something is known. -/
def EvK (B rb : Nat) (R : TypeId → Value → World → Prop) (w : World) (e : Ending) (w' : World) : Prop :=
  KT B rb w w' ∧ ∃ t x, e = .returned (.iface t x) ∧ R t x w'
set_option maxRecDepth 100000 in
set_option maxHeartbeats 3200000 in
theorem all_K (B rb lb lo n cap : Nat) (fr : Value) (R : List (TypeId × Value) → World → Prop) (w : World)
    (hn : n ≤ 1000) (hcap : n ≤ cap) (hrb : rb < w.heap.size)
    (hst : ∀ vs W N cs q v, W.heap[N]? = some (.cells cs 77 (0, 0)) → w.heap.size ≤ N → R vs W → R vs (W.setCell ⟨N, q, none⟩ v))
    (h0 : ∀ W, Below w.heap.size w W → R [] W)
    (IH : ∀ vs W, vs.length < n → KT B rb w W → R vs W → Calls Tryd.prog 28 #[.pointer (some ⟨rb, 0, none⟩), .pointer (some ⟨lb, lo + vs.length * 12, none⟩), fr] W (EvK B rb (fun t x => R (vs ++ [(t, x)])) W)) :
    Calls Tryd.prog 45 #[.pointer (some ⟨rb, 0, none⟩), .slice (some ⟨lb, lo, none⟩) n cap, fr] w fun e w' => KT B rb w w' ∧ ∃ N vs, w.heap.size ≤ N ∧ N < w'.heap.size ∧ e = .returned (.slice (some ⟨N, 0, none⟩) n n) ∧ vs.length = n ∧ (∃ cs, w'.heap[N]? = some (.cells cs 77 (0, 0))) ∧ (∀ j t x, vs[j]? = some (t, x) → w'.cell? ⟨N, j, none⟩ = some (.iface t x)) ∧ R vs w' := by
  have IHH := hidd IH
  have HST := hidd hst
  have H0 := hidd h0
  clear IH hst h0
  have hmk := make_vals n hn w
  have HROW : Hid ((w.alloc (.cells (List.replicate n Value.nilIface).toArray 77)).heap[w.heap.size]? = some (.cells (List.replicate n Value.nilIface).toArray 77 (0, 0))) := World.alloc_heap_new w _
  have HKP : Hid (KT B rb w (w.alloc (.cells (List.replicate n Value.nilIface).toArray 77))) := KT.ofBelow ((Below.refl _ w).alloc (Nat.le_refl _) _)
  have HR0 : Hid (R [] (w.alloc (.cells (List.replicate n Value.nilIface).toArray 77))) := H0.out _ ((Below.refl w.heap.size w).alloc (Nat.le_refl _) _)
  have HSZ : Hid (w.heap.size < (w.alloc (.cells (List.replicate n Value.nilIface).toArray 77)).heap.size) := alloc_lt _ _
  go_enter Tryd.func45, Tryd.ntmps45
  go_wp2_with fail
  go_loopw [14] (fun ix wr => ∃ (j : Nat) (vs : List (TypeId × Value)) (cs : Array Value), j ≤ n ∧ ix = .int .i64 j ∧ vs.length = j ∧ KT B rb w wr ∧ R vs wr ∧ w.heap.size < wr.heap.size ∧ wr.heap[w.heap.size]? = some (.cells cs 77 (0, 0)) ∧ cs.size = n ∧ (∀ (i : Nat) (t : TypeId) (x : Value), vs[i]? = some (t, x) → cs[i]? = some (Value.iface t x))) (fun ix _ => n - (intOf ix).toNat)
  case atStart => exact ⟨0, [], _, Nat.zero_le _, rfl, rfl, HKP.out, HR0.out, HSZ.out, HROW.out, by rw [List.size_toArray, List.length_replicate], fun i t x hi => by simp at hi⟩
  case round =>
    obtain ⟨j, vs, cs, hj, rfl, hv, hk, hR, hN, hb, hcs, hfs⟩ := hrel
    have HV := hidd hv
    clear hv
    by_cases hlt : j < n
    · have HE : Hid (Calls Tryd.prog 28 #[.pointer (some ⟨rb, 0, none⟩), .pointer (some ⟨lb, lo + j * 12, none⟩), fr] wr (EvK B rb (fun t x => R (vs ++ [(t, x)])) wr)) := by
        have := IHH.out vs wr (by rw [HV.out]; exact hlt) hk hR
        rw [HV.out] at this
        exact this
      have HK := hidd hk
      have HF : Hid (cs.size = n ∧ w.heap.size < wr.heap.size ∧ ∀ (i : Nat) (t : TypeId) (x : Value), vs[i]? = some (t, x) → cs[i]? = some (Value.iface t x)) := ⟨hcs, hN, hfs⟩
      have HB := hidd hb
      clear hk hR hcs hfs hb IHH H0 HR0 HKP HROW hmk
      go_wp2_with fail
      refine HE.out.mono ?_
      rintro e w3 ⟨hk3, t, x, rfl, hR3⟩
      have hkk := HK.out.trans hk3
      have hbb : w3.heap[w.heap.size]? = some (.cells cs 77 (0, 0)) := hk3.at HB.out (by decide) (by omega)
      have hjs : j < cs.size := by rw [HF.out.1]; exact hlt
      have HX : Hid (KT B rb w (w3.setCell ⟨w.heap.size, j, none⟩ (.iface t x)) ∧ R (vs ++ [(t, x)]) (w3.setCell ⟨w.heap.size, j, none⟩ (.iface t x))) := ⟨hkk.setNew _ (Nat.le_refl _) _, HST.out _ w3 _ _ _ _ hbb (Nat.le_refl _) hR3⟩
      have hy : w.heap.size < (w3.setCell ⟨w.heap.size, j, none⟩ (.iface t x)).heap.size := by
        have h1 := hk3.size
        have h2 := HF.out.2.1
        have e : (w3.setCell ⟨w.heap.size, j, none⟩ (.iface t x)).heap.size = w3.heap.size := by simp
        rw [e]
        omega
      have HY := hidd hy
      clear hy
      have HZ : Hid ((w3.setCell ⟨w.heap.size, j, none⟩ (.iface t x)).heap[w.heap.size]? = some (.cells (cs.setIfInBounds j (.iface t x)) 77 (0, 0))) := cell_setV hbb _
      have c1 : w3.cell? ⟨w.heap.size, j, none⟩ = some cs[j] := (cellO hbb).trans (by simp [hjs])
      have z1 := looseO (q := j) hbb
      go_wp2_with fail
      go_roundw
      case rel =>
        refine ⟨j + 1, vs ++ [(t, x)], cs.setIfInBounds j (.iface t x), hlt, by go_num, by rw [List.length_append, HV.out]; rfl, HX.out.1, HX.out.2, HY.out, HZ.out, by rw [Array.size_setIfInBounds]; exact HF.out.1, fun i t' x' hi => ?_⟩
        by_cases e : i = j
        · subst e
          rw [List.getElem?_append_right (by rw [HV.out]; exact Nat.le_refl _), HV.out, Nat.sub_self] at hi
          simp at hi
          obtain ⟨rfl, rfl⟩ := hi
          simp [hjs]
        · have hij : i < vs.length := by
            have := (List.getElem?_eq_some_iff.1 hi).1
            rw [List.length_append] at this
            simp at this
            rw [HV.out] at this ⊢
            omega
          rw [List.getElem?_append_left hij] at hi
          rw [Array.getElem?_setIfInBounds, if_neg (fun h => e h.symm)]
          exact HF.out.2.2 i t' x' hi
      case measure => simp [intOf]; omega
    · obtain rfl : j = n := by omega
      go_wp2_with fail
      go_ret
      exact ⟨hk, _, vs, Nat.le_refl _, hN, rfl, HV.out, ⟨cs, hb⟩, fun i t x hi => (cellO hb).trans (hfs i t x hi), hR⟩
set_option maxRecDepth 100000 in
set_option maxHeartbeats 400000 in
theorem call_primK1 (B rb N : Nat) (s : ByteArray) (R : TypeId → Value → World → Prop) (w : World)
    (k0 : w.cell? ⟨N, 0, none⟩ = some (.iface 114 (.string s)))
    (PR : Calls Tryd.prog 59 #[.pointer (some ⟨rb, 0, none⟩), .string s, .slice (some ⟨N, 1, none⟩) 1 1] w (EvK B rb R w)) :
    Calls Tryd.prog 44 #[.pointer (some ⟨rb, 0, none⟩), .slice (some ⟨N, 0, none⟩) 2 2] w (EvK B rb R w) := by
  have HP := hidd PR
  clear PR
  have hta := assertP (.string s)
  go_enter Tryd.func44, Tryd.ntmps44
  go_wp2_with fail
  refine HP.out.mono ?_
  rintro e w3 ⟨hk3, t, x, rfl, hq⟩
  go_wp2_with fail
  go_ret
  exact ⟨hk3, t, x, rfl, hq⟩
set_option maxRecDepth 100000 in
set_option maxHeartbeats 3200000 in
theorem eval_callK (B rb cb co lb lo n cap : Nat) (txs : List (List UInt8)) (gm fr : Value) (left calls : Int) (R : List (TypeId × Value) → World → Prop) (R' : TypeId → Value → World → Prop) (w : World)
    (hr : RT B rb txs left calls gm w) (hl : 0 < left) (hl9 : left ≤ 1000000) (hc : rb ≠ cb) (hn : n ≤ 1000) (hcap : n ≤ cap) (hrb : rb < w.heap.size)
    (k0 : w.cell? ⟨cb, co, none⟩ = some (.int .i64 9)) (k11 : w.cell? ⟨cb, co + 11, none⟩ = some (.slice (some ⟨lb, lo, none⟩) n cap))
    (hst : ∀ vs W N cs q v, W.heap[N]? = some (.cells cs 77 (0, 0)) → w.heap.size ≤ N → R vs W → R vs (W.setCell ⟨N, q, none⟩ v))
    (h0 : ∀ W, Below w.heap.size (w.setCell ⟨rb, 1, none⟩ (.int .i64 (left - 1))) W → R [] W)
    (IH : ∀ vs W, vs.length < n → KT B rb w W → R vs W → Calls Tryd.prog 28 #[.pointer (some ⟨rb, 0, none⟩), .pointer (some ⟨lb, lo + vs.length * 12, none⟩), fr] W (EvK B rb (fun t x => R (vs ++ [(t, x)])) W))
    (CL : ∀ N vs W, w.heap.size ≤ N → N < W.heap.size → KT B rb w W → vs.length = n → (∃ cs, W.heap[N]? = some (.cells cs 77 (0, 0))) → R vs W → (∀ j t x, vs[j]? = some (t, x) → W.cell? ⟨N, j, none⟩ = some (.iface t x)) → Calls Tryd.prog 44 #[.pointer (some ⟨rb, 0, none⟩), .slice (some ⟨N, 0, none⟩) n n] W (EvK B rb R' W)) :
    Calls Tryd.prog 28 #[.pointer (some ⟨rb, 0, none⟩), .pointer (some ⟨cb, co, none⟩), fr] w (EvK B rb R' w) := by
  obtain ⟨tv, hR, hO⟩ := hr
  have c1 : w.cell? ⟨rb, 1, none⟩ = some (.int .i64 left) := (cellO hR).trans rfl
  have z1 := looseO (q := 1) hR
  clear hO
  have hg : decide (left > 0) = true := by simp; omega
  have hg' : decide (0 < left) = true := by simp; omega
  have HK1 : Hid (KT B rb w (w.setCell ⟨rb, 1, none⟩ (.int .i64 (left - 1)))) := KT.ofKeep ((Keep.refl rb w).setCell _ rfl _)
  have hs : (w.setCell ⟨rb, 1, none⟩ (.int .i64 (left - 1))).heap.size = w.heap.size := by simp
  have HAL : Hid (Calls Tryd.prog 45 #[.pointer (some ⟨rb, 0, none⟩), .slice (some ⟨lb, lo, none⟩) n cap, fr] (w.setCell ⟨rb, 1, none⟩ (.int .i64 (left - 1))) _) := hidd
    (all_K B rb lb lo n cap fr R (w.setCell ⟨rb, 1, none⟩ (.int .i64 (left - 1))) hn hcap (by rw [hs]; exact hrb) (fun vs W N cs q v h1 h2 h3 => hst vs W N cs q v h1 (by rw [hs] at h2; exact h2) h3) (fun W hb => h0 W (by rw [hs] at hb; exact hb)) (fun vs W hj hk hR => IH vs W hj (HK1.out.trans hk) hR))
  have HCL := hidd CL
  have HS := hidd hs
  clear CL IH h0 hst hR hs
  go_enter Tryd.func28, Tryd.ntmps28
  go_wp2_with fail
  refine (Must_yes 2 _).mono ?_
  rintro e w1 ⟨rfl, rfl⟩
  go_wp2_with fail
  refine HAL.out.mono ?_
  rintro e w3 ⟨hk3, N, vs, hN, hN3, rfl, hvl, h77, hcs, hR3⟩
  have HK3 : Hid (KT B rb w1 w3) := HK1.out.trans hk3
  have HC := hidd (HCL.out N vs w3 (by rw [HS.out] at hN; exact hN) hN3 HK3.out hvl h77 hR3 hcs)
  clear HCL HAL hR3 hcs hk3 HK1 hvl h77
  go_wp2_with fail
  refine HC.out.mono ?_
  rintro e w4 ⟨hk4, t, x, rfl, hR4⟩
  go_wp2_with fail
  go_ret
  exact ⟨HK3.out.trans hk4, t, x, rfl, hR4⟩
set_option maxRecDepth 100000 in
set_option maxHeartbeats 3200000 in
theorem prim_outK (B rb ab ao : Nat) (t : TypeId) (x : Value) (R : World → Prop) (w : World) (k0 : w.cell? ⟨ab, ao, none⟩ = some (.iface t x)) (h77 : ∃ cs, w.heap[ab]? = some (.cells cs 77 (0, 0))) (hne : ab ≠ rb)
    (PUT : Calls Tryd.prog 72 #[.pointer (some ⟨rb, 0, none⟩), .iface t x] w fun e w' => e = .returned (.tuple #[]) ∧ KT B rb w w' ∧ R w') :
    Calls Tryd.prog 59 #[.pointer (some ⟨rb, 0, none⟩), .string outB, .slice (some ⟨ab, ao, none⟩) 1 1] w fun e w' => e = .returned (.iface t x) ∧ KT B rb w w' ∧ R w' := by
  have HP := hidd PUT
  have AR : Hid (∀ w, Calls Tryd.prog 64 #[.string outB] w fun e w' => e = .returned (.int .i64 1) ∧ w' = w) := fun w => by
    have e : argsB outB = 1 := by decide +kernel
    have := argsOf_any outB w
    rw [e] at this
    exact this
  obtain ⟨o, ho⟩ : ∃ o, o = outB := ⟨_, rfl⟩
  have c1 : (o.toList == [111, 117, 116]) = true := by rw [ho]; decide +kernel
  rw [← ho] at AR ⊢
  clear ho PUT
  go_enter Tryd.func59, Tryd.ntmps59
  go_wp2_with fail
  refine (AR.out _).mono ?_
  rintro e w1 ⟨rfl, rfl⟩
  go_wp2_with fail
  refine (Must_yes _ _).mono ?_
  rintro e w1 ⟨rfl, rfl⟩
  go_wp2_with fail
  refine HP.out.mono ?_
  rintro e w2 ⟨rfl, hk2, hr2⟩
  have d0 : w2.cell? ⟨ab, ao, none⟩ = some (.iface t x) := by
    obtain ⟨cs, h77⟩ := h77
    exact (World.cell?_of_block ((hk2.at h77 (by decide) hne).trans h77.symm)).trans k0
  go_wp2_with fail
  go_ret
  exact ⟨rfl, hk2, hr2⟩
end
section
set_option linter.unusedVariables false
set_option linter.unusedSimpArgs false
open Go.RowKit

theorem EvK.num {B rb cb co : Nat} {txs : List (List UInt8)} {gm fr : Value} {left calls n : Int} {w : World} (hr : RT B rb txs left calls gm w) (hl : 0 < left) (hl9 : left ≤ 1000000) (hc : rb ≠ cb)
    (k0 : w.cell? ⟨cb, co, none⟩ = some (.int .i64 1)) (k2 : w.cell? ⟨cb, co + 2, none⟩ = some (.int .i64 n)) :
    Calls Tryd.prog 28 #[.pointer (some ⟨rb, 0, none⟩), .pointer (some ⟨cb, co, none⟩), fr] w (EvK B rb (fun t x W => t = 104 ∧ x = .int .i64 n ∧ RT B rb txs (left - 1) calls gm W) w) := by
  obtain ⟨tv, hR, hO⟩ := hr
  refine (eval_num rb cb co tv gm fr left calls n w hR hl hl9 hc k0 k2).mono ?_
  rintro e w' ⟨rfl, rfl⟩
  exact ⟨KT.ofKeep ((Keep.refl rb w).setCell _ rfl _), _, _, rfl, rfl, rfl, RT.step ⟨tv, hR, hO⟩⟩
theorem EvK.prim {B rb cb co : Nat} {txs : List (List UInt8)} {gm fr : Value} {left calls : Int} {s : ByteArray} {w : World} (hr : RT B rb txs left calls gm w) (hl : 0 < left) (hl9 : left ≤ 1000000) (hc : rb ≠ cb)
    (k0 : w.cell? ⟨cb, co, none⟩ = some (.int .i64 6)) (k4 : w.cell? ⟨cb, co + 4, none⟩ = some (.string s)) :
    Calls Tryd.prog 28 #[.pointer (some ⟨rb, 0, none⟩), .pointer (some ⟨cb, co, none⟩), fr] w (EvK B rb (fun t x W => t = 114 ∧ x = .string s ∧ RT B rb txs (left - 1) calls gm W) w) := by
  obtain ⟨tv, hR, hO⟩ := hr
  refine (eval_prim rb cb co tv gm fr left calls s w hR hl hl9 hc k0 k4).mono ?_
  rintro e w' ⟨rfl, rfl⟩
  exact ⟨KT.ofKeep ((Keep.refl rb w).setCell _ rfl _), _, _, rfl, rfl, rfl, RT.step ⟨tv, hR, hO⟩⟩
theorem RT.set77 {B rb N q : Nat} {txs : List (List UInt8)} {left calls : Int} {gm v : Value} {W : World} {cs : Array Value} (h1 : W.heap[N]? = some (.cells cs 77 (0, 0))) (h : RT B rb txs left calls gm W) : RT B rb txs left calls gm (W.setCell ⟨N, q, none⟩ v) := by
  obtain ⟨tv, hR, hO⟩ := h
  have hne : rb ≠ N := ne77 h1 hR (by decide)
  exact RT.set ⟨tv, hR, hO⟩ h1 (by decide) (fun e => hne e.symm)
def RU (B rb : Nat) (txs : List (List UInt8)) (left calls n : Int) (gm : Value) (vs : List (TypeId × Value)) (W : World) : Prop :=
  RT B rb txs (left - 1 - vs.length) calls gm W ∧ vs = [(114, .string outB), (104, .int .i64 n)].take vs.length
theorem RT.first {B rb : Nat} {txs : List (List UInt8)} {left calls : Int} {gm : Value} {w W : World} (hr : RT B rb txs left calls gm w) (hb : Below w.heap.size (w.setCell ⟨rb, 1, none⟩ (.int .i64 (left - 1))) W) : RT B rb txs (left - 1) calls gm W := by
  refine hr.step.below ?_
  have e : (w.setCell ⟨rb, 1, none⟩ (.int .i64 (left - 1))).heap.size = w.heap.size := by simp
  rw [e]
  exact hb
theorem out_num (B T : Nat) (n : Int) (txs : List (List UInt8)) (rb cb co lb lo cap : Nat) (gm fr : Value) (left calls : Int) (w : World)
    (hr : RT B rb txs left calls gm w) (hl : 3 ≤ left) (hl9 : left ≤ 1000000) (hB : B ≤ rb) (hBw : B ≤ w.heap.size) (hc : cb < B) (hlb : lb < B) (hcap : 2 ≤ cap) (hn : txs.length < 200)
    (ht : Tab T w) (hT : T ≤ B) (h1 : rangeN n = true)
    (k0 : w.cell? ⟨cb, co, none⟩ = some (.int .i64 9)) (k11 : w.cell? ⟨cb, co + 11, none⟩ = some (.slice (some ⟨lb, lo, none⟩) 2 cap))
    (p0 : w.cell? ⟨lb, lo, none⟩ = some (.int .i64 6)) (p4 : w.cell? ⟨lb, lo + 4, none⟩ = some (.string outB))
    (q0 : w.cell? ⟨lb, lo + 12, none⟩ = some (.int .i64 1)) (q2 : w.cell? ⟨lb, lo + 12 + 2, none⟩ = some (.int .i64 n)) :
    Calls Tryd.prog 28 #[.pointer (some ⟨rb, 0, none⟩), .pointer (some ⟨cb, co, none⟩), fr] w (EvK B rb (fun t v W => t = 104 ∧ v = .int .i64 n ∧ RT B rb (txs ++ [Lib.itoa n]) (left - 3) calls gm W) w) := by
  have cell : ∀ W, KT B rb w W → ∀ q, W.cell? ⟨lb, q, none⟩ = w.cell? ⟨lb, q, none⟩ := fun W hk q => (hk.toBelow hB hBw).cell (p := ⟨lb, q, none⟩) hlb
  have hrb : rb < w.heap.size := by
    obtain ⟨tv, hR, _⟩ := hr
    exact (Array.getElem?_eq_some_iff.1 hR).1
  refine eval_callK B rb cb co lb lo 2 cap txs gm fr left calls (RU B rb txs left calls n gm) _ w hr (by omega) hl9 (by omega) (by omega) hcap hrb k0 k11 (fun vs W N cs q v g1 _ h => ⟨h.1.set77 g1, h.2⟩) (fun W hb => ⟨?_, rfl⟩) ?_ ?_
  · simpa using hr.first hb
  · intro vs W hj hk hR
    obtain ⟨hR, hv⟩ := hR
    match vs, hj, hR, hv with
    | [], _, hR, hv =>
      refine (EvK.prim (fr := fr) hR (by simp; omega) (by simp; omega) (by omega) ((cell W hk _).trans p0) ((cell W hk _).trans p4)).mono ?_
      rintro e w' ⟨g1, t, v, g2, rfl, rfl, g3⟩
      refine ⟨g1, _, _, g2, ?_, rfl⟩
      simpa using g3
    | [v0], _, hR, hv =>
      refine (EvK.num (fr := fr) hR (by simp; omega) (by simp; omega) (by omega) ((cell W hk _).trans q0) ((cell W hk _).trans q2)).mono ?_
      rintro e w' ⟨g1, t, v, g2, rfl, rfl, g3⟩
      refine ⟨g1, _, _, g2, ?_, ?_⟩
      · have e : left - 1 - 1 - 1 = left - 1 - 2 := by omega
        simpa [e] using g3
      · simp at hv
        simp [hv]
    | _ :: _ :: _, hj, _, _ => simp at hj; omega
  · intro N vs W hN hNW hk hvl h77 hR hcs
    obtain ⟨hR, hv⟩ := hR
    rw [hvl] at hR hv
    simp at hv
    subst hv
    have g0 := hcs 0 _ _ rfl
    have g1 := hcs 1 _ _ rfl
    have hkB := hk.toBelow hB hBw
    have hBW : B ≤ W.heap.size := Nat.le_trans hBw hk.size
    have e : left - 1 - ((2 : Nat) : Int) = left - 3 := by omega
    rw [e] at hR
    refine call_primK1 B rb N outB _ W g0 ?_
    refine (prim_outK B rb N 1 104 (.int .i64 n) (RT B rb (txs ++ [Lib.itoa n]) (left - 3) calls gm) W g1 h77 (by omega) ?_).mono ?_
    · refine put_gen B rb 1 104 (.int .i64 n) (Lib.itoa n) txs (left - 3) calls gm W hR hBW hn (itoa_some n) ?_
      intro W' hb hw
      have := value_num T W.heap.size W.heap.size 0 n [] W' hw (by omega) (by omega) (by simp) hb.size (ht.below ((hkB.mono hT).trans (hb.mono (by omega)))) (by omega) h1 (itoa_short n h1)
      simpa using this
    · rintro e w' ⟨rfl, hk', hr'⟩
      exact ⟨hk', _, _, rfl, rfl, rfl, hr'⟩
set_option maxRecDepth 100000 in
set_option maxHeartbeats 1600000 in
theorem eval_lam (B rb cb co lb lo cap fb : Nat) (txs : List (List UInt8)) (gm : Value) (left calls i : Int) (w : World) (hr : RT B rb txs left calls gm w) (hl : 0 < left) (hl9 : left ≤ 1000000) (hc : rb ≠ cb) (hcap : 1 ≤ cap)
    (k0 : w.cell? ⟨cb, co, none⟩ = some (.int .i64 8)) (k1 : w.cell? ⟨cb, co + 1, none⟩ = some (.int .i64 i)) (k11 : w.cell? ⟨cb, co + 11, none⟩ = some (.slice (some ⟨lb, lo, none⟩) 1 cap)) :
    Calls Tryd.prog 28 #[.pointer (some ⟨rb, 0, none⟩), .pointer (some ⟨cb, co, none⟩), .pointer (some ⟨fb, 0, none⟩)] w (EvK B rb (fun t v W => t = 115 ∧ RT B rb txs (left - 1) calls gm W ∧ ∃ P, w.heap.size ≤ P ∧ v = .pointer (some ⟨P, 0, none⟩) ∧ W.heap[P]? = some (.cells #[.int .i64 i, .pointer (some ⟨lb, lo, none⟩), .pointer (some ⟨fb, 0, none⟩)] 117 (0, 0))) w) := by
  have hr' := hr
  obtain ⟨tv, hR, hO⟩ := hr'
  have c1 : w.cell? ⟨rb, 1, none⟩ = some (.int .i64 left) := (cellO hR).trans rfl
  have z1 := looseO (q := 1) hR
  have hg : decide (left > 0) = true := by simp; omega
  have hg' : decide (0 < left) = true := by simp; omega
  have HK1 : Hid (KT B rb w (w.setCell ⟨rb, 1, none⟩ (.int .i64 (left - 1)))) := KT.ofKeep ((Keep.refl rb w).setCell _ rfl _)
  have HR1 := hidd hr.step
  obtain ⟨W1, hW1⟩ : ∃ W1, W1 = w.setCell ⟨rb, 1, none⟩ (.int .i64 (left - 1)) := ⟨_, rfl⟩
  have hs1 : W1.heap.size = w.heap.size := by rw [hW1]; simp
  have x0 : W1.cell? ⟨cb, co, none⟩ = some (.int .i64 8) := by rw [hW1]; exact (World.cell?_of_block (Below.heap_setCell _ _ _ _ (by simpa using fun e => hc e.symm))).trans k0
  have x1 : W1.cell? ⟨cb, co + 1, none⟩ = some (.int .i64 i) := by rw [hW1]; exact (World.cell?_of_block (Below.heap_setCell _ _ _ _ (by simpa using fun e => hc e.symm))).trans k1
  have x11 : W1.cell? ⟨cb, co + 11, none⟩ = some (.slice (some ⟨lb, lo, none⟩) 1 cap) := by rw [hW1]; exact (World.cell?_of_block (Below.heap_setCell _ _ _ _ (by simpa using fun e => hc e.symm))).trans k11
  rw [← hW1] at HK1 HR1
  have hw1 := hW1.symm
  have HS := hidd hs1
  clear hr hR hO hW1 hs1
  go_enter Tryd.func28, Tryd.ntmps28
  go_wp2_with fail
  refine (Must_yes 2 _).mono ?_
  rintro e w1 ⟨rfl, rfl⟩
  go_wp2_with fail
  go_region
  all_goals
    have HB : Hid (Below W1.heap.size W1 (W1.drew.alloc (.cells #[.int .i64 i, .pointer (some ⟨lb, lo, none⟩), .pointer (some ⟨fb, 0, none⟩)] 117))) := (Below.drew (Below.refl _ _)).alloc (Nat.le_refl _) _
    have HP := hidd (World.alloc_heap_new W1.drew (.cells #[.int .i64 i, .pointer (some ⟨lb, lo, none⟩), .pointer (some ⟨fb, 0, none⟩)] 117))
    go_wp2_with fail
    go_ret
    exact ⟨HK1.out.trans (KT.ofBelow HB.out), _, _, rfl, rfl, HR1.out.below HB.out, _, Nat.le_of_eq HS.out.symm, rfl, HP.out⟩
end
end Go.Proofs.YthooljlikllnpaaDoor
