/- Chapter 7: package model: out of a pair is evaluated. Chapter 7: package model: one part is run, its value not known ahead; Run, with any steps. -/
import Derived.Test.YthooljlikllnpaaDoorK16
namespace Go.Proofs.YthooljlikllnpaaDoor
section
set_option linter.unusedVariables false
set_option linter.unusedSimpArgs false
open Go.RowKit

set_option maxRecDepth 100000 in
set_option maxHeartbeats 3200000 in
theorem put_val (rb : Nat) (k : Int) (t : TypeId) (x : Value) (s : List UInt8) (left calls : Int) (gm : Value) (w : World) (hr : RN rb (.slice none 0 0) left calls gm w) (hrb : rb < w.heap.size) (hs : s ≠ [])
    (VAL : ∀ W, Below w.heap.size w W → Wr w.heap.size w.heap.size 0 [] W → Calls Tryd.prog 81 #[.pointer (some ⟨w.heap.size, 0, none⟩), .iface t x] W fun e w' => e = .returned (.tuple #[]) ∧ Wr w.heap.size w.heap.size k s w' ∧ Below w.heap.size W w') :
    Calls Tryd.prog 72 #[.pointer (some ⟨rb, 0, none⟩), .iface t x] w fun e w' => e = .returned (.tuple #[]) ∧ Keep rb w w' ∧ ∃ G cap, RN rb (.slice (some ⟨G, 0, none⟩) 1 cap) left calls gm w' ∧ w'.cell? ⟨G, 0, none⟩ = some (.string ⟨s.toArray⟩) := by
  have c0 : w.cell? ⟨rb, 0, none⟩ = some (.slice none 0 0) := (cellO hr).trans rfl
  have z0 := looseO (q := 0) hr
  have HBA : Hid (Below w.heap.size w (w.alloc (.cells #[.pointer none, .slice none 0 0, .int .i64 0] 175))) := (Below.refl w.heap.size w).alloc (Nat.le_refl _) _
  have HV := hidd (VAL _ HBA.out (fresh_Wr w))
  have ST : Hid (∀ W, Wr w.heap.size w.heap.size k s W → Calls Tryd.prog 82 #[.pointer (some ⟨w.heap.size, 0, none⟩)] W fun e w' => e = .returned (.string ⟨s.toArray⟩) ∧ Below w.heap.size W w') := fun W hW => String_some _ _ k s W hW hs
  have HR := hidd hr
  have HAP := hidd append_one
  clear VAL hr
  go_enter Tryd.func72, Tryd.ntmps72
  go_wp2_with fail
  refine (Must_yes _ _).mono ?_
  rintro e w1 ⟨rfl, rfl⟩
  go_wp2_with fail
  refine HV.out.mono ?_
  rintro e w2 ⟨rfl, hw2, hb2⟩
  have HB2 := hidd (HBA.out.trans hb2)
  have HW2 := hidd hw2
  have d0 : w2.cell? ⟨rb, 0, none⟩ = some (.slice none 0 0) := (HB2.out.cell (p := ⟨rb, 0, none⟩) hrb).trans c0
  clear hw2 hb2 HV HBA
  go_wp2_with fail
  go_region_with (go_at_call 82; refine (ST.out _ HW2.out.drew).mono ?_; rintro e w3 ⟨rfl, hb3⟩; have hb3' := HB2.out.trans ((Below.drew (Below.refl _ w2)).trans hb3); have hlt3 : rb < w3.heap.size := Nat.lt_of_lt_of_le hrb hb3'.size; have d3 : w3.cell? ⟨rb, 0, none⟩ = some (.slice none 0 0) := (hb3'.cell (p := ⟨rb, 0, none⟩) hrb).trans c0; have z3 : w3.frozen? ⟨rb, 0, none⟩ = false := (hb3'.frozen (p := ⟨rb, 0, none⟩) hrb).trans z0; obtain ⟨cap, cs, hap⟩ := HAP.out (w3.alloc (.cells #[.string ⟨s.toArray⟩] 9)) w3.heap.size ⟨s.toArray⟩ ((cellO (World.alloc_heap_new w3 _)).trans rfl))
  all_goals
    go_wp2_with fail
    go_end0
    exact ⟨rfl, put_end _ _ _ HR.out hrb hb3'⟩
theorem ne77 {N b : Nat} {W : World} {cs ds : Array Value} {t : TypeId} {fz : Nat × Nat} (h1 : W.heap[N]? = some (.cells cs 77 (0, 0))) (h2 : W.heap[b]? = some (.cells ds t fz)) (ht : t ≠ 77) : b ≠ N := by
  rintro rfl
  rw [h1] at h2
  simp only [Option.some.injEq, Obj.cells.injEq] at h2
  exact ht h2.2.1.symm
theorem RN.set77 {rb N q : Nat} {tv gm v : Value} {left calls : Int} {W : World} {cs : Array Value} (h1 : W.heap[N]? = some (.cells cs 77 (0, 0))) (h : RN rb tv left calls gm W) : RN rb tv left calls gm (W.setCell ⟨N, q, none⟩ v) :=
  (Below.heap_setCell _ _ _ _ (by simpa using ne77 h1 h (by decide))).trans h
theorem Pr.set77 {P N q : Nat} {x y : Int} {v : Value} {W : World} {cs : Array Value} (h1 : W.heap[N]? = some (.cells cs 77 (0, 0))) (h : Pr P x y W) : Pr P x y (W.setCell ⟨N, q, none⟩ v) :=
  (Below.heap_setCell _ _ _ _ (by simpa using ne77 h1 h (by decide))).trans h
def RC (rb : Nat) (left calls x y : Int) (gm : Value) (vs : List (TypeId × Value)) (W : World) : Prop := RN rb (.slice none 0 0) (left - 1 - vs.length) calls gm W ∧ vs = [(114, .string consB), (104, .int .i64 x), (104, .int .i64 y)].take vs.length
theorem eval_cons (x y : Int) (rb cb co lb lo cap : Nat) (gm fr : Value) (left calls : Int) (w : World)
    (hr : RN rb (.slice none 0 0) left calls gm w) (hl : 4 ≤ left) (hl9 : left ≤ 1000000) (hc : rb ≠ cb) (hlb : rb ≠ lb) (hlw : lb < w.heap.size) (hrb : rb < w.heap.size) (hcap : 3 ≤ cap)
    (k0 : w.cell? ⟨cb, co, none⟩ = some (.int .i64 9)) (k11 : w.cell? ⟨cb, co + 11, none⟩ = some (.slice (some ⟨lb, lo, none⟩) 3 cap))
    (p0 : w.cell? ⟨lb, lo, none⟩ = some (.int .i64 6)) (p4 : w.cell? ⟨lb, lo + 4, none⟩ = some (.string consB))
    (q0 : w.cell? ⟨lb, lo + 12, none⟩ = some (.int .i64 1)) (q2 : w.cell? ⟨lb, lo + 12 + 2, none⟩ = some (.int .i64 x))
    (s0 : w.cell? ⟨lb, lo + 24, none⟩ = some (.int .i64 1)) (s2 : w.cell? ⟨lb, lo + 24 + 2, none⟩ = some (.int .i64 y)) :
    Calls Tryd.prog 28 #[.pointer (some ⟨rb, 0, none⟩), .pointer (some ⟨cb, co, none⟩), fr] w (EvV rb (fun t v W => t = 158 ∧ RN rb (.slice none 0 0) (left - 4) calls gm W ∧ ∃ P, w.heap.size ≤ P ∧ P < W.heap.size ∧ v = .pointer (some ⟨P, 0, none⟩) ∧ Pr P x y W) w) := by
  have cell : ∀ W, Keep rb w W → ∀ q, W.cell? ⟨lb, q, none⟩ = w.cell? ⟨lb, q, none⟩ := fun W hk q => hk.cell (p := ⟨lb, q, none⟩) hlw (fun e => hlb e.symm)
  refine eval_callV rb cb co lb lo 3 cap (.slice none 0 0) gm fr left calls (RC rb left calls x y gm) _ w hr (by omega) hl9 hc (by omega) hcap hrb k0 k11 (fun vs W N cs q v h1 _ h => ⟨h.1.set77 h1, h.2⟩) (fun W hb => ⟨?_, rfl⟩) ?_ ?_
  · have := (hb.block rb hrb).trans hr.step
    simpa [RN] using this
  · intro vs W hj hk hR
    obtain ⟨hR, hv⟩ := hR
    match vs, hj, hR, hv with
    | [], _, hR, hv =>
      refine (Ev.prim (fr := fr) (E := endP 6) (D := fun _ => True) hR (by simp; omega) (by simp; omega) hlb ((cell W hk _).trans p0) ((cell W hk _).trans p4)).mono ?_
      intro e w' h
      obtain ⟨g1, t, v, g2, rfl, rfl, g3⟩ := EvV.of h
      refine ⟨g1, _, _, g2, ?_, rfl⟩
      simpa using g3
    | [v0], _, hR, hv =>
      refine (Ev.num (fr := fr) (E := endP 6) (D := fun _ => True) hR (by simp; omega) (by simp; omega) hlb ((cell W hk _).trans q0) ((cell W hk _).trans q2)).mono ?_
      intro e w' h
      obtain ⟨g1, t, v, g2, rfl, rfl, g3⟩ := EvV.of h
      refine ⟨g1, _, _, g2, ?_, ?_⟩
      · have e : left - 1 - 1 - 1 = left - 1 - 2 := by omega
        simpa [e] using g3
      · simp at hv
        simp [hv]
    | [v0, v1], _, hR, hv =>
      refine (Ev.num (fr := fr) (E := endP 6) (D := fun _ => True) hR (by simp; omega) (by simp; omega) hlb ((cell W hk _).trans s0) ((cell W hk _).trans s2)).mono ?_
      intro e w' h
      obtain ⟨g1, t, v, g2, rfl, rfl, g3⟩ := EvV.of h
      refine ⟨g1, _, _, g2, ?_, ?_⟩
      · have e : left - 1 - 2 - 1 = left - 1 - 3 := by omega
        simpa [e] using g3
      · simp at hv
        simp [hv]
    | _ :: _ :: _ :: _, hj, _, _ => simp at hj; omega
  · intro N vs W hN hNW hk hvl hR hcs
    obtain ⟨hR, hv⟩ := hR
    rw [hvl] at hR hv
    simp at hv
    subst hv
    have g0 := hcs 0 _ _ rfl
    have g1 := hcs 1 _ _ rfl
    have g2 := hcs 2 _ _ rfl
    refine call_primV2 rb N consB _ W g0 ?_
    refine (prim_cons x y rb N 1 2 W g1 g2).mono ?_
    rintro e w' ⟨hk', t, v, rfl, rfl, rfl, hp, hb⟩
    refine ⟨hk', _, _, rfl, rfl, ?_, W.heap.size, hk.size, (Array.getElem?_eq_some_iff.1 hp).1, rfl, hp⟩
    have e : left - 1 - 3 = left - 4 := by omega
    have := RN.stay (hb.block rb (Nat.lt_of_lt_of_le hrb hk.size)) hR
    simpa [e] using this
def RO (rb : Nat) (left calls x y : Int) (gm : Value) (vs : List (TypeId × Value)) (W : World) : Prop :=
  match vs with
  | [] => RN rb (.slice none 0 0) (left - 1) calls gm W
  | [v0] => v0 = (114, .string outB) ∧ RN rb (.slice none 0 0) (left - 2) calls gm W
  | v0 :: v1 :: _ => v0 = (114, .string outB) ∧ RN rb (.slice none 0 0) (left - 6) calls gm W ∧ ∃ P, P ≠ rb ∧ P < W.heap.size ∧ v1 = (158, .pointer (some ⟨P, 0, none⟩)) ∧ Pr P x y W
theorem eval_outC (x y : Int) (rb cb co lb lo cap mb mo cap2 T : Nat) (gm fr : Value) (left calls : Int) (w : World)
    (hr : RN rb (.slice none 0 0) left calls gm w) (hl : 6 ≤ left) (hl9 : left ≤ 1000000) (hc : rb ≠ cb) (hlb : rb ≠ lb) (hmb : rb ≠ mb) (hlw : lb < w.heap.size) (hmw : mb < w.heap.size) (hrb : rb < w.heap.size) (hcap : 2 ≤ cap) (hcap2 : 3 ≤ cap2)
    (ht : Tab T w) (hT : T ≤ rb) (h1 : rangeN x = true) (h2 : rangeN y = true) (hl1 : (Lib.itoa x).length ≤ 100) (hl2 : (Lib.itoa y).length ≤ 100)
    (k0 : w.cell? ⟨cb, co, none⟩ = some (.int .i64 9)) (k11 : w.cell? ⟨cb, co + 11, none⟩ = some (.slice (some ⟨lb, lo, none⟩) 2 cap))
    (o0 : w.cell? ⟨lb, lo, none⟩ = some (.int .i64 6)) (o4 : w.cell? ⟨lb, lo + 4, none⟩ = some (.string outB))
    (n0 : w.cell? ⟨lb, lo + 12, none⟩ = some (.int .i64 9)) (n11 : w.cell? ⟨lb, lo + 12 + 11, none⟩ = some (.slice (some ⟨mb, mo, none⟩) 3 cap2))
    (p0 : w.cell? ⟨mb, mo, none⟩ = some (.int .i64 6)) (p4 : w.cell? ⟨mb, mo + 4, none⟩ = some (.string consB))
    (q0 : w.cell? ⟨mb, mo + 12, none⟩ = some (.int .i64 1)) (q2 : w.cell? ⟨mb, mo + 12 + 2, none⟩ = some (.int .i64 x))
    (s0 : w.cell? ⟨mb, mo + 24, none⟩ = some (.int .i64 1)) (s2 : w.cell? ⟨mb, mo + 24 + 2, none⟩ = some (.int .i64 y)) :
    Calls Tryd.prog 28 #[.pointer (some ⟨rb, 0, none⟩), .pointer (some ⟨cb, co, none⟩), fr] w (EvV rb (fun t v W => t = 158 ∧ RN1 rb (pairB x y) (left - 6) calls gm W) w) := by
  have cell : ∀ W, Keep rb w W → ∀ q, W.cell? ⟨lb, q, none⟩ = w.cell? ⟨lb, q, none⟩ := fun W hk q => hk.cell (p := ⟨lb, q, none⟩) hlw (fun e => hlb e.symm)
  have cellM : ∀ W, Keep rb w W → ∀ q, W.cell? ⟨mb, q, none⟩ = w.cell? ⟨mb, q, none⟩ := fun W hk q => hk.cell (p := ⟨mb, q, none⟩) hmw (fun e => hmb e.symm)
  refine eval_callV rb cb co lb lo 2 cap (.slice none 0 0) gm fr left calls (RO rb left calls x y gm) _ w hr (by omega) hl9 hc (by omega) hcap hrb k0 k11 ?_ (fun W hb => ?_) ?_ ?_
  · intro vs W N cs q v g1 _ h
    match vs, h with
    | [], h => exact h.set77 g1
    | [v0], h => exact ⟨h.1, h.2.set77 g1⟩
    | v0 :: v1 :: r, h =>
      obtain ⟨h1, h2, P, h3, h4, h5, h6⟩ := h
      exact ⟨h1, h2.set77 g1, P, h3, by simpa using h4, h5, h6.set77 g1⟩
  · have := (hb.block rb hrb).trans hr.step
    simpa [RO, RN] using this
  · intro vs W hj hk hR
    match vs, hj, hR with
    | [], _, hR =>
      refine (Ev.prim (fr := fr) (E := endP 6) (D := fun _ => True) hR (by omega) (by omega) hlb ((cell W hk _).trans o0) ((cell W hk _).trans o4)).mono ?_
      intro e w' h
      obtain ⟨g1, t, v, g2, rfl, rfl, g3⟩ := EvV.of h
      refine ⟨g1, _, _, g2, rfl, ?_⟩
      have e : left - 1 - 1 = left - 2 := by omega
      rw [e] at g3
      exact g3
    | [v0], _, hR =>
      refine (eval_cons x y rb lb (lo + 12) mb mo cap2 gm fr (left - 2) calls W hR.2 (by omega) (by omega) hlb hmb (Nat.lt_of_lt_of_le hmw hk.size) (Nat.lt_of_lt_of_le hrb hk.size) hcap2 ((cell W hk _).trans n0) ((cell W hk _).trans n11) ((cellM W hk _).trans p0) ((cellM W hk _).trans p4) ((cellM W hk _).trans q0) ((cellM W hk _).trans q2) ((cellM W hk _).trans s0) ((cellM W hk _).trans s2)).mono ?_
      rintro e w' ⟨g1, t, v, g2, rfl, g3, P, g4, g5, rfl, g6⟩
      refine ⟨g1, _, _, g2, hR.1, ?_, P, ?_, g5, rfl, g6⟩
      · have e : left - 2 - 4 = left - 6 := by omega
        rw [e] at g3
        exact g3
      · have := hk.size
        omega
    | _ :: _ :: _, hj, _ => simp at hj; omega
  · intro N vs W hN hNW hk hvl hR hcs
    match vs, hvl, hR, hcs with
    | [v0, v1], _, hR, hcs =>
      obtain ⟨rfl, hR2, P, hPr, hPW, rfl, hP⟩ := hR
      have g0 := hcs 0 _ _ rfl
      have g1 := hcs 1 _ _ rfl
      refine call_primV1 rb N outB _ W g0 ?_
      have hrbW : rb < W.heap.size := Nat.lt_of_lt_of_le hrb hk.size
      have htW : Tab T W := ht.below (hk.toBelow hT (by omega))
      refine (prim_out rb N 1 158 (.pointer (some ⟨P, 0, none⟩)) (pairB x y) (left - 6) calls gm W g1 hNW (by omega) ?_).mono ?_
      · refine put_val rb 3 158 (.pointer (some ⟨P, 0, none⟩)) (pairB x y) (left - 6) calls gm W hR2 hrbW (by simp [pairB]) ?_
        intro W' hb hw
        exact value_pair T _ _ P x y W' hw hb.size (htW.below (hb.mono (by omega))) (by omega) ((hb.block P hPW).trans hP) hPW h1 h2 hl1 hl2
      · rintro e w' ⟨rfl, hk', hr'⟩
        exact ⟨hk', _, _, rfl, rfl, hr'⟩
end
section
set_option linter.unusedVariables false
set_option linter.unusedSimpArgs false
open Go.RowKit

set_option maxRecDepth 100000 in
set_option maxHeartbeats 3200000 in
theorem run_oneV (rb pb po pcap cb co ccap : Nat) (nm : ByteArray) (R : World → Prop) (w : World)
    (hrb : rb < w.heap.size) (k0 : w.cell? ⟨pb, po, none⟩ = some (.string nm)) (k1 : w.cell? ⟨pb, po + 1, none⟩ = some (.slice (some ⟨cb, co, none⟩) 1 ccap)) (hpb : pb < w.heap.size)
    (hst : ∀ (N : Nat) (y z : Int) (W : World), W.cell? ⟨N, 0, none⟩ = some (.int .i64 y) → N ≠ rb → R W → R (W.setCell ⟨N, 0, none⟩ (.int .i64 z)))
    (EV : ∀ (W : World) (fr : Value), Below w.heap.size w W → Calls Tryd.prog 28 #[.pointer (some ⟨rb, 0, none⟩), .pointer (some ⟨cb, co, none⟩), fr] W (EvV rb (fun _ _ => R) W)) :
    Calls Tryd.prog 21 #[.pointer (some ⟨rb, 0, none⟩), .slice (some ⟨pb, po, none⟩) 1 pcap] w fun e w' => e = .returned (.int .i64 1) ∧ Keep rb w w' ∧ R w' := by
  have hmf : ∀ (fn : Fn) (first cap : Array Value) (w : World), (Instr.makeFunc fn first cap).run Tryd.prog w = .ok (.func fn first cap) w := fun _ _ _ _ => rfl
  have HEV := hidd EV
  have HST := hidd hst
  clear EV hst
  have BB : Hid (Below w.heap.size w (((w.alloc (.cells #[.int .i64 0] 3)).alloc (.cells #[.string nm, .slice (some ⟨cb, co, none⟩) 1 ccap] 39)).alloc (.cells #[.slice none 0 0, .int .i64 0, .int .i64 0, .pointer none, .pointer none] 83))) := (((Below.refl _ _).alloc (Nat.le_refl _) _).alloc (by simp) _).alloc (by simp; omega) _
  have H0 : Hid ((((w.alloc (.cells #[.int .i64 0] 3)).alloc (.cells #[.string nm, .slice (some ⟨cb, co, none⟩) 1 ccap] 39)).alloc (.cells #[.slice none 0 0, .int .i64 0, .int .i64 0, .pointer none, .pointer none] 83)).cell? ⟨w.heap.size, 0, none⟩ = some (.int .i64 0) ∧ (((w.alloc (.cells #[.int .i64 0] 3)).alloc (.cells #[.string nm, .slice (some ⟨cb, co, none⟩) 1 ccap] 39)).alloc (.cells #[.slice none 0 0, .int .i64 0, .int .i64 0, .pointer none, .pointer none] 83)).frozen? ⟨w.heap.size, 0, none⟩ = false ∧ w.heap.size < (((w.alloc (.cells #[.int .i64 0] 3)).alloc (.cells #[.string nm, .slice (some ⟨cb, co, none⟩) 1 ccap] 39)).alloc (.cells #[.slice none 0 0, .int .i64 0, .int .i64 0, .pointer none, .pointer none] 83)).heap.size) := ⟨by simp [go_sem], by simp [go_sem], by simp; omega⟩
  have HE := hidd (HEV.out (((w.alloc (.cells #[.int .i64 0] 3)).alloc (.cells #[.string nm, .slice (some ⟨cb, co, none⟩) 1 ccap] 39)).alloc (.cells #[.slice none 0 0, .int .i64 0, .int .i64 0, .pointer none, .pointer none] 83)) (.pointer (some ⟨w.heap.size + 1 + 1, 0, none⟩)) BB.out)
  go_enter_defers Tryd.func21, Tryd.ntmps21
  go_wp2_with fail
  refine wp_loop_rounds 2 ?_
  rw [rounds_succ]
  go_wp2_with fail
  refine wp_loop_rounds 2 ?_
  rw [rounds_succ]
  go_wp2_with fail
  refine HE.out.mono ?_
  rintro e w3 ⟨hk3, t, x, rfl, hR⟩
  have hk : Keep rb w w3 := ((Keep.refl rb w).below BB.out).trans hk3
  have hN3 : w.heap.size < w3.heap.size := Nat.lt_of_lt_of_le H0.out.2.2 hk3.size
  have g0 : w3.cell? ⟨w.heap.size, 0, none⟩ = some (.int .i64 0) := (hk3.cell (p := ⟨w.heap.size, 0, none⟩) H0.out.2.2 (by simp; omega)).trans H0.out.1
  have y0 : w3.frozen? ⟨w.heap.size, 0, none⟩ = false := (hk3.frozen (p := ⟨w.heap.size, 0, none⟩) H0.out.2.2 (by simp; omega)).trans H0.out.2.1
  have HK := hidd hk
  clear hk3 BB H0 HE HEV k0 k1
  have HR := hidd (HST.out w.heap.size 0 1 w3 g0 (by omega) hR)
  clear HST hR
  go_wp2_with fail
  rw [rounds_succ]
  go_wp2_with fail
  rw [rounds_succ]
  go_wp2_with fail
  refine leaves_cons (f := 26) (args := #[.pointer (some ⟨w.heap.size, 0, none⟩)]) (by simp) (by simp [go_sem]) ?_
  refine (catch_idle _ _).mono ?_
  rintro e u' w4 ⟨rfl, rfl, rfl⟩
  have hkk := HK.out.setNew ⟨w.heap.size, 0, none⟩ (Nat.le_refl _) (.int .i64 1)
  simp [Leaves, settle, results, Tryd.results21, go_sem, g0, hkk, HR.out]
set_option maxRecDepth 100000 in
set_option maxHeartbeats 3200000 in
theorem Run_st (pb : Nat) (how st : Int) (hs0 : 0 ≤ st) (hs9 : st ≤ 1000000) (P : Option Addr → Nat → Nat → World → Prop) (w : World)
    (hP : ∀ a n c N q y v W, W.cell? ⟨N, 0, none⟩ = some (.int .i64 y) → P a n c W → P a n c (W.setCell ⟨N, q, none⟩ v))
    (HW : ∀ W, Below w.heap.size w W → Calls Tryd.prog 10 #[.slice (some ⟨pb, 0, none⟩) 1 1] W fun e w' => e = .returned (fv (0, 0)) ∧ Below W.heap.size W w')
    (HR : ∀ rb gm W, Below w.heap.size w W → w.heap.size ≤ rb → rb < W.heap.size → RN rb (.slice none 0 0) st 0 gm W → Calls Tryd.prog 21 #[.pointer (some ⟨rb, 0, none⟩), .slice (some ⟨pb, 0, none⟩) 1 1] W fun e w' => e = .returned (.int .i64 how) ∧ Keep rb W w' ∧ ∃ a n c left calls, RN rb (.slice a n c) left calls gm w' ∧ P a n c w') :
    Calls Tryd.prog 8 #[.slice (some ⟨pb, 0, none⟩) 1 1, .int .i64 st] w fun e w' => Below w.heap.size w w' ∧ ∃ a n c, e = .returned (.tuple #[.agg #[.int .i64 how, .slice a n c], fv (0, 0)]) ∧ P a n c w' := by
  have HWH := hidd HW
  have HRH := hidd HR
  clear HW HR
  have HPP := hidd hP
  clear hP
  have hg1 : decide (st < 0) = false := by simp; omega
  have hg2 : decide (st > 1000000) = false := by simp; omega
  have hg3 : decide (1000000 < st) = false := by simp; omega
  clear hs0 hs9
  have hmm := @run_makeMap Tryd.prog
  unfold fv at *
  go_enter Tryd.func8, Tryd.ntmps8
  go_wp2_with fail
  refine (HWH.out _ (((Below.refl _ _).alloc (Nat.le_refl _) _).alloc (by simp) _)).mono ?_
  rintro e w1 ⟨rfl, hb1⟩
  obtain ⟨W0, hW0⟩ : ∃ W0, W0 = (w.alloc (.cells #[.int .i64 0, .slice none 0 0] 25)).alloc (.cells #[.int .i64 0, .int .i64 0] 28) := ⟨_, rfl⟩
  have hbW0 : Below w.heap.size w W0 := by rw [hW0]; exact ((Below.refl _ _).alloc (Nat.le_refl _) _).alloc (by simp) _
  have hs0 : W0.heap.size = w.heap.size + 2 := by rw [hW0]; simp
  have a0 : W0.heap[w.heap.size]? = some (.cells #[.int .i64 0, .slice none 0 0] 25 (0, 0)) := by rw [hW0, Below.heap_alloc _ _ _ (alloc_lt _ _)]; exact World.alloc_heap_new w _
  have a1 : W0.heap[w.heap.size + 1]? = some (.cells #[.int .i64 0, .int .i64 0] 28 (0, 0)) := by
    rw [hW0]
    have := World.alloc_heap_new (w.alloc (.cells #[.int .i64 0, .slice none 0 0] 25)) (.cells #[.int .i64 0, .int .i64 0] 28)
    simpa using this
  rw [← hW0] at hb1
  clear hW0
  have BW : Hid (Below W0.heap.size W0 (((w1.alloc (.cells #[.int .i64 0, .int .i64 0] 28)).alloc (.map #[] 0)).alloc (.cells #[.slice none 0 0, .int .i64 st, .int .i64 0, .map (some (w1.heap.size + 1))] 59))) := ((hb1.alloc hb1.size _).alloc (by have := hb1.size; simp; omega) _).alloc (by have := hb1.size; simp; omega) _
  have hs1 := hb1.size
  have SZ : Hid ((((w1.alloc (.cells #[.int .i64 0, .int .i64 0] 28)).alloc (.map #[] 0)).alloc (.cells #[.slice none 0 0, .int .i64 st, .int .i64 0, .map (some (w1.heap.size + 1))] 59)).heap.size = w1.heap.size + 3) := by show _ = _; simp
  have RW : Hid (RN (w1.heap.size + 1 + 1) (.slice none 0 0) st 0 (.map (some (w1.heap.size + 1))) (((w1.alloc (.cells #[.int .i64 0, .int .i64 0] 28)).alloc (.map #[] 0)).alloc (.cells #[.slice none 0 0, .int .i64 st, .int .i64 0, .map (some (w1.heap.size + 1))] 59))) := by
    have := World.alloc_heap_new ((w1.alloc (.cells #[.int .i64 0, .int .i64 0] 28)).alloc (.map #[] 0)) (.cells #[.slice none 0 0, .int .i64 st, .int .i64 0, .map (some (w1.heap.size + 1))] 59)
    simpa [RN, Hid] using this
  have HRR := hidd (HRH.out (w1.heap.size + 1 + 1) (.map (some (w1.heap.size + 1))) _ (hbW0.trans (BW.out.mono (by omega))) (by omega) (by rw [SZ.out]; omega) RW.out)
  clear HRH RW hb1 HWH
  go_wp2_with fail
  refine HRR.out.mono ?_
  rintro e w3 ⟨rfl, hk3, a, n, c, left, calls, hr3, hp3⟩
  have hA : w3.heap[w.heap.size]? = some (.cells #[.int .i64 0, .slice none 0 0] 25 (0, 0)) := (hk3.block _ (by rw [SZ.out]; omega) (by simp; omega)).trans ((BW.out.block _ (by omega)).trans a0)
  have hA1 : w3.heap[w.heap.size + 1]? = some (.cells #[.int .i64 0, .int .i64 0] 28 (0, 0)) := (hk3.block _ (by rw [SZ.out]; omega) (by simp; omega)).trans ((BW.out.block _ (by omega)).trans a1)
  have BF : Hid (Below w.heap.size w w3) := (hbW0.trans (BW.out.mono (by omega))).trans (hk3.toBelow (by omega) (by rw [SZ.out]; omega))
  have c0 : w3.cell? ⟨w.heap.size, 0, none⟩ = some (.int .i64 0) := (cellO hA).trans rfl
  have c1 : w3.cell? ⟨w.heap.size, 1, none⟩ = some (.slice none 0 0) := (cellO hA).trans rfl
  have d0 : w3.cell? ⟨w.heap.size + 1, 0, none⟩ = some (.int .i64 0) := (cellO hA1).trans rfl
  have d1 : w3.cell? ⟨w.heap.size + 1, 1, none⟩ = some (.int .i64 0) := (cellO hA1).trans rfl
  have f0 : w3.frozen? ⟨w.heap.size, 0, none⟩ = false := looseO hA
  have f1 : w3.frozen? ⟨w.heap.size, 1, none⟩ = false := looseO hA
  have g0 : w3.frozen? ⟨w.heap.size + 1, 0, none⟩ = false := looseO hA1
  have g1 : w3.frozen? ⟨w.heap.size + 1, 1, none⟩ = false := looseO hA1
  have r0 : w3.cell? ⟨w1.heap.size + 1 + 1, 0, none⟩ = some (.slice a n c) := (cellO hr3).trans rfl
  have PF := hidd hp3
  clear hk3 hA hA1 hr3 hp3 a0 a1 BW HRR hbW0
  go_wp2_with fail
  have PX : Hid (P a n c ((((w3.setCell ⟨w.heap.size, 0, none⟩ (.int .i64 how)).setCell ⟨w.heap.size, 1, none⟩ (.slice a n c)).setCell ⟨w.heap.size + 1, 0, none⟩ (.int .i64 0)).setCell ⟨w.heap.size + 1, 1, none⟩ (.int .i64 0))) := by
    refine HPP.out _ _ _ _ _ 0 _ _ (by simp [go_sem, c0, d0, d1]) (HPP.out _ _ _ _ _ 0 _ _ (by simp [go_sem, c0, d0, d1]) (HPP.out _ _ _ _ _ how _ _ (by simp [go_sem, c0, d0, d1]) (HPP.out _ _ _ _ _ 0 _ _ c0 PF.out)))
  refine bodyPost_ret (v := .tuple #[.agg #[.int .i64 how, .slice a n c], .agg #[.int .i64 0, .int .i64 0]]) (by simp [results, Tryd.results8, go_sem, c0, c1, d0, d1]) rfl ⟨?_, a, n, c, rfl, PX.out⟩
  exact (((BF.out.setCell (p := ⟨w.heap.size, 0, none⟩) (Nat.le_refl _) _).setCell (p := ⟨w.heap.size, 1, none⟩) (Nat.le_refl _) _).setCell (p := ⟨w.heap.size + 1, 0, none⟩) (Nat.le_succ _) _).setCell (p := ⟨w.heap.size + 1, 1, none⟩) (Nat.le_succ _) _
end
end Go.Proofs.YthooljlikllnpaaDoor
