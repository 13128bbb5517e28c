/- Chapter 7: frames: where a parameter is kept; a frame more. -/
import Derived.Test.YthooljlikllnpaaDoorK34
import Derived.Test.YthooljlikllnpaaDoorK31
import Derived.BigQuiet
namespace Go.Proofs.YthooljlikllnpaaDoor
set_option linter.unusedVariables false
set_option linter.unusedSimpArgs false
open Go.RowKit

/-- The cells of a frame. -/
theorem Fr.cells {w : World} {m : Mm} {rows : List (List Val)} {fp : Nat} {e : List Nat} (h : Fr w m rows fp e) : ∃ pv ar far, w.heap[fp]? = some (.cells #[pv, .int .i64 ((cnt rows e : Nat) : Int), .int .i64 ((e.length : Nat) : Int), ar, far] 83 (0, 0)) := by
  cases h with
  | root fp h => exact ⟨_, _, _, h⟩
  | step fp ar far r e e' h1 h2 h3 h4 h5 h6 => exact ⟨_, _, _, h3⟩
theorem Fr.lt {w : World} {m : Mm} {rows : List (List Val)} {fp : Nat} {e : List Nat} (h : Fr w m rows fp e) : fp < w.heap.size := by
  obtain ⟨_, _, _, h⟩ := h.cells
  exact (Array.getElem?_eq_some_iff.1 h).1
theorem Fr.len {w : World} {m : Mm} {rows : List (List Val)} {fp : Nat} {e : List Nat} (h : Fr w m rows fp e) : e.length ≤ cnt rows e ∧ ∀ r ∈ e, r < rows.length := by
  induction h with
  | root fp h => exact ⟨Nat.zero_le _, fun r hr => by simp at hr⟩
  | step fp ar far r e e' h1 h2 h3 h4 h5 h6 i1 i2 =>
    refine ⟨by show e.length + 1 ≤ (rows.getD r []).length + cnt rows e; have := h1.2; have := i1.1; omega, fun x hx => ?_⟩
    rcases List.mem_cons.1 hx with rfl | hx
    · exact h1.1
    · exact i1.2 x hx
theorem cnt_app (rows : List (List Val)) : ∀ (t e : List Nat), cnt rows (t ++ e) = cnt rows t + cnt rows e
  | [], e => by simp [cnt]
  | r :: t, e => by rw [List.cons_append, cnt, cnt, cnt_app rows t e]; omega
theorem Fr.stay {w w' : World} {m : Mm} {rows : List (List Val)} {fp : Nat} {e : List Nat} (h : Fr w m rows fp e) (hb : Below w.heap.size w w') : Fr w' m rows fp e := h.kept (Kd.ofBelow hb)
set_option maxRecDepth 100000 in
set_option maxHeartbeats 1600000 in
theorem leap_any (m : Mm) (rows : List (List Val)) (fp : Nat) (e : List Nat) (w : World) (h : Fr w m rows fp e) (hl : e.length ≤ 600000) :
    Calls Tryd.prog 75 #[.pointer (some ⟨fp, 0, none⟩)] w fun q w' => ∃ g e', q = .returned (.pointer (some ⟨g, 0, none⟩)) ∧ Fr w m rows g e' ∧ (∃ t, e = t ++ e') ∧ Below w.heap.size w w' := by
  cases h with
  | root fp h =>
    refine (leap_root fp w h).mono ?_
    rintro q w' ⟨rfl, rfl⟩
    exact ⟨fp, [], rfl, .root fp h, ⟨[], rfl⟩, Below.refl _ _⟩
  | step fp ar far r e e' h1 h2 h3 h4 h5 h6 =>
    have HF : Hid (Fr w m rows fp (r :: e)) := .step fp ar far r e e' h1 h2 h3 h4 h5 h6
    have c2 : w.cell? ⟨fp, 2, none⟩ = some (.int .i64 ((e.length + 1 : Nat) : Int)) := (cellO h3).trans rfl
    have c4 : w.cell? ⟨fp, 4, none⟩ = some (.pointer (some ⟨far, 0, none⟩)) := (cellO h3).trans rfl
    have z1 : (((e.length + 1 : Nat) : Int) == 0) = false := by simp; omega
    have hl1 : e.length + 1 ≤ 600000 := by simpa using hl
    cases h5 with
    | root far h5 =>
      have d2 : w.cell? ⟨far, 2, none⟩ = some (.int .i64 0) := (cellO h5).trans rfl
      clear h3 h4 h5 h1 h2 h6
      generalize e.length + 1 = n at *
      go_enter Tryd.func75, Tryd.ntmps75
      go_wp2_with fail
      go_ret
      exact ⟨fp, r :: e, rfl, HF.out, ⟨[], rfl⟩, Below.refl _ _⟩
    | step far ar2 far2 r2 e2 e3 g1 g2 g3 g4 g5 g6 =>
      have d2 : w.cell? ⟨far, 2, none⟩ = some (.int .i64 ((e2.length + 1 : Nat) : Int)) := (cellO g3).trans rfl
      have d4 : w.cell? ⟨far, 4, none⟩ = some (.pointer (some ⟨far2, 0, none⟩)) := (cellO g3).trans rfl
      obtain ⟨pv, a3, f3, gc⟩ := g5.cells
      have k2 : w.cell? ⟨far2, 2, none⟩ = some (.int .i64 ((e3.length : Nat) : Int)) := (cellO gc).trans rfl
      have z2 : (((e2.length + 1 : Nat) : Int) == 0) = false := by simp; omega
      obtain ⟨t6, h6⟩ := h6
      obtain ⟨u6, g6⟩ := g6
      have hl2 : e2.length + 1 ≤ 600000 := by rw [h6] at hl1; simp at hl1; omega
      have hl3 : e3.length ≤ 600000 := by rw [g6] at hl2; simp at hl2; omega
      have HG : Hid (Fr w m rows far2 e3 ∧ ∃ t, r :: e = t ++ e3) := ⟨g5, r :: t6 ++ r2 :: u6, by rw [h6, g6]; simp⟩
      clear h3 h4 h1 h2 h6 g1 g2 g3 g4 g5 g6 gc hl
      generalize e.length + 1 = n at *
      generalize e2.length + 1 = n2 at *
      generalize e3.length = n3 at *
      have f1 : (0 : Int) ≤ n ∧ (n : Int) ≤ 600000 ∧ (0 : Int) ≤ n2 ∧ (n2 : Int) ≤ 600000 ∧ (0 : Int) ≤ n3 ∧ (n3 : Int) ≤ 600000 := by omega
      generalize ((n : Nat) : Int) = i1 at *
      generalize ((n2 : Nat) : Int) = i2 at *
      generalize ((n3 : Nat) : Int) = i3 at *
      obtain ⟨f1a, f1b, f2a, f2b, f3a, f3b⟩ := f1
      clear hl1 hl2 hl3
      cases hb : (i1 - i2 == i2 - i3) with
      | true =>
        go_enter Tryd.func75, Tryd.ntmps75
        go_wp2_with fail
        go_quiet (fail)
        go_wp2_with fail
        go_ret
        exact ⟨far2, e3, rfl, HG.out.1, HG.out.2, below_drewN (Below.refl _ _) _⟩
      | false =>
        go_enter Tryd.func75, Tryd.ntmps75
        go_wp2_with fail
        go_quiet (fail)
        go_wp2_with fail
        go_ret
        exact ⟨fp, r :: e, rfl, HF.out, ⟨[], rfl⟩, below_drewN (Below.refl _ _) _⟩
/-- A frame more. -/
theorem With_none (fb : Nat) (a : Option Addr) (c : Nat) (w : World) : Calls Tryd.prog 60 #[.pointer (some ⟨fb, 0, none⟩), .slice a 0 c] w fun e w' => e = .returned (.pointer (some ⟨fb, 0, none⟩)) ∧ w' = w := by
  go_enter Tryd.func60, Tryd.ntmps60
  go_wp2_with fail
  go_ret
  exact ⟨rfl, rfl⟩
set_option maxRecDepth 100000 in
set_option maxHeartbeats 3200000 in
theorem With_raw (fp N k : Nat) (ci di : Int) (Q : Nat → World → Prop) (w : World) (c1 : w.cell? ⟨fp, 1, none⟩ = some (.int .i64 ci)) (c2 : w.cell? ⟨fp, 2, none⟩ = some (.int .i64 di)) (h1 : 0 ≤ ci) (h2 : ci ≤ 600000) (h3 : 0 ≤ di) (h4 : di ≤ 600000) (hk : 0 < k) (hk9 : k ≤ 600000)
    (HLL : ∀ W, Below w.heap.size w W → Calls Tryd.prog 75 #[.pointer (some ⟨fp, 0, none⟩)] W fun q w' => ∃ g, q = .returned (.pointer (some ⟨g, 0, none⟩)) ∧ Q g w' ∧ Below W.heap.size W w') :
    Calls Tryd.prog 60 #[.pointer (some ⟨fp, 0, none⟩), .slice (some ⟨N, 1, none⟩) k k] w fun q w' => ∃ far w2, q = .returned (.pointer (some ⟨w2.heap.size, 0, none⟩)) ∧ Q far w2 ∧ Below w.heap.size w w2 ∧ w' = w2.alloc (.cells #[.slice (some ⟨N, 1, none⟩) k k, .int .i64 (ci + k), .int .i64 (di + 1), .pointer (some ⟨fp, 0, none⟩), .pointer (some ⟨far, 0, none⟩)] 83) := by
  have HL := hidd HLL
  have hfp : fp < w.heap.size := cell_lt c1
  have HC : Hid (∀ W, Below w.heap.size w W → W.cell? ⟨fp, 1, none⟩ = some (.int .i64 ci) ∧ W.cell? ⟨fp, 2, none⟩ = some (.int .i64 di)) := fun W hb => ⟨(hb.cell (p := ⟨fp, 1, none⟩) hfp).trans c1, (hb.cell (p := ⟨fp, 2, none⟩) hfp).trans c2⟩
  have hd : ((k : Int) == 0) = false := by simp; omega
  have hd' : ¬ ((k : Int) = 0) := by omega
  have hk0 : (0 : Int) < k := by omega
  have hk1 : (k : Int) ≤ 600000 := by omega
  clear HLL hfp hk hk9
  go_enter Tryd.func60, Tryd.ntmps60
  go_wp2_with fail
  go_region_with (go_at_call 75; refine (HL.out _ (Below.drew (Below.refl _ _))).mono ?_; rintro e w2 ⟨g, rfl, hQ2, hb2⟩; have HB2 : Hid (Below w.heap.size w w2) := (Below.drew (Below.refl _ _)).trans hb2; have HQ2 := hidd hQ2; obtain ⟨d1, d2⟩ := HC.out w2 HB2.out; clear hQ2 hb2)
  all_goals
    go_wp2_with fail
    go_ret
    exact ⟨g, w2, rfl, HQ2.out, HB2.out, by rw [IntWalk.i64_in (ci + k) (by omega), IntWalk.i64_in (di + 1) (by omega)]⟩
theorem With_any (m : Mm) (rows : List (List Val)) (fp : Nat) (e : List Nat) (N k : Nat) (w : World) (h : Fr w m rows fp e) (hc : k + cnt rows e ≤ 600000) (hk : 0 < k) :
    Calls Tryd.prog 60 #[.pointer (some ⟨fp, 0, none⟩), .slice (some ⟨N, 1, none⟩) k k] w fun q w' => ∃ g far e', q = .returned (.pointer (some ⟨g, 0, none⟩)) ∧ Fr w' m rows fp e ∧ Fr w' m rows far e' ∧ (∃ t, e = t ++ e') ∧ Below w.heap.size w w' ∧ w.heap.size ≤ g ∧ w'.heap[g]? = some (.cells #[.slice (some ⟨N, 1, none⟩) k k, .int .i64 ((k + cnt rows e : Nat) : Int), .int .i64 ((e.length + 1 : Nat) : Int), .pointer (some ⟨fp, 0, none⟩), .pointer (some ⟨far, 0, none⟩)] 83 (0, 0)) := by
  obtain ⟨pv, a0, f0, hcell⟩ := h.cells
  have hlen := h.len.1
  refine (With_raw fp N k ((cnt rows e : Nat) : Int) ((e.length : Nat) : Int) (fun g W => ∃ e', Fr W m rows g e' ∧ ∃ t, e = t ++ e') w ((cellO hcell).trans rfl) ((cellO hcell).trans rfl) (by omega) (by omega) (by omega) (by omega) hk (by omega) ?_).mono ?_
  · intro W hb
    refine (leap_any m rows fp e W (h.stay hb) (by omega)).mono ?_
    rintro q w' ⟨g, e', rfl, h2, h3, h4⟩
    exact ⟨g, rfl, ⟨e', h2.stay h4, h3⟩, h4⟩
  · rintro q w' ⟨far, w2, rfl, ⟨e', hf, ht⟩, hb, rfl⟩
    have hba : Below w2.heap.size w2 (w2.alloc (.cells #[.slice (some ⟨N, 1, none⟩) k k, .int .i64 (((cnt rows e : Nat) : Int) + k), .int .i64 (((e.length : Nat) : Int) + 1), .pointer (some ⟨fp, 0, none⟩), .pointer (some ⟨far, 0, none⟩)] 83)) := (Below.refl _ _).alloc (Nat.le_refl _) _
    refine ⟨w2.heap.size, far, e', rfl, h.stay (hb.trans (hba.mono hb.size)), hf.stay hba, ht, hb.trans (hba.mono hb.size), hb.size, ?_⟩
    rw [World.alloc_heap_new]
    have e1 : ((cnt rows e : Nat) : Int) + k = ((k + cnt rows e : Nat) : Int) := by omega
    have e2 : ((e.length : Nat) : Int) + 1 = ((e.length + 1 : Nat) : Int) := by omega
    rw [e1, e2]
theorem spots_len (rows : List (List Val)) : ∀ (e : List Nat), (spotsF rows e).length = cnt rows e
  | [] => rfl
  | r :: e => by rw [spotsF, cnt, List.length_append, spots_len rows e]; simp
theorem spots_app (rows : List (List Val)) : ∀ (t e : List Nat), spotsF rows (t ++ e) = spotsF rows t ++ spotsF rows e
  | [], e => by simp [spotsF]
  | r :: t, e => by rw [List.cons_append, spotsF, spotsF, spots_app rows t e, List.append_assoc]
/-- The spot of a parameter, from the furthest on. -/
theorem spots_back (rows : List (List Val)) (t e : List Nat) (p : Nat) (hp : p < cnt rows e) : (spotsF rows (t ++ e)).reverse[p]? = (spotsF rows e).reverse[p]? := by
  rw [spots_app, List.reverse_append, List.getElem?_append_left (by rw [List.length_reverse, spots_len]; exact hp)]
theorem spots_here (rows : List (List Val)) (r : Nat) (e : List Nat) (p : Nat) (hp : p < cnt rows (r :: e)) (hq : cnt rows e ≤ p) : (spotsF rows (r :: e)).reverse[p]? = some (r, p - cnt rows e) := by
  rw [cnt] at hp
  rw [spotsF, List.reverse_append, List.getElem?_append_right (by rw [List.length_reverse, spots_len]; exact hq), List.length_reverse, spots_len, ← List.map_reverse, List.reverse_reverse, List.getElem?_map, List.getElem?_range (by omega)]
  rfl
/-- A frame's count, as it is read. -/
def cntAt (v : Value) (w : World) : Nat := match v with
  | .pointer (some a) => match w.cell? ⟨a.block, 1, none⟩ with
    | some (.int _ n) => n.toNat
    | _ => 0
  | _ => 0
theorem cntAt_of {w : World} {m : Mm} {rows : List (List Val)} {fp : Nat} {e : List Nat} (h : Fr w m rows fp e) : cntAt (.pointer (some ⟨fp, 0, none⟩)) w = cnt rows e := by
  obtain ⟨pv, a, f, hc⟩ := h.cells
  have : w.cell? ⟨fp, 1, none⟩ = some (.int .i64 ((cnt rows e : Nat) : Int)) := (cellO hc).trans rfl
  simp [cntAt, this]
set_option maxRecDepth 100000 in
set_option maxHeartbeats 3200000 in
/-- Where a parameter is kept. -/
theorem At_any (m : Mm) (rows : List (List Val)) (fp : Nat) (e : List Nat) (i : Nat) (w : World) (h : Fr w m rows fp e) (hc : cnt rows e ≤ 600000) (hi : i < cnt rows e) :
    Calls Tryd.prog 41 #[.pointer (some ⟨fp, 0, none⟩), .int .i64 (i : Int)] w fun q w' => ∃ r s, (spotsF rows e)[i]? = some (r, s) ∧ q = .returned (.pointer (some ⟨m.rw.getD r 0, 1 + s, none⟩)) ∧ Below w.heap.size w w' := by
  obtain ⟨pv0, a0, f0, hcell⟩ := h.cells
  have c1 : w.cell? ⟨fp, 1, none⟩ = some (.int .i64 ((cnt rows e : Nat) : Int)) := (cellO hcell).trans rfl
  obtain ⟨p, hp⟩ : ∃ p, p = cnt rows e - 1 - i := ⟨_, rfl⟩
  have hpc : p < cnt rows e := by omega
  have HS : Hid ((spotsF rows e)[i]? = (spotsF rows e).reverse[p]?) := by
    show _ = _
    rw [List.getElem?_reverse (by rw [spots_len]; exact hpc), spots_len, hp]
    congr 1
    omega
  have HF := hidd h
  have hC : Hid (cnt rows e ≤ 600000) := hc
  have hpi : ((cnt rows e : Nat) : Int) - 1 - i = (p : Int) := by omega
  have HPC := hidd hpc
  have b1 : (0 : Int) ≤ ((cnt rows e : Nat) : Int) ∧ ((cnt rows e : Nat) : Int) ≤ 600000 := by omega
  obtain ⟨b1, b2⟩ := b1
  have b3 : (0 : Int) ≤ (i : Int) ∧ (i : Int) ≤ 600000 := by omega
  obtain ⟨b3, b4⟩ := b3
  have hp9 : p ≤ 600000 := by omega
  clear h hcell hp hpc hi hc
  go_enter Tryd.func41, Tryd.ntmps41
  go_wp2_with fail
  go_loopw [0] (fun fv wr => ∃ (g : Nat) (e1 t : List Nat), fv = .pointer (some ⟨g, 0, none⟩) ∧ Fr w m rows g e1 ∧ e = t ++ e1 ∧ p < cnt rows e1 ∧ wr = w) (fun fv wr => cntAt fv wr)
  case atStart => exact ⟨fp, e, [], rfl, HF.out, rfl, HPC.out, rfl⟩
  case round =>
    obtain ⟨g, e1, t, rfl, hf, he, hp1, rfl⟩ := hrel
    have HFF := hidd hf
    cases hf with
    | root g hf => exact absurd hp1 (by simp [cnt])
    | step g ar far r e2 e3 g1 g2 g3 g4 g5 g6 =>
      obtain ⟨pa, aa, fa, ga⟩ := g4.cells
      obtain ⟨pf, af, ff, gf⟩ := g5.cells
      have d0 : wr.cell? ⟨g, 0, none⟩ = some (.slice (some ⟨m.rw.getD r 0, 1, none⟩) (rows.getD r []).length (rows.getD r []).length) := (cellO g3).trans rfl
      have d3 : wr.cell? ⟨g, 3, none⟩ = some (.pointer (some ⟨ar, 0, none⟩)) := (cellO g3).trans rfl
      have d4 : wr.cell? ⟨g, 4, none⟩ = some (.pointer (some ⟨far, 0, none⟩)) := (cellO g3).trans rfl
      have k1 : wr.cell? ⟨ar, 1, none⟩ = some (.int .i64 ((cnt rows e2 : Nat) : Int)) := (cellO ga).trans rfl
      have l1 : wr.cell? ⟨far, 1, none⟩ = some (.int .i64 ((cnt rows e3 : Nat) : Int)) := (cellO gf).trans rfl
      have HX : Hid (Fr wr m rows ar e2 ∧ Fr wr m rows far e3 ∧ ∃ u, e2 = u ++ e3) := ⟨g4, g5, g6⟩
      have HG1 := hidd g1
      have HE := hidd he
      have HP1 := hidd hp1
      have hle : cnt rows e2 < cnt rows (r :: e2) := by rw [cnt]; have := g1.2; omega
      have HLE := hidd hle
      have hle3 : cnt rows e3 ≤ cnt rows e2 := by obtain ⟨u, hu⟩ := g6; rw [hu, cnt_app]; omega
      have HLE3 := hidd hle3
      have hr9 : p < (rows.getD r []).length + cnt rows e2 := hp1
      clear g1 g2 g3 g4 g5 g6 ga gf he hp1 hle hle3 HF
      generalize hN2 : cnt rows e2 = n2 at *
      generalize hN3 : cnt rows e3 = n3 at *
      generalize hK : (rows.getD r []).length = kk at *
      by_cases q1 : p < n2
      · have x1 : decide ((p : Int) < (n2 : Int)) = true := by simp; omega
        have x1' : (p : Int) < (n2 : Int) := by omega
        by_cases q2 : p < n3
        · have x2 : decide ((p : Int) < (n3 : Int)) = true := by simp; omega
          have x2' : (p : Int) < (n3 : Int) := by omega
          go_wp2_with fail
          go_roundw
          case rel =>
            obtain ⟨u, hu⟩ := HX.out.2.2
            exact ⟨far, e3, t ++ r :: u, rfl, HX.out.2.1, by rw [HE.out, hu]; simp, by rw [hN3]; exact q2, trivial⟩
          case measure =>
            rw [cntAt_of HX.out.2.1, cntAt_of HFF.out, hN3]
            have := HLE.out
            have := HLE3.out
            omega
        · have x2 : decide ((p : Int) < (n3 : Int)) = false := by simp; omega
          have x2' : ¬ (p : Int) < (n3 : Int) := by omega
          go_wp2_with fail
          go_roundw
          case rel =>
            exact ⟨ar, e2, t ++ [r], rfl, HX.out.1, by rw [HE.out]; simp, by rw [hN2]; exact q1, trivial⟩
          case measure =>
            rw [cntAt_of HX.out.1, cntAt_of HFF.out, hN2]
            exact HLE.out
      · have x1 : decide ((p : Int) < (n2 : Int)) = false := by simp; omega
        have x1' : ¬ (p : Int) < (n2 : Int) := by omega
        have y1 : (0 : Int) ≤ (p : Int) - (n2 : Int) := by omega
        have y2 : (p : Int) - (n2 : Int) < (kk : Int) := by omega
        have HSP : Hid ((spotsF rows e)[i]? = some (r, p - n2)) := by
          show _ = _
          rw [HS.out, HE.out, spots_back rows t (r :: e2) p HP1.out, spots_here rows r e2 p HP1.out (by rw [hN2]; omega), hN2]
        have y3 : (p : Int) - (n2 : Int) = ((p - n2 : Nat) : Int) := by omega
        have y4 : p - n2 < kk := by omega
        generalize p - n2 = s at *
        go_wp2_with fail
        go_quiet (fail)
        go_wp2_with fail
        go_ret
        exact ⟨r, s, HSP.out, rfl, below_drewN (Below.refl _ _) _⟩
end Go.Proofs.YthooljlikllnpaaDoor
