/- Chapter 11: frames Chapter 11: a parameter is set, a procedure more, a row of parameters more -/
import Derived.BigQuiet
import Derived.Test.YthikdpclifeonaaGreatDoorK29
import Derived.Test.YthikdpclifeonaaGreatDoorK30
import Derived.Test.YthikdpclifeonaaGreatDoorK33
namespace Go.Proofs.YthikdpclifeonaaGreatDoor.V
section
set_option linter.unusedVariables false
set_option linter.unusedSimpArgs false
open Go.RowKit
open Go.Proofs.YthikdpclifeonaaGreatDoor

/-- The cells of a frame. -/
theorem Fr.cells {w : World} {m : Mm} {rows : List (List Val)} {fp : Nat} {e : List Nat} (h : Fr w m rows fp e) : ∃ pv ar far, w.heap[fp]? = some (.cells #[pv, .int .i64 ((cnt rows e : Nat) : Int), .int .i64 ((e.length : Nat) : Int), ar, far] 114 (0, 0)) := by
  cases h with
  | root fp h => exact ⟨_, _, _, h⟩
  | step fp ar far r cp e e' h1 h2 h3 h4 h5 h6 => exact ⟨_, _, _, h3⟩
theorem Fr.lt {w : World} {m : Mm} {rows : List (List Val)} {fp : Nat} {e : List Nat} (h : Fr w m rows fp e) : fp < w.heap.size := by
  obtain ⟨_, _, _, h⟩ := h.cells
  exact (Array.getElem?_eq_some_iff.1 h).1
theorem Fr.len {w : World} {m : Mm} {rows : List (List Val)} {fp : Nat} {e : List Nat} (h : Fr w m rows fp e) : e.length ≤ cnt rows e ∧ ∀ r ∈ e, r < rows.length := by
  induction h with
  | root fp h => exact ⟨Nat.zero_le _, fun r hr => by simp at hr⟩
  | step fp ar far r cp e e' h1 h2 h3 h4 h5 h6 i1 i2 =>
    refine ⟨by show e.length + 1 ≤ (rows.getD r []).length + cnt rows e; have := h1.2; have := i1.1; omega, fun x hx => ?_⟩
    rcases List.mem_cons.1 hx with rfl | hx
    · exact h1.1
    · exact i1.2 x hx
theorem cnt_app (rows : List (List Val)) : ∀ (t e : List Nat), cnt rows (t ++ e) = cnt rows t + cnt rows e
  | [], e => by simp [cnt]
  | r :: t, e => by rw [List.cons_append, cnt, cnt, cnt_app rows t e]; omega
theorem Fr.stay {w w' : World} {m : Mm} {rows : List (List Val)} {fp : Nat} {e : List Nat} (h : Fr w m rows fp e) (hb : Below w.heap.size w w') : Fr w' m rows fp e := h.kept (Kd.ofBelow hb)
set_option maxRecDepth 100000 in
set_option maxHeartbeats 150000000 in
theorem leap_any (m : Mm) (rows : List (List Val)) (fp : Nat) (e : List Nat) (w : World) (h : Fr w m rows fp e) (hl : e.length ≤ 50000000) :
    Calls Tryz.prog 128 #[.pointer (some ⟨fp, 0, none⟩)] w fun q w' => ∃ g e', q = .returned (.pointer (some ⟨g, 0, none⟩)) ∧ Fr w m rows g e' ∧ (∃ t, e = t ++ e') ∧ Below w.heap.size w w' := by
  cases h with
  | root fp h =>
    refine (leap_root fp w h).mono ?_
    rintro q w' ⟨rfl, rfl⟩
    exact ⟨fp, [], rfl, .root fp h, ⟨[], rfl⟩, Below.refl _ _⟩
  | step fp ar far r cp e e' h1 h2 h3 h4 h5 h6 =>
    have HF : Hid (Fr w m rows fp (r :: e)) := .step fp ar far r cp e e' h1 h2 h3 h4 h5 h6
    have c2 : w.cell? ⟨fp, 2, none⟩ = some (.int .i64 ((e.length + 1 : Nat) : Int)) := (cellO h3).trans rfl
    have c4 : w.cell? ⟨fp, 4, none⟩ = some (.pointer (some ⟨far, 0, none⟩)) := (cellO h3).trans rfl
    have z1 : (((e.length + 1 : Nat) : Int) == 0) = false := by simp; omega
    have hl1 : e.length + 1 ≤ 50000000 := by simpa using hl
    cases h5 with
    | root far h5 =>
      have d2 : w.cell? ⟨far, 2, none⟩ = some (.int .i64 0) := (cellO h5).trans rfl
      clear h3 h4 h5 h1 h2 h6
      generalize e.length + 1 = n at *
      go_enter Tryz.func128, Tryz.ntmps128
      go_wp2_with fail
      go_ret
      exact ⟨fp, r :: e, rfl, HF.out, ⟨[], rfl⟩, Below.refl _ _⟩
    | step far ar2 far2 r2 cp e2 e3 g1 g2 g3 g4 g5 g6 =>
      have d2 : w.cell? ⟨far, 2, none⟩ = some (.int .i64 ((e2.length + 1 : Nat) : Int)) := (cellO g3).trans rfl
      have d4 : w.cell? ⟨far, 4, none⟩ = some (.pointer (some ⟨far2, 0, none⟩)) := (cellO g3).trans rfl
      obtain ⟨pv, a3, f3, gc⟩ := g5.cells
      have k2 : w.cell? ⟨far2, 2, none⟩ = some (.int .i64 ((e3.length : Nat) : Int)) := (cellO gc).trans rfl
      have z2 : (((e2.length + 1 : Nat) : Int) == 0) = false := by simp; omega
      obtain ⟨t6, h6⟩ := h6
      obtain ⟨u6, g6⟩ := g6
      have hl2 : e2.length + 1 ≤ 50000000 := by rw [h6] at hl1; simp at hl1; omega
      have hl3 : e3.length ≤ 50000000 := by rw [g6] at hl2; simp at hl2; omega
      have HG : Hid (Fr w m rows far2 e3 ∧ ∃ t, r :: e = t ++ e3) := ⟨g5, r :: t6 ++ r2 :: u6, by rw [h6, g6]; simp⟩
      clear h3 h4 h1 h2 h6 g1 g2 g3 g4 g5 g6 gc hl
      generalize e.length + 1 = n at *
      generalize e2.length + 1 = n2 at *
      generalize e3.length = n3 at *
      have f1 : (0 : Int) ≤ n ∧ (n : Int) ≤ 50000000 ∧ (0 : Int) ≤ n2 ∧ (n2 : Int) ≤ 50000000 ∧ (0 : Int) ≤ n3 ∧ (n3 : Int) ≤ 50000000 := by omega
      generalize ((n : Nat) : Int) = i1 at *
      generalize ((n2 : Nat) : Int) = i2 at *
      generalize ((n3 : Nat) : Int) = i3 at *
      obtain ⟨f1a, f1b, f2a, f2b, f3a, f3b⟩ := f1
      clear hl1 hl2 hl3
      cases hb : (i1 - i2 == i2 - i3) with
      | true =>
        go_enter Tryz.func128, Tryz.ntmps128
        go_wp2_with fail
        go_quiet (fail)
        go_wp2_with fail
        go_ret
        exact ⟨far2, e3, rfl, HG.out.1, HG.out.2, below_drewN (Below.refl _ _) _⟩
      | false =>
        go_enter Tryz.func128, Tryz.ntmps128
        go_wp2_with fail
        go_quiet (fail)
        go_wp2_with fail
        go_ret
        exact ⟨fp, r :: e, rfl, HF.out, ⟨[], rfl⟩, below_drewN (Below.refl _ _) _⟩
/-- A frame more. -/
theorem With_none (fb : Nat) (a : Option Addr) (c : Nat) (w : World) : Calls Tryz.prog 109 #[.pointer (some ⟨fb, 0, none⟩), .slice a 0 c] w fun e w' => e = .returned (.pointer (some ⟨fb, 0, none⟩)) ∧ w' = w := by
  go_enter Tryz.func109, Tryz.ntmps109
  go_wp2_with fail
  go_ret
  exact ⟨rfl, rfl⟩
set_option maxRecDepth 100000 in
set_option maxHeartbeats 3200000 in
theorem With_raw (fp N k kc : Nat) (ci di : Int) (Q : Nat → World → Prop) (w : World) (c1 : w.cell? ⟨fp, 1, none⟩ = some (.int .i64 ci)) (c2 : w.cell? ⟨fp, 2, none⟩ = some (.int .i64 di)) (h1 : 0 ≤ ci) (h2 : ci ≤ 50000000) (h3 : 0 ≤ di) (h4 : di ≤ 50000000) (hk : 0 < k) (hk9 : k ≤ 50000000)
    (HLL : ∀ W, Below w.heap.size w W → Calls Tryz.prog 128 #[.pointer (some ⟨fp, 0, none⟩)] W fun q w' => ∃ g, q = .returned (.pointer (some ⟨g, 0, none⟩)) ∧ Q g w' ∧ Below W.heap.size W w') :
    Calls Tryz.prog 109 #[.pointer (some ⟨fp, 0, none⟩), .slice (some ⟨N, 0, none⟩) k kc] w fun q w' => ∃ far w2, q = .returned (.pointer (some ⟨w2.heap.size, 0, none⟩)) ∧ Q far w2 ∧ Below w.heap.size w w2 ∧ w' = w2.alloc (.cells #[.slice (some ⟨N, 0, none⟩) k kc, .int .i64 (ci + k), .int .i64 (di + 1), .pointer (some ⟨fp, 0, none⟩), .pointer (some ⟨far, 0, none⟩)] 114) := by
  have HL := hidd HLL
  have hfp : fp < w.heap.size := cell_lt c1
  have HC : Hid (∀ W, Below w.heap.size w W → W.cell? ⟨fp, 1, none⟩ = some (.int .i64 ci) ∧ W.cell? ⟨fp, 2, none⟩ = some (.int .i64 di)) := fun W hb => ⟨(hb.cell (p := ⟨fp, 1, none⟩) hfp).trans c1, (hb.cell (p := ⟨fp, 2, none⟩) hfp).trans c2⟩
  have hd : ((k : Int) == 0) = false := by simp; omega
  have hd' : ¬ ((k : Int) = 0) := by omega
  have hk0 : (0 : Int) < k := by omega
  have hk1 : (k : Int) ≤ 50000000 := by omega
  clear HLL hfp hk hk9
  go_enter Tryz.func109, Tryz.ntmps109
  go_wp2_with fail
  go_region_with (go_at_call 128; refine (HL.out _ (Below.drew (Below.refl _ _))).mono ?_; rintro e w2 ⟨g, rfl, hQ2, hb2⟩; have HB2 : Hid (Below w.heap.size w w2) := (Below.drew (Below.refl _ _)).trans hb2; have HQ2 := hidd hQ2; obtain ⟨d1, d2⟩ := HC.out w2 HB2.out; clear hQ2 hb2)
  all_goals
    go_wp2_with fail
    go_ret
    exact ⟨g, w2, rfl, HQ2.out, HB2.out, by rw [IntWalk.i64_in (ci + k) (by omega), IntWalk.i64_in (di + 1) (by omega)]⟩
theorem With_any (m : Mm) (rows : List (List Val)) (fp : Nat) (e : List Nat) (N k kc : Nat) (w : World) (h : Fr w m rows fp e) (hc : k + cnt rows e ≤ 50000000) (hk : 0 < k) :
    Calls Tryz.prog 109 #[.pointer (some ⟨fp, 0, none⟩), .slice (some ⟨N, 0, none⟩) k kc] w fun q w' => ∃ g far e', q = .returned (.pointer (some ⟨g, 0, none⟩)) ∧ Fr w' m rows fp e ∧ Fr w' m rows far e' ∧ (∃ t, e = t ++ e') ∧ Below w.heap.size w w' ∧ w.heap.size ≤ g ∧ w'.heap[g]? = some (.cells #[.slice (some ⟨N, 0, none⟩) k kc, .int .i64 ((k + cnt rows e : Nat) : Int), .int .i64 ((e.length + 1 : Nat) : Int), .pointer (some ⟨fp, 0, none⟩), .pointer (some ⟨far, 0, none⟩)] 114 (0, 0)) := by
  obtain ⟨pv, a0, f0, hcell⟩ := h.cells
  have hlen := h.len.1
  refine (With_raw fp N k kc ((cnt rows e : Nat) : Int) ((e.length : Nat) : Int) (fun g W => ∃ e', Fr W m rows g e' ∧ ∃ t, e = t ++ e') w ((cellO hcell).trans rfl) ((cellO hcell).trans rfl) (by omega) (by omega) (by omega) (by omega) hk (by omega) ?_).mono ?_
  · intro W hb
    refine (leap_any m rows fp e W (h.stay hb) (by omega)).mono ?_
    rintro q w' ⟨g, e', rfl, h2, h3, h4⟩
    exact ⟨g, rfl, ⟨e', h2.stay h4, h3⟩, h4⟩
  · rintro q w' ⟨far, w2, rfl, ⟨e', hf, ht⟩, hb, rfl⟩
    have hba : Below w2.heap.size w2 (w2.alloc (.cells #[.slice (some ⟨N, 0, none⟩) k kc, .int .i64 (((cnt rows e : Nat) : Int) + k), .int .i64 (((e.length : Nat) : Int) + 1), .pointer (some ⟨fp, 0, none⟩), .pointer (some ⟨far, 0, none⟩)] 114)) := (Below.refl _ _).alloc (Nat.le_refl _) _
    refine ⟨w2.heap.size, far, e', rfl, h.stay (hb.trans (hba.mono hb.size)), hf.stay hba, ht, hb.trans (hba.mono hb.size), hb.size, ?_⟩
    rw [World.alloc_heap_new]
    have e1 : ((cnt rows e : Nat) : Int) + k = ((k + cnt rows e : Nat) : Int) := by omega
    have e2 : ((e.length : Nat) : Int) + 1 = ((e.length + 1 : Nat) : Int) := by omega
    rw [e1, e2]
theorem spots_len (rows : List (List Val)) : ∀ (e : List Nat), (spotsF rows e).length = cnt rows e
  | [] => rfl
  | r :: e => by rw [spotsF, cnt, List.length_append, spots_len rows e]; simp
theorem spots_app (rows : List (List Val)) : ∀ (t e : List Nat), spotsF rows (t ++ e) = spotsF rows t ++ spotsF rows e
  | [], e => by simp [spotsF]
  | r :: t, e => by rw [List.cons_append, spotsF, spotsF, spots_app rows t e, List.append_assoc]
/-- The spot of a parameter, from the furthest on. -/
theorem spots_back (rows : List (List Val)) (t e : List Nat) (p : Nat) (hp : p < cnt rows e) : (spotsF rows (t ++ e)).reverse[p]? = (spotsF rows e).reverse[p]? := by
  rw [spots_app, List.reverse_append, List.getElem?_append_left (by rw [List.length_reverse, spots_len]; exact hp)]
theorem spots_here (rows : List (List Val)) (r : Nat) (e : List Nat) (p : Nat) (hp : p < cnt rows (r :: e)) (hq : cnt rows e ≤ p) : (spotsF rows (r :: e)).reverse[p]? = some (r, p - cnt rows e) := by
  rw [cnt] at hp
  rw [spotsF, List.reverse_append, List.getElem?_append_right (by rw [List.length_reverse, spots_len]; exact hq), List.length_reverse, spots_len, ← List.map_reverse, List.reverse_reverse, List.getElem?_map, List.getElem?_range (by omega)]
  rfl
/-- A frame's count, as it is read. -/
def cntAt (v : Value) (w : World) : Nat := match v with
  | .pointer (some a) => match w.cell? ⟨a.block, 1, none⟩ with
    | some (.int _ n) => n.toNat
    | _ => 0
  | _ => 0
theorem cntAt_of {w : World} {m : Mm} {rows : List (List Val)} {fp : Nat} {e : List Nat} (h : Fr w m rows fp e) : cntAt (.pointer (some ⟨fp, 0, none⟩)) w = cnt rows e := by
  obtain ⟨pv, a, f, hc⟩ := h.cells
  have : w.cell? ⟨fp, 1, none⟩ = some (.int .i64 ((cnt rows e : Nat) : Int)) := (cellO hc).trans rfl
  simp [cntAt, this]
set_option maxRecDepth 100000 in
set_option maxHeartbeats 3200000 in
/-- Where a parameter is kept. -/
theorem At_any (m : Mm) (rows : List (List Val)) (fp : Nat) (e : List Nat) (i : Nat) (w : World) (h : Fr w m rows fp e) (hc : cnt rows e ≤ 50000000) (hi : i < cnt rows e) :
    Calls Tryz.prog 68 #[.pointer (some ⟨fp, 0, none⟩), .int .i64 (i : Int)] w fun q w' => ∃ r s, (spotsF rows e)[i]? = some (r, s) ∧ q = .returned (.pointer (some ⟨m.rw.getD r 0, s, none⟩)) ∧ Below w.heap.size w w' := by
  obtain ⟨pv0, a0, f0, hcell⟩ := h.cells
  have c1 : w.cell? ⟨fp, 1, none⟩ = some (.int .i64 ((cnt rows e : Nat) : Int)) := (cellO hcell).trans rfl
  obtain ⟨p, hp⟩ : ∃ p, p = cnt rows e - 1 - i := ⟨_, rfl⟩
  have hpc : p < cnt rows e := by omega
  have HS : Hid ((spotsF rows e)[i]? = (spotsF rows e).reverse[p]?) := by
    show _ = _
    rw [List.getElem?_reverse (by rw [spots_len]; exact hpc), spots_len, hp]
    congr 1
    omega
  have HF := hidd h
  have hC : Hid (cnt rows e ≤ 50000000) := hc
  have hpi : ((cnt rows e : Nat) : Int) - 1 - i = (p : Int) := by omega
  have HPC := hidd hpc
  have b1 : (0 : Int) ≤ ((cnt rows e : Nat) : Int) ∧ ((cnt rows e : Nat) : Int) ≤ 50000000 := by omega
  obtain ⟨b1, b2⟩ := b1
  have b3 : (0 : Int) ≤ (i : Int) ∧ (i : Int) ≤ 50000000 := by omega
  obtain ⟨b3, b4⟩ := b3
  have hp9 : p ≤ 50000000 := by omega
  clear h hcell hp hpc hi hc
  go_enter Tryz.func68, Tryz.ntmps68
  go_wp2_with fail
  go_loopw [0] (fun fv wr => ∃ (g : Nat) (e1 t : List Nat), fv = .pointer (some ⟨g, 0, none⟩) ∧ Fr w m rows g e1 ∧ e = t ++ e1 ∧ p < cnt rows e1 ∧ wr = w) (fun fv wr => cntAt fv wr)
  case atStart => exact ⟨fp, e, [], rfl, HF.out, rfl, HPC.out, rfl⟩
  case round =>
    obtain ⟨g, e1, t, rfl, hf, he, hp1, rfl⟩ := hrel
    have HFF := hidd hf
    cases hf with
    | root g hf => exact absurd hp1 (by simp [cnt])
    | step g ar far r cp e2 e3 g1 g2 g3 g4 g5 g6 =>
      obtain ⟨pa, aa, fa, ga⟩ := g4.cells
      obtain ⟨pf, af, ff, gf⟩ := g5.cells
      have d0 : wr.cell? ⟨g, 0, none⟩ = some (.slice (some ⟨m.rw.getD r 0, 0, none⟩) (rows.getD r []).length cp) := (cellO g3).trans rfl
      have d3 : wr.cell? ⟨g, 3, none⟩ = some (.pointer (some ⟨ar, 0, none⟩)) := (cellO g3).trans rfl
      have d4 : wr.cell? ⟨g, 4, none⟩ = some (.pointer (some ⟨far, 0, none⟩)) := (cellO g3).trans rfl
      have k1 : wr.cell? ⟨ar, 1, none⟩ = some (.int .i64 ((cnt rows e2 : Nat) : Int)) := (cellO ga).trans rfl
      have l1 : wr.cell? ⟨far, 1, none⟩ = some (.int .i64 ((cnt rows e3 : Nat) : Int)) := (cellO gf).trans rfl
      have HX : Hid (Fr wr m rows ar e2 ∧ Fr wr m rows far e3 ∧ ∃ u, e2 = u ++ e3) := ⟨g4, g5, g6⟩
      have HG1 := hidd g1
      have HE := hidd he
      have HP1 := hidd hp1
      have hle : cnt rows e2 < cnt rows (r :: e2) := by rw [cnt]; have := g1.2; omega
      have HLE := hidd hle
      have hle3 : cnt rows e3 ≤ cnt rows e2 := by obtain ⟨u, hu⟩ := g6; rw [hu, cnt_app]; omega
      have HLE3 := hidd hle3
      have hr9 : p < (rows.getD r []).length + cnt rows e2 := hp1
      clear g1 g2 g3 g4 g5 g6 ga gf he hp1 hle hle3 HF
      generalize hN2 : cnt rows e2 = n2 at *
      generalize hN3 : cnt rows e3 = n3 at *
      generalize hK : (rows.getD r []).length = kk at *
      by_cases q1 : p < n2
      · have x1 : decide ((p : Int) < (n2 : Int)) = true := by simp; omega
        have x1' : (p : Int) < (n2 : Int) := by omega
        by_cases q2 : p < n3
        · have x2 : decide ((p : Int) < (n3 : Int)) = true := by simp; omega
          have x2' : (p : Int) < (n3 : Int) := by omega
          go_wp2_with fail
          go_roundw
          case rel =>
            obtain ⟨u, hu⟩ := HX.out.2.2
            exact ⟨far, e3, t ++ r :: u, rfl, HX.out.2.1, by rw [HE.out, hu]; simp, by rw [hN3]; exact q2, trivial⟩
          case measure =>
            rw [cntAt_of HX.out.2.1, cntAt_of HFF.out, hN3]
            have := HLE.out
            have := HLE3.out
            omega
        · have x2 : decide ((p : Int) < (n3 : Int)) = false := by simp; omega
          have x2' : ¬ (p : Int) < (n3 : Int) := by omega
          go_wp2_with fail
          go_roundw
          case rel =>
            exact ⟨ar, e2, t ++ [r], rfl, HX.out.1, by rw [HE.out]; simp, by rw [hN2]; exact q1, trivial⟩
          case measure =>
            rw [cntAt_of HX.out.1, cntAt_of HFF.out, hN2]
            exact HLE.out
      · have x1 : decide ((p : Int) < (n2 : Int)) = false := by simp; omega
        have x1' : ¬ (p : Int) < (n2 : Int) := by omega
        have y1 : (0 : Int) ≤ (p : Int) - (n2 : Int) := by omega
        have y2 : (p : Int) - (n2 : Int) < (kk : Int) := by omega
        have HSP : Hid ((spotsF rows e)[i]? = some (r, p - n2)) := by
          show _ = _
          rw [HS.out, HE.out, spots_back rows t (r :: e2) p HP1.out, spots_here rows r e2 p HP1.out (by rw [hN2]; omega), hN2]
        have y3 : (p : Int) - (n2 : Int) = ((p - n2 : Nat) : Int) := by omega
        have y4 : p - n2 < kk := by omega
        generalize p - n2 = s at *
        go_wp2_with fail
        go_quiet (fail)
        go_wp2_with fail
        go_ret
        exact ⟨r, s, HSP.out, rfl, below_drewN (Below.refl _ _) _⟩
end
section
set_option linter.unusedVariables false
set_option linter.unusedSimpArgs false
open Go.RowKit
open Go.Proofs.YthikdpclifeonaaGreatDoor

/-- What is told of a value: one, or how the run ends. -/
def ToldR (B rb : Nat) (gb : Rc) (m : Mm) (w : World) (r : Res Val × St) (e : Ending) (w' : World) : Prop :=
  ∃ m', Rel B rb gb m' r.2 w' ∧ New m m' w ∧ KR B rb gb m w w' ∧ match r.1 with | .ok v => e = .returned (.iface (vT v) (vX m' v)) ∧ VOk m' v | .bad h => e = .panicked (endP h)
theorem Fr.rx {w : World} {m : Mm} {σ σ' : St} {fp : Nat} {e : List Nat} (h : Fr w m σ.rows fp e) (x : RX σ σ') : Fr w m σ'.rows fp e := by
  induction h with
  | root fp h => exact .root fp h
  | step fp ar far r cp e e' h1 h2 h3 h4 h5 h6 i1 i2 =>
    have hc : cnt σ'.rows (r :: e) = cnt σ.rows (r :: e) := cnt_rx x _ (fun q hq => by
      rcases List.mem_cons.1 hq with rfl | hq
      · exact h1.1
      · exact h4.len.2 q hq)
    have hl := x.lens r h1.1
    refine .step fp ar far r cp e e' ⟨Nat.lt_of_lt_of_le h1.1 x.len, by rw [hl]; exact h1.2⟩ h2 ?_ i1 i2 h6
    rw [hc, hl]
    exact h3
/-- A row of values that is no parameters' stays. -/
theorem KR.row {B rb : Nat} {gb : Rc} {m : Mm} {σ : St} {w w' : World} (h : KR B rb gb m w w') (r : Rel B rb gb m σ w) {k : Nat} {cs : Array Value} {fz : Nat × Nat} (hk : w.heap[k]? = some (.cells cs 155 fz)) (hm : k ∉ m.rw) : w'.heap[k]? = some (.cells cs 155 fz) := by
  refine (h.block k (Array.getElem?_eq_some_iff.1 hk).1 ?_ ?_ ?_ hm ?_).trans hk
  · obtain ⟨tv, hR, _⟩ := r.run
    exact ne_type hR hk (by decide)
  · trivial
  · intro hm
    obtain ⟨i, hi, e⟩ := List.getElem_of_mem hm
    obtain ⟨p, _, hp, _⟩ := r.lt (i := i) (k := k) (by rw [List.getElem?_eq_getElem hi, e])
    obtain ⟨ds, hd⟩ := hp.block
    exact absurd rfl (ne_type hd hk (by decide))
  · intro ds gz hx
    rw [hk] at hx
    simp at hx
theorem row_set (c0 : Array Value) (l : List Val) (f : Val → Value) (q : Nat) (v : Val) (hq : q < l.length) : ((l.map f).toArray ++ c0).setIfInBounds q (f v) = ((l.set q v).map f).toArray ++ c0 := by
  apply Array.toList_inj.1
  rw [Array.toList_setIfInBounds]
  simp [List.set_append, hq, List.map_set]
theorem Rel.rowAt {B rb : Nat} {gb : Rc} {m : Mm} {σ : St} {w : World} (h : Rel B rb gb m σ w) {r : Nat} (hr : r < σ.rows.length) : ∃ c0 : Array Value, m.rw[r]? = some (m.rw.getD r 0) ∧ (∀ v ∈ σ.rows.getD r [], VOk m v) ∧ w.heap[m.rw.getD r 0]? = some (.cells (((σ.rows.getD r []).map (vV m)).toArray ++ c0) 155 (0, 0)) := by
  have e : m.rw[r]? = some (m.rw.getD r 0) := by
    have : r < m.rw.length := by rw [h.lr]; exact hr
    simp [List.getD, List.getElem?_eq_getElem this]
  have e2 : σ.rows[r]? = some (σ.rows.getD r []) := by simp [List.getD, List.getElem?_eq_getElem hr]
  obtain ⟨h1, c0, h2⟩ := h.rw r _ _ e2 e
  exact ⟨c0, e, h1, h2⟩
/-- A parameter is set. -/
theorem Rel.setRow {B rb : Nat} {gb : Rc} {m : Mm} {σ : St} {w : World} (h : Rel B rb gb m σ w) (hs : B ≤ w.heap.size) {r q : Nat} (hr : r < σ.rows.length) (hq : q < (σ.rows.getD r []).length) {v : Val} (hv : VOk m v) :
    Rel B rb gb m { σ with rows := σ.rows.set r ((σ.rows.getD r []).set q v) } (w.setCell ⟨m.rw.getD r 0, q, none⟩ (vV m v)) ∧ KR B rb gb m w (w.setCell ⟨m.rw.getD r 0, q, none⟩ (vV m v)) := by
  obtain ⟨c0, hm, hvs, hk⟩ := h.rowAt hr
  generalize hK : m.rw.getD r 0 = K at *
  have hKB : B ≤ K := h.br K (List.mem_of_getElem? hm)
  have hw : ∀ k, k ≠ K → (w.setCell ⟨K, q, none⟩ (vV m v)).heap[k]? = w.heap[k]? := fun k hk => Below.heap_setCell _ _ _ _ (by simpa using hk)
  have hz : (w.setCell ⟨K, q, none⟩ (vV m v)).heap.size = w.heap.size := by simp
  have hbB : Below B w (w.setCell ⟨K, q, none⟩ (vV m v)) := ⟨rfl, rfl, rfl, by omega, fun k hk => hw k (by omega)⟩
  have kd : ∀ (k : Nat) (cs : Array Value) (t : TypeId), w.heap[k]? = some (.cells cs t (0, 0)) → t ≠ 155 → (w.setCell ⟨K, q, none⟩ (vV m v)).heap[k]? = some (.cells cs t (0, 0)) := fun k cs t hx hne => (hw k (ne_type hk hx hne)).trans hx
  have frk : ∀ fp e, Fr w m σ.rows fp e → Fr (w.setCell ⟨K, q, none⟩ (vV m v)) m (σ.rows.set r ((σ.rows.getD r []).set q v)) fp e := by
    intro fp e hf
    have h2 : Fr (w.setCell ⟨K, q, none⟩ (vV m v)) m σ.rows fp e := by
      induction hf with
      | root fp h => exact .root fp (kd fp _ _ h (by decide))
      | step fp ar far r cp e e' h1 h2 h3 h4 h5 h6 i1 i2 => exact .step fp ar far r cp e e' h1 h2 (kd fp _ _ h3 (by decide)) i1 i2 h6
    exact h2.rx (RX.set σ r q v)
  refine ⟨⟨?_, h.hB, h.hg, h.lp, h.lc, by simp [h.lr], h.np, h.nr, h.nc, h.bp, h.br, h.bc, ?_, ?_, ?_, trivial⟩, ⟨rfl, rfl, rfl, by omega, fun k _ _ _ _ h4 _ => hw k (fun e => h4 (by rw [e]; exact List.mem_of_getElem? hm))⟩⟩
  · exact h.run.set hk (by decide) (by
      rintro rfl
      obtain ⟨tv, hR, _⟩ := h.run
      rw [show w.heap[K]? = _ from hR] at hk
      simp at hk)
  · intro i k p h1 h2
    have := h.pr i k p h1 h2
    cases p with
    | made x y => exact ⟨this.1, this.2.1, kd k _ _ this.2.2 (by decide)⟩
    | unmade d ds =>
      obtain ⟨b', o', c', g', q1, q2, q3, q4, q5⟩ := this
      exact ⟨b', o', c', g', kd k _ _ q1 (by decide), q2, Dc.stay (fun z hz => hbB.block z hz) (fun _ hz => hz) _ _ _ q3, q4, q5⟩
  · intro i k p h1 h2
    obtain ⟨fp, g1, g3⟩ := h.pc i k p h1 h2
    exact ⟨fp, kd k _ _ g1 (by decide), frk fp _ g3⟩
  · intro j k vs h1 h2
    by_cases hj : r = j
    · subst hj
      rw [hm] at h2
      cases h2
      have h1 : (σ.rows.set r ((σ.rows.getD r []).set q v))[r]? = some vs := h1
      rw [List.getElem?_set_self hr] at h1
      cases h1
      refine ⟨fun x hx => ?_, c0, ?_⟩
      · rcases List.mem_or_eq_of_mem_set hx with hx | rfl
        · exact hvs x hx
        · exact hv
      · rw [cell_setV hk]
        rw [row_set c0 (σ.rows.getD r []) (vV m) q v hq]
    · have h1 : (σ.rows.set r ((σ.rows.getD r []).set q v))[j]? = some vs := h1
      rw [List.getElem?_set_ne hj] at h1
      obtain ⟨g1, c1, g2⟩ := h.rw j k vs h1 h2
      refine ⟨g1, c1, (hw k ?_).trans g2⟩
      rintro rfl
      obtain ⟨l1, e1⟩ := List.getElem?_eq_some_iff.1 hm
      obtain ⟨l2, e2⟩ := List.getElem?_eq_some_iff.1 h2
      have nd := List.pairwise_iff_getElem.1 h.nr
      rcases Nat.lt_or_gt_of_ne hj with hl | hl
      · exact nd r j l1 l2 hl (e1.trans e2.symm)
      · exact nd j r l2 l1 hl (e2.trans e1.symm)
/-- A procedure more. -/
theorem Rel.proc {B rb : Nat} {gb : Rc} {m : Mm} {σ : St} {w : World} (h : Rel B rb gb m σ w) (hs : B ≤ w.heap.size) (c fp : Nat) (e : List Nat) (hf : Fr w m σ.rows fp e) :
    Rel B rb gb { m with pc := m.pc ++ [w.heap.size] } { σ with procs := σ.procs ++ [⟨c, e⟩] } (w.alloc (.cells #[.pointer (some ⟨gb.pb, gb.po + 2 * c, none⟩), .pointer (some ⟨fp, 0, none⟩)] 172)) ∧ New m { m with pc := m.pc ++ [w.heap.size] } w := by
  have hb : Below w.heap.size w (w.alloc (.cells #[.pointer (some ⟨gb.pb, gb.po + 2 * c, none⟩), .pointer (some ⟨fp, 0, none⟩)] 172)) := (Below.refl _ _).alloc (Nat.le_refl _) _
  have x : MmX m { m with pc := m.pc ++ [w.heap.size] } := ⟨⟨[], by simp⟩, ⟨_, rfl⟩, ⟨[], by simp⟩⟩
  have h' := h.below hb hs
  have lt : ∀ k ∈ m.pc, k < w.heap.size := by
    intro k hk
    obtain ⟨i, hi, e⟩ := List.getElem_of_mem hk
    have h1 : m.pc[i]? = some k := by rw [List.getElem?_eq_getElem hi, e]
    have hil : i < σ.procs.length := by rw [← h.lc]; exact hi
    obtain ⟨_, q1, _⟩ := h.pc i k _ (List.getElem?_eq_getElem hil) h1
    exact (Array.getElem?_eq_some_iff.1 q1).1
  refine ⟨⟨h'.run, h.hB, h.hg, h.lp, by simp [h.lc], h.lr, h.np, h.nr, ?_, h.bp, h.br, ?_, ?_, ?_, ?_, trivial⟩, x, fun k hk => Or.inl hk, fun k hk => Or.inl hk⟩
  · refine List.nodup_append.2 ⟨h.nc, by simp, fun a ha b hb => ?_⟩
    simp at hb
    subst hb
    have := lt a ha
    omega
  · intro k hk
    rcases List.mem_append.1 hk with q | q
    · exact h.bc k q
    · simp at q; omega
  · intro i k p h1 h2
    exact (h'.pr i k p h1 h2).up x
  · intro i k q h1 h2
    by_cases hi : i < σ.procs.length
    · rw [List.getElem?_append_left hi] at h1
      rw [List.getElem?_append_left (by rw [h.lc]; exact hi)] at h2
      obtain ⟨fp, g1, g3⟩ := h'.pc i k q h1 h2
      exact ⟨fp, g1, g3.up x⟩
    · have hil := (List.getElem?_eq_some_iff.1 h1).1
      simp at hil
      obtain rfl : i = σ.procs.length := by omega
      rw [List.getElem?_append_right (Nat.le_refl _)] at h1
      rw [List.getElem?_append_right (by rw [h.lc]; exact Nat.le_refl _), h.lc] at h2
      simp at h1 h2
      subst h1
      subst h2
      exact ⟨fp, World.alloc_heap_new w _, (hf.stay hb).up x⟩
  · intro r k vs h1 h2
    obtain ⟨g1, c0, g2⟩ := h'.rw r k vs h1 h2
    exact ⟨fun v hv => (g1 v hv).up x, c0, by rw [vals_up g1 x]; exact g2⟩
/-- A row of values becomes parameters. -/
theorem Rel.with {B rb : Nat} {gb : Rc} {m : Mm} {σ : St} {w : World} (h : Rel B rb gb m σ w) {N : Nat} {c0 : Array Value} {a : Val} {t : List Val} (hN : w.heap[N]? = some (.cells (((a :: t).map (vV m)).toArray ++ c0) 155 (0, 0))) (hNr : N ∉ m.rw) (hNB : B ≤ N) (hv : ∀ v ∈ a :: t, VOk m v) :
    Rel B rb gb { m with rw := m.rw ++ [N] } { σ with rows := σ.rows ++ [a :: t] } w := by
  have x : MmX m { m with rw := m.rw ++ [N] } := ⟨⟨[], by simp⟩, ⟨[], by simp⟩, ⟨_, rfl⟩⟩
  have rx : RX σ { σ with rows := σ.rows ++ [a :: t] } := ⟨by simp, fun i hi => by simp [List.getD, List.getElem?_append_left hi]⟩
  have ev : ∀ v, vV { m with rw := m.rw ++ [N] } v = vV m v := by intro v; cases v <;> rfl
  have ek : ∀ v, VOk m v → VOk { m with rw := m.rw ++ [N] } v := fun v h => h.up x
  refine ⟨h.run, h.hB, h.hg, h.lp, h.lc, by simp [h.lr], h.np, ?_, h.nc, h.bp, ?_, h.bc, ?_, ?_, ?_, trivial⟩
  · exact List.nodup_append.2 ⟨h.nr, by simp, fun p hp b hb => by simp at hb; subst hb; rintro rfl; exact hNr hp⟩
  · intro k hk
    rcases List.mem_append.1 hk with q | q
    · exact h.br k q
    · simp at q; omega
  · intro i k p h1 h2
    exact (h.pr i k p h1 h2).up x
  · intro i k q h1 h2
    obtain ⟨fp, g1, g3⟩ := h.pc i k q h1 h2
    exact ⟨fp, g1, (g3.up x).rx rx⟩
  · intro r k vs h1 h2
    by_cases hi : r < σ.rows.length
    · rw [List.getElem?_append_left hi] at h1
      rw [List.getElem?_append_left (by rw [h.lr]; exact hi)] at h2
      obtain ⟨g1, c1, g2⟩ := h.rw r k vs h1 h2
      exact ⟨fun v hv => ek v (g1 v hv), c1, by rw [vals_up g1 x]; exact g2⟩
    · have hil := (List.getElem?_eq_some_iff.1 h1).1
      simp at hil
      obtain rfl : r = σ.rows.length := by omega
      rw [List.getElem?_append_right (Nat.le_refl _)] at h1
      rw [List.getElem?_append_right (by rw [h.lr]; exact Nat.le_refl _), h.lr] at h2
      simp at h1 h2
      subst h1
      subst h2
      exact ⟨fun v hv' => ek v (hv v hv'), c0, by rw [vals_up hv x]; exact hN⟩
end
end Go.Proofs.YthikdpclifeonaaGreatDoor.V
