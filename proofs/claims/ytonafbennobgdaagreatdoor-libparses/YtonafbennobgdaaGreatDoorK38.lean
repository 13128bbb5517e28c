/- The document's walk over declarations: a set of another. -/
import Derived.Test.YtonafbennobgdaaGreatDoorK37
import Derived.Test.YtonafbennobgdaaGreatDoorK16
namespace Go.Proofs.YtonafbennobgdaaGreatDoor.R3
set_option linter.unusedVariables false
set_option linter.unusedSimpArgs false
open Go.RowKit Go.Maps Go.WideMaps
set_option maxRecDepth 100000 in
set_option maxHeartbeats 6400000 in
theorem set_some (rb f kN : Nat) (d x y : Dat) (r : List Dat) (a : Option Addr) (cap : Nat) (dp : Int) (w : World) (R : Er Se) (h : E7 rb 0 w) (hd : DW rb w f a d.kids) (hc : d.kids.length ≤ cap) (ho : okD d) (hdp0 : 0 ≤ dp) (hdp : dp ≤ 12) (hk4 : d.kind = 4) (hl : d.kids = x :: y :: r) (hx : x.kind = 3) (hy : y.kind = 4) (hk : kindF d.kids = kN) (h5 : kN = 2 ∨ kN = 3 ∨ kN = 4 ∨ kN = 5)
 (hNZ : ∀ e, R = .no e → e ≠ 0) (HS0 : ∀ g ya yc W, E7 rb 0 W → DW rb W g ya y.kids → y.kids.length ≤ yc → Calls Tryz.prog 60 #[.pointer (some ⟨rb, 0, none⟩), dv y ya yc, .int .i64 (dp + 1)] W (TellS rb R W)) :
 Calls Tryz.prog 60 #[.pointer (some ⟨rb, 0, none⟩), dv d a cap, .int .i64 dp] w (TellS rb (R.bind fun s => (restF kN r).bind fun t => .ok (Se.mk kN ⟨#[]⟩ t.1 t.2.1 t.2.2 [s])) w) := by
 obtain ⟨W0, hW0⟩ : ∃ W0, W0 = (w.alloc (.cells #[.int .i64 d.kind, .int .i64 d.n, .string d.name, .int .i64 d.stamp, .int .i64 d.lib, .slice a d.kids.length cap] 26)).alloc (.cells #[.int .i64 0, .string ⟨#[]⟩, .slice none 0 0, .slice none 0 0, .string ⟨#[]⟩, .slice none 0 0] 73) := ⟨_, rfl⟩
 obtain ⟨g1, g2, g3, g4⟩ := set_boxes d a d.kids.length cap w
 rw [← hW0] at g1 g2 g3 g4
 have hrb := h.lt
 have E0 := hidd (h.below g1)
 have D0 := hidd (hd.below g1)
 have HB0 : Hid (St rb 0 w W0 ∧ W0.heap.size = w.heap.size + 2 ∧ W0.heap[w.heap.size + 1]? = some (.cells #[.int .i64 0, .string ⟨#[]⟩, .slice none 0 0, .slice none 0 0, .string ⟨#[]⟩, .slice none 0 0] 73 (0, 0)) ∧ rb < w.heap.size) := ⟨St.of h g1, g4, g3, hrb⟩
 have HG := hidd (good0 rb W0 E0.out)
 have HN := hidd (need_ok rb d a cap W0 1 hk4 (by rw [hl]; simp))
 obtain ⟨oL1, oL2⟩ := okD_list ho hk4
 obtain ⟨g, b, o, ya, yc, hg, ha, hA, hyk⟩ := D0.out.at (i := 1) (d := y) (by rw [hl]; rfl)
 subst ha
 rw [Nat.one_mul] at hA
 obtain ⟨_, _, _, xa, xc, _, hbq, hAx, _⟩ := D0.out.at (i := 0) (d := x) (by rw [hl]; rfl)
 cases hbq
 rw [Nat.zero_mul, Nat.add_zero] at hAx
 have HY : Hid (∀ W, Below W0.heap.size W0 W → Calls Tryz.prog 60 #[.pointer (some ⟨rb, 0, none⟩), dv y ya yc, .int .i64 (dp + 1)] W (TellS rb R W)) := fun W hb => HS0 g ya yc W (E0.out.below hb) (DW.below (rb := rb) (f := g) hyk hb) hA.lk
 have hgb : b < W0.heap.size := hA.hb.1
 have HC : Hid (∀ W, Below W0.heap.size W0 W → W.cell? ⟨b, o, none⟩ = some (.int .i64 x.kind) ∧ W.cell? ⟨b, o + 2, none⟩ = some (.string x.name) ∧ W.cell? ⟨b, o + 6, none⟩ = some (.int .i64 y.kind) ∧ W.cell? ⟨b, o + 6 + 1, none⟩ = some (.int .i64 y.n) ∧ W.cell? ⟨b, o + 6 + 2, none⟩ = some (.string y.name) ∧ W.cell? ⟨b, o + 6 + 3, none⟩ = some (.int .i64 y.stamp) ∧ W.cell? ⟨b, o + 6 + 4, none⟩ = some (.int .i64 y.lib) ∧ W.cell? ⟨b, o + 6 + 5, none⟩ = some (.slice ya y.kids.length yc)) := fun W hb => ⟨(hb.cell (p := ⟨b, o, none⟩) hgb).trans hAx.c0, (hb.cell (p := ⟨b, o + 2, none⟩) hgb).trans hAx.c2, (hb.cell (p := ⟨b, o + 6, none⟩) hgb).trans hA.c0, (hb.cell (p := ⟨b, o + 6 + 1, none⟩) hgb).trans hA.c1, (hb.cell (p := ⟨b, o + 6 + 2, none⟩) hgb).trans hA.c2, (hb.cell (p := ⟨b, o + 6 + 3, none⟩) hgb).trans hA.c3, (hb.cell (p := ⟨b, o + 6 + 4, none⟩) hgb).trans hA.c4, (hb.cell (p := ⟨b, o + 6 + 5, none⟩) hgb).trans hA.c5⟩
 have hg0 : (kindG x.name).getD 0 = kN := by
  have := (kindG_of r hx hy (okD_sym (okL_mem oL2 x (by rw [hl]; simp)) hx).2).symm.trans ((show kindF (x :: y :: r) = kindF d.kids by rw [hl]).trans hk)
  cases hq : kindG x.name with
  | none => rw [hq] at this; simp at this; omega
  | some i =>
   rw [hq] at this
   have h2 : (i : Int) = (kN : Int) := this
   show i = kN
   omega
 have hnm := (okD_sym (okL_mem oL2 x (by rw [hl]; simp)) hx).1
 have HOr : Hid (okL r ∧ r.length ≤ 2000) := by
  rw [hl, okL, okL] at oL2
  rw [hl] at oL1
  exact ⟨oL2.2.2, by simp at oL1; omega⟩
 have hkn : d.kids.length = r.length + 2 := by rw [hl]; simp
 have HD2 : Hid (∀ W e, St rb e W0 W → DW rb W f (some ⟨b, o, none⟩) (x :: y :: r)) := fun W e hs => by
  have := D0.out.st hs
  rw [hl] at this
  exact this
 obtain ⟨y0, y1, y2, y3, y4, y5⟩ := six_at g2
 have hw0 := hW0.symm
 have HI := hidd hc
 have HK5 := hidd h5
 have HNZ := hidd hNZ
 clear hNZ hW0 g1 g2 g3 g4 h hd ho HS0 hA hAx hyk oL1 oL2 hl hk D0 hg hgb hk4
 unfold dv at HN HY ⊢
 generalize d.kids.length = kn at *
 generalize y.kids.length = yn at *
 have HKN := hidd hkn
 have k1 : decide ((12 : Int) < dp) = false := by simp; omega
 have k2 : ¬ (12 : Int) < dp := by omega
 have k31 : (x.kind == 3) = true := by simpa using hx
 have k32 : decide (x.kind = 3) = true := by simpa using hx
 have k41 : (y.kind == 4) = true := by simpa using hy
 have k42 : decide (y.kind = 4) = true := by simpa using hy
 have i1 : (0 : Int) < (kn : Int) := by omega
 have i2 : (1 : Int) < (kn : Int) := by omega
 have i3 : decide ((2 : Int) ≤ (kn : Int)) = true := by simp; omega
 have i4 : (2 : Int) ≤ (kn : Int) := by omega
 have k5 : ((kN : Int) == 0) = false := by simp; omega
 have k6 : decide ((kN : Int) = 0) = false := by simp; omega
 clear hc hkn h5 hx hy
 go_enter Tryz.func60, Tryz.ntmps60
 go_wp2_with fail
 refine HG.out.mono ?_
 rintro en wm ⟨rfl, hwm⟩
 rw [hwm]
 clear hwm
 go_wp2_with fail
 refine HN.out.mono ?_
 rintro en w1 ⟨rfl, hs1⟩
 have S1 := hidd hs1
 obtain ⟨wa, wb, wc, wd, ra, rb', rc, rd, hbd, rlk⟩ := kind_map w1
 have rl := rlk x.name kN hnm hg0
 have HBD : Hid (Below W0.heap.size W0 wd) := hs1.trans (hbd.mono hs1.size)
 obtain ⟨c0, c2, -⟩ := HC.out w1 hs1
 have c2d := (HC.out wd HBD.out).2.1
 obtain ⟨-, e00, -⟩ := HC.out w1 hs1
 obtain ⟨-, -, f0, f1, f2, f3, f4, f5⟩ := HC.out wd HBD.out
 obtain ⟨-, -, q0, -⟩ := HC.out w1 hs1
 have hmm := @run_makeMap Tryz.prog
 clear hs1 hbd rlk y0 y1 y2 y3 y4 y5 HN HG hg0 hnm
 go_wp2_with fail
 refine (HY.out _ HBD.out).mono ?_
 rintro en w3 ⟨v, rfl, ⟨k', nm', a1, m1, u1, a2, m2, u2, p', a3, m3, u3, rfl⟩, hs3, hok3⟩
 go_upto_region 12 with fail
 obtain ⟨W4, hW4⟩ : ∃ W4, W4 = w3.alloc (.cells #[.int .i64 k', .string nm', .slice a1 m1 u1, .slice a2 m2 u2, .string p', .slice a3 m3 u3] 73) := ⟨_, rfl⟩
 rw [← hW4]
 obtain ⟨W5, hW5⟩ : ∃ W5, W5 = W4.alloc (.cells #[.int .i64 kN, .string ⟨#[]⟩, .slice none 0 0, .slice none 0 0, .string ⟨#[]⟩, .slice (some ⟨w3.heap.size, 0, none⟩) 1 1] 73) := ⟨_, rfl⟩
 rw [← hW5]
 obtain ⟨q, hq⟩ : ∃ q, q = erE R := ⟨_, rfl⟩
 rw [← hq] at hs3
 have A3 : St rb q W0 w3 := (St.of E0.out HBD.out).trans hs3
 have A4 : St rb q W0 W4 := by rw [hW4]; exact A3.and ((Below.refl _ _).alloc (Nat.le_refl _) _)
 have z4 : W4.heap.size = w3.heap.size + 1 := by rw [hW4]; simp
 have z5 : W5.heap.size = w3.heap.size + 2 := by rw [hW5]; simp [z4]
 have K4 : W4.heap[w3.heap.size]? = some (.cells #[.int .i64 k', .string nm', .slice a1 m1 u1, .slice a2 m2 u2, .string p', .slice a3 m3 u3] 73 (0, 0)) := by rw [hW4]; exact World.alloc_heap_new w3 _
 have S5 : W5.heap[w3.heap.size + 1]? = some (.cells #[.int .i64 kN, .string ⟨#[]⟩, .slice none 0 0, .slice none 0 0, .string ⟨#[]⟩, .slice (some ⟨w3.heap.size, 0, none⟩) 1 1] 73 (0, 0)) := by rw [hW5, ← z4]; exact World.alloc_heap_new W4 _
 have B5 : Below W4.heap.size W4 W5 := by rw [hW5]; exact (Below.refl _ _).alloc (Nat.le_refl _) _
 have E4 : E7 rb q W4 := E0.out.st A4
 have hsz : w.heap.size + 2 ≤ wd.heap.size ∧ wd.heap.size ≤ w3.heap.size := by have h1 := HBD.out.size; have h2 := hs3.size; have := HB0.out.2.1; exact ⟨by omega, h2⟩
 have R4 : W4.heap[w.heap.size + 1]? = some (.cells #[.int .i64 0, .string ⟨#[]⟩, .slice none 0 0, .slice none 0 0, .string ⟨#[]⟩, .slice none 0 0] 73 (0, 0)) := (A4.far (by have := HB0.out.2.1; omega) (by have := HB0.out.2.2.2; omega)).trans HB0.out.2.2.1
 have S4 : St rb q w W4 := HB0.out.1.trans A4
 have HEND : Hid (∀ (kI : Int), kI = kN → ∀ (W : World) (e : Int) (a1' a2' : Option Addr) (m1' u1' m2' u2' : Nat) (p : ByteArray), St rb e W4 W → e = fst1 q (erE (restF kN r)) → (∀ t, q = 0 → restF kN r = .ok t → SV (fun j => W4.heap.size < j ∧ j < W.heap.size) t.1 (.slice a1' m1' u1') W ∧ SV (fun j => W4.heap.size < j ∧ j < W.heap.size) t.2.1 (.slice a2' m2' u2') W ∧ t.2.2 = p) → W.heap[w.heap.size + 1]? = some (.cells #[.int .i64 0, .string ⟨#[]⟩, .slice none 0 0, .slice none 0 0, .string ⟨#[]⟩, .slice none 0 0] 73 (0, 0)) ∧ TellS rb (R.bind fun s => (restF kN r).bind fun t => .ok (Se.mk kN ⟨#[]⟩ t.1 t.2.1 t.2.2 [s])) w (.returned (.agg #[.int .i64 kI, .string ⟨#[]⟩, .slice a1' m1' u1', .slice a2' m2' u2', .string p, .slice (some ⟨w3.heap.size, 0, none⟩) 1 1])) ((((((W.setCell ⟨w.heap.size + 1, 0, none⟩ (.int .i64 kI)).setCell ⟨w.heap.size + 1, 1, none⟩ (.string ⟨#[]⟩)).setCell ⟨w.heap.size + 1, 2, none⟩ (.slice a1' m1' u1')).setCell ⟨w.heap.size + 1, 3, none⟩ (.slice a2' m2' u2')).setCell ⟨w.heap.size + 1, 4, none⟩ (.string p)).setCell ⟨w.heap.size + 1, 5, none⟩ (.slice (some ⟨w3.heap.size, 0, none⟩) 1 1))) := by
  intro kI hkI W e a1' a2' m1' u1' m2' u2' p hst he hsv
  subst hkI
  have hwz := hst.size
  have hrb := HB0.out.2.2.2
  have hR := (hst.far (by omega) (by omega)).trans R4
  refine ⟨hR, set_end hR (S4.trans hst) ?_ ?_⟩
  ·rw [he, erE_two _ _ _ HNZ.out, hq]
  intro s t hRs hX
  obtain ⟨h1, h2, h3⟩ := hsv t (by rw [hq, hRs]; rfl) hX
  refine ⟨h1.stay (fun _ _ => rfl) (fun j hj => ⟨by omega, hj.2, by omega⟩), h2.stay (fun _ _ => rfl) (fun j hj => ⟨by omega, hj.2, by omega⟩), h3, ?_⟩
  refine SeL.one ((hok3 s hRs).stay (fun k hk => ?_) (fun k hk => ⟨by omega, by omega, by omega⟩)) ⟨by omega, by omega, by omega⟩ ((hst.far (by omega) (by omega)).trans K4)
  rw [hst.far (by omega) (by omega), hW4, Below.heap_alloc _ _ _ (by omega)]
 have HX4 : Hid (St rb q W4 W5 ∧ W4.heap.size = w3.heap.size + 1 ∧ W5.heap.size = w3.heap.size + 2 ∧ w.heap.size + 2 ≤ w3.heap.size ∧ rb < w.heap.size) := ⟨St.of E4 B5, z4, z5, by omega, HB0.out.2.2.2⟩
 have E5 := hidd (E4.below B5)
 have E4h := hidd E4
 have D5 : Hid (DW rb W4 f (some ⟨b, o, none⟩) (x :: y :: r)) := HD2.out W4 q A4
 have HS5 := hidd S5
 clear S5 hq hs3 hok3 A3 A4 z4 z5 K4 B5 E4 hsz R4 S4 hW4 hW5 hw0 S1 c0 c2 e00 q0 f0 f1 f2 f3 f4 f5 c2d rl ra rb' rc rd HBD HD2 HC HY
 have HSL := slice2 b o kn cap (by omega) HI.out
 obtain ⟨ra, hra, HR2⟩ : ∃ ra, (if cap = 2 then some (⟨b, o, none⟩ : Addr) else some ⟨b, o + 12, none⟩) = ra ∧ Hid (∀ W e, St rb e W4 W → DW rb W f ra r) := by
  refine ⟨_, rfl, fun W e hs => ?_⟩
  have h := D5.out.st hs
  by_cases hc2 : cap = 2
  ·rw [if_pos hc2]
   have := HI.out
   have := HKN.out
   exact h.drop2.nilAt (List.eq_nil_of_length_eq_zero (by omega)) _
  rw [if_neg hc2]; exact h.drop2
 rw [hra] at HSL
 have ern : kn - 2 = r.length := by have := HKN.out; omega
 rw [ern] at HSL
 have hrn : kn = r.length + 2 := HKN.out
 have hrc : r.length ≤ cap - 2 := by have := HI.out; omega
 have HRC := hidd hrc
 clear hra ern HKN HI hrc
 have HKN2 := hidd hrn
 clear hrn
 rcases or_assoc.2 HK5.out with hq23 | hq2 | hq2
 ·rcases hq23 with hq2 | hq2
  all_goals
   have m4 : ((kN : Int) == 4) = false := by rw [hq2]; rfl
   have m4d : decide ((kN : Int) = 4) = false := by rw [hq2]; rfl
   have m4p : ¬ ((kN : Int) = 4) := by rw [hq2]; decide
   first | have m2 : ((kN : Int) == 2) = true := by rw [hq2]; rfl | have m2 : ((kN : Int) == 2) = false := by rw [hq2]; rfl
   first | have m2d : decide ((kN : Int) = 2) = true := by rw [hq2]; rfl | have m2d : decide ((kN : Int) = 2) = false := by rw [hq2]; rfl
   first | have m3 : ((kN : Int) == 3) = false := by rw [hq2]; rfl | have m3 : ((kN : Int) == 3) = true := by rw [hq2]; rfl
   first | have m3d : decide ((kN : Int) = 3) = false := by rw [hq2]; rfl | have m3d : decide ((kN : Int) = 3) = true := by rw [hq2]; rfl
   first | have m3p : ¬ ((kN : Int) = 3) := by rw [hq2]; decide | have m2p : ¬ ((kN : Int) = 2) := by rw [hq2]; decide
   have m5 : ((kN : Int) == 5) = false := by rw [hq2]; rfl
   have m5d : decide ((kN : Int) = 5) = false := by rw [hq2]; rfl
   have m5p : ¬ ((kN : Int) = 5) := by rw [hq2]; decide
   have HQ2 := hidd hq2
   clear hq2
   have WD := hidd (words_any rb f q r ra (cap - 2) W5 E5.out (HR2.out W5 _ HX4.out.1) (by have := HOr.out.2; omega) HRC.out)
   go_wp2_with fail
   refine WD.out.mono ?_
   rintro en w6 ⟨v, rfl, hv, hs6⟩
   clear WD
   obtain ⟨va, vc, hvv, hvc⟩ := own_sliceL hv
   rw [List.length_map] at hvv
   subst hvv
   have S6 := (hs6.far (by have := HX4.out; omega) (by have := HX4.out; omega)).trans HS5.out
   obtain ⟨c0, c1, c2, c3, c4, c5⟩ := six_at S6
   obtain ⟨t0, t1, t2, t3, t4, t5⟩ := six_fz S6
   have T6 : Hid (St rb (fst1 q (wordsE r)) W4 w6 ∧ StrR W5.heap.size (r.map wdS) (.slice va r.length vc) w6 ∧ w6.heap[w3.heap.size + 1]? = some (.cells #[.int .i64 kN, .string ⟨#[]⟩, .slice none 0 0, .slice none 0 0, .string ⟨#[]⟩, .slice (some ⟨w3.heap.size, 0, none⟩) 1 1] 73 (0, 0)) ∧ W5.heap.size ≤ w6.heap.size ) := ⟨HX4.out.1.trans hs6, hv, S6, hs6.size⟩
   clear hv hs6 S6
   go_upto_region 19 with fail
   obtain ⟨W6, hW6⟩ : ∃ W6, w6.setCell ⟨w3.heap.size + 1, 2, none⟩ (.slice va r.length vc) = W6 := ⟨_, rfl⟩
   rw [hW6]
   have ST : Hid (St rb (fst1 q (wordsE r)) W4 W6) := by rw [← hW6]; exact Below.setCell (p := ⟨w3.heap.size + 1, 2, none⟩) T6.out.1 (by have := HX4.out.2.1; simp; omega) _
   have SS : Hid (W6.heap[w3.heap.size + 1]? = some (.cells #[.int .i64 kN, .string ⟨#[]⟩, .slice va r.length vc, .slice none 0 0, .string ⟨#[]⟩, .slice (some ⟨w3.heap.size, 0, none⟩) 1 1] 73 (0, 0))) := by rw [← hW6]; exact cell_setL T6.out.2.2.1 _
   have hfar : ∀ k, k ≠ w3.heap.size + 1 → W6.heap[k]? = w6.heap[k]? := fun k hk => by rw [← hW6]; exact Below.heap_setCell _ _ _ _ hk
   have hsw : W6.heap.size = w6.heap.size := by rw [← hW6]; simp
   have SVR : Hid (SV (fun j => W4.heap.size < j ∧ j < W6.heap.size) (r.map wdS) (.slice va r.length vc) W6) := T6.out.2.1.sv.stay (fun j hj => hfar j (by have := HX4.out.2.2.1; have := hj.1; omega)) (fun j hj => ⟨by have := HX4.out.2.1; have := HX4.out.2.2.1; have := hj.1; omega, by have := hj.2; omega⟩)
   have DR : Hid (DW rb W6 f ra r) := HR2.out W6 _ ST.out
   have hsz6 : Hid (W4.heap.size < W6.heap.size) := (by have h1 := HX4.out.2; have h2 := T6.out.2.2.2; omega : W4.heap.size < W6.heap.size)
   have HE : Hid (fst1 q (wordsE r) = fst1 q (erE (restF kN r)) ∧ ∀ t, restF kN r = .ok t → t = (r.map wdS, [], ⟨#[]⟩)) := by
    unfold restF
    rw [HQ2.out]
    rw [if_pos (by decide)]
    by_cases hw : wordsE r = 0
    ·rw [wordsE_ok hw, hw]; exact ⟨rfl, fun t ht => by cases ht; rfl⟩
    rw [(wordsE_no hw).1, (wordsE_no hw).2]; exact ⟨rfl, fun t ht => by cases ht⟩
   clear hW6 hfar hsw T6 c0 c1 c2 c3 c4 c5 t0 t1 t2 t3 t4 t5
   go_wp2_with fail
   go_loopw [92] (fun ix wr => ix = .int .i64 0 ∧ wr = W6) (fun _ _ => 0)
   case atStart => exact ⟨rfl, rfl⟩
   obtain ⟨rfl, rfl⟩ := hrel
   by_cases hr0 : r.length = 0
   ·have j1 : decide ((0 : Int) < (r.length : Int)) = false := decide_eq_false (by omega)
    have j2 : ¬ (0 : Int) < (r.length : Int) := by omega
    clear hr0
    have hS_ := SS.out
    obtain ⟨a0, a1, a2, a3, a4, a5⟩ := six_at hS_
    obtain ⟨hR_, hT_⟩ := HEND.out _ rfl wr (fst1 q (wordsE r)) _ _ _ _ _ _ ⟨#[]⟩ ST.out HE.out.1 (fun t _ ht => by rw [HE.out.2 t ht]; exact ⟨SVR.out, SV.nil _ _, rfl⟩)
    obtain ⟨r0, r1, r2, r3, r4, r5⟩ := six_at hR_
    obtain ⟨s0, s1, s2, s3, s4, s5⟩ := six_fz hR_
    have H9 := hidd (And.intro hR_ hT_)
    clear hS_ hR_ hT_
    go_wp2_with fail
    exact bodyPost_ret (ret60 (stor H9.out.1 _ _ _ _ _ _).1 rfl) rfl H9.out.2
   have j2 : (0 : Int) < (r.length : Int) := by omega
   obtain ⟨z, hz⟩ : ∃ z, r[0]? = some z := ⟨_, List.getElem?_eq_getElem (by omega)⟩
   obtain ⟨_, b', o', za, zc, _, rfl, hA', _⟩ := (DR.out : DW rb wr f ra r).at hz
   rw [Nat.zero_mul, Nat.add_zero] at hA'
   obtain ⟨_, z0, z1, z2, z3, z4, z5, _, _⟩ := hA'
   have hbz : Below wr.heap.size wr (wr.alloc (.cells #[.int .i64 z.kind, .int .i64 z.n, .string z.name, .int .i64 z.stamp, .int .i64 z.lib, .slice za z.kids.length zc] 26)) := (Below.refl _ _).alloc (Nat.le_refl _) _
   have hss : (wr.alloc (.cells #[.int .i64 z.kind, .int .i64 z.n, .string z.name, .int .i64 z.stamp, .int .i64 z.lib, .slice za z.kids.length zc] 26)).heap[w3.heap.size + 1]? = some (.cells #[.int .i64 kN, .string ⟨#[]⟩, .slice va r.length vc, .slice none 0 0, .string ⟨#[]⟩, .slice (some ⟨w3.heap.size, 0, none⟩) 1 1] 73 (0, 0)) := upH SS.out hbz
   have HT0 := HEND.out _ rfl (wr.alloc (.cells #[.int .i64 z.kind, .int .i64 z.n, .string z.name, .int .i64 z.stamp, .int .i64 z.lib, .slice za z.kids.length zc] 26)) (fst1 q (wordsE r)) _ _ _ _ _ _ ⟨#[]⟩ (ST.out.and hbz) HE.out.1 (fun t _ ht => by rw [HE.out.2 t ht]; exact ⟨SVR.out.stay (fun j hj => hbz.block j hj.2) (fun j hj => ⟨hj.1, Nat.lt_of_lt_of_le hj.2 hbz.size⟩), SV.nil _ _, rfl⟩)
   generalize z.kids.length = zn at *
   obtain ⟨W8, hW8⟩ : ∃ W8, wr.alloc (.cells #[.int .i64 z.kind, .int .i64 z.n, .string z.name, .int .i64 z.stamp, .int .i64 z.lib, .slice za zn zc] 26) = W8 := ⟨_, rfl⟩
   rw [hW8] at HT0 hss
   have H8 := hidd (And.intro hss HT0)
   clear hbz hss HT0 hz hr0
   go_upto_region 30 with fail
   clear hW8 z0 z1 z2 z3 z4 z5
   obtain ⟨a0, a1, a2, a3, a4, a5⟩ := six_at H8.out.1
   obtain ⟨r0, r1, r2, r3, r4, r5⟩ := six_at H8.out.2.1
   obtain ⟨s0, s1, s2, s3, s4, s5⟩ := six_fz H8.out.2.1
   go_wp2_with fail
   exact bodyPost_ret (ret60 (stor H8.out.2.1 _ _ _ _ _ _).1 rfl) rfl H8.out.2.2
 ·have m4 : ((kN : Int) == 4) = true := by rw [hq2]; rfl
  have m4d : decide ((kN : Int) = 4) = true := by rw [hq2]; rfl
  have m2 : ((kN : Int) == 2) = false := by rw [hq2]; rfl
  have m2d : decide ((kN : Int) = 2) = false := by rw [hq2]; rfl
  have m2p : ¬ ((kN : Int) = 2) := by rw [hq2]; decide
  have m3 : ((kN : Int) == 3) = false := by rw [hq2]; rfl
  have m3d : decide ((kN : Int) = 3) = false := by rw [hq2]; rfl
  have m3p : ¬ ((kN : Int) = 3) := by rw [hq2]; decide
  have m5 : ((kN : Int) == 5) = false := by rw [hq2]; rfl
  have m5d : decide ((kN : Int) = 5) = false := by rw [hq2]; rfl
  have m5p : ¬ ((kN : Int) = 5) := by rw [hq2]; decide
  have HQ2 := hidd hq2
  clear hq2
  by_cases h3 : r.length = 1
  rotate_left
  ·have n3 : ((kn : Int) == 3) = false := by have := HKN2.out; simp; omega
   have n4 : ¬ ((kn : Int) = 3) := by have := HKN2.out; omega
   have n5 : decide ((kn : Int) = 3) = false := decide_eq_false n4
   have WD := hidd (stop_any rb q 2 W5 E5.out)
   have HE : Hid (fst1 q 2 = fst1 q (erE (restF kN r)) ∧ ∀ t, restF kN r ≠ .ok t) := by
    unfold restF
    rw [HQ2.out, if_neg (by decide), if_pos (by decide), oneF_len h3]
    exact ⟨rfl, fun t ht => by cases ht⟩
   clear h3
   go_wp2_with fail
   refine WD.out.mono ?_
   rintro en w6 ⟨rfl, hs6⟩
   clear WD
   have S6 := (hs6.far (by have := HX4.out; omega) (by have := HX4.out; omega)).trans HS5.out
   have T6 := hidd (And.intro S6 hs6)
   clear S6 hs6
   have hS_ := T6.out.1
   obtain ⟨a0, a1, a2, a3, a4, a5⟩ := six_at hS_
   obtain ⟨hR_, hT_⟩ := HEND.out _ rfl w6 (fst1 q 2) none none 0 0 0 0 ⟨#[]⟩ (HX4.out.1.trans T6.out.2) HE.out.1 (fun t _ ht => absurd ht (HE.out.2 t))
   obtain ⟨r0, r1, r2, r3, r4, r5⟩ := six_at hR_
   obtain ⟨s0, s1, s2, s3, s4, s5⟩ := six_fz hR_
   have H9 := hidd (And.intro hR_ hT_)
   clear hS_ hR_ hT_
   go_wp2_with fail
   exact bodyPost_ret (ret60 (stor H9.out.1 _ _ _ _ _ _).1 rfl) rfl H9.out.2
  have hkn3 : kn = 3 := by have := HKN2.out; omega
  obtain ⟨zq, hz⟩ : ∃ zq, r = [zq] := List.length_eq_one_iff.1 h3
  have hz0 : r[0]? = some zq := by rw [hz]; rfl
  obtain ⟨_, _, _, za, zc, _, hbq, hA', _⟩ := (D5.out.st HX4.out.1).at (i := 2) (d := zq) hz0
  cases hbq
  rw [show 2 * 6 = 12 from rfl] at hA'
  obtain ⟨_, z0, z1, z2, z3, z4, z5, _, _⟩ := hA'
  have n3 : ((kn : Int) == 3) = true := by rw [hkn3]; rfl
  have n4 : decide ((kn : Int) = 3) = true := by rw [hkn3]; rfl
  have i5 : (2 : Int) < (kn : Int) := by omega
  have WD := hidd (word_any rb q zq za zc W5 E5.out)
  have HE : Hid (fst1 q (wdE zq) = fst1 q (erE (restF kN r)) ∧ ∀ t, restF kN r = .ok t → t = ([], [], wdS zq)) := by
   unfold restF
   rw [HQ2.out, if_neg (by decide), if_pos (by decide), hz]
   show _ = fst1 q (erE ((nameF zq).bind _)) ∧ ∀ t, (nameF zq).bind _ = _ → _
   unfold nameF wdE wdS
   by_cases hw : zq.kind = 3
   ·rw [if_pos hw, if_pos hw, if_pos hw]; exact ⟨rfl, fun t ht => by cases ht; rfl⟩
   rw [if_neg hw, if_neg hw]; exact ⟨rfl, fun t ht => by cases ht⟩
  have H31 := hidd h3
  clear hkn3 hz h3
  unfold dv at WD
  generalize zq.kids.length = zn at *
  go_wp2_with fail
  refine WD.out.mono ?_
  rintro en w6 ⟨rfl, hs6⟩
  clear WD z0 z1 z2 z3 z4 z5
  have S6 := (hs6.far (by have := HX4.out; omega) (by have := HX4.out; omega)).trans HS5.out
  obtain ⟨c0, c1, c2, c3, c4, c5⟩ := six_at S6
  obtain ⟨t0, t1, t2, t3, t4, t5⟩ := six_fz S6
  have T6 : Hid (St rb (fst1 q (wdE zq)) W4 w6 ∧ w6.heap[w3.heap.size + 1]? = some (.cells #[.int .i64 kN, .string ⟨#[]⟩, .slice none 0 0, .slice none 0 0, .string ⟨#[]⟩, .slice (some ⟨w3.heap.size, 0, none⟩) 1 1] 73 (0, 0)) ∧ W5.heap.size ≤ w6.heap.size) := ⟨HX4.out.1.trans hs6, S6, hs6.size⟩
  clear hs6 S6
  go_upto_region 17 with fail
  obtain ⟨pw, hpw⟩ : ∃ pw, pw = wdS zq := ⟨_, rfl⟩
  rw [← hpw] at HE ⊢
  obtain ⟨W6, hW6⟩ : ∃ W6, w6.setCell ⟨w3.heap.size + 1, 4, none⟩ (.string pw) = W6 := ⟨_, rfl⟩
  rw [hW6]
  have ST : Hid (St rb (fst1 q (wdE zq)) W4 W6) := by rw [← hW6]; exact Below.setCell (p := ⟨w3.heap.size + 1, 4, none⟩) T6.out.1 (by have := HX4.out.2.1; simp; omega) _
  have SS : Hid (W6.heap[w3.heap.size + 1]? = some (.cells #[.int .i64 kN, .string ⟨#[]⟩, .slice none 0 0, .slice none 0 0, .string pw, .slice (some ⟨w3.heap.size, 0, none⟩) 1 1] 73 (0, 0))) := by rw [← hW6]; exact cell_setL T6.out.2.1 _
  have DR : Hid (DW rb W6 f ra r) := HR2.out W6 _ ST.out
  clear hW6 hpw T6 c0 c1 c2 c3 c4 c5 t0 t1 t2 t3 t4 t5 n3 n4 i5 hz0
  go_wp2_with fail
  go_loopw [92] (fun ix wr => ix = .int .i64 0 ∧ wr = W6) (fun _ _ => 0)
  case atStart => exact ⟨rfl, rfl⟩
  obtain ⟨rfl, rfl⟩ := hrel
  by_cases hr0 : r.length = 0
  ·have j1 : decide ((0 : Int) < (r.length : Int)) = false := decide_eq_false (by omega)
   have j2 : ¬ (0 : Int) < (r.length : Int) := by omega
   clear hr0
   have hS_ := SS.out
   obtain ⟨a0, a1, a2, a3, a4, a5⟩ := six_at hS_
   obtain ⟨hR_, hT_⟩ := HEND.out _ rfl wr (fst1 q (wdE zq)) _ _ _ _ _ _ pw ST.out HE.out.1 (fun t _ ht => by rw [HE.out.2 t ht]; exact ⟨SV.nil _ _, SV.nil _ _, rfl⟩)
   obtain ⟨r0, r1, r2, r3, r4, r5⟩ := six_at hR_
   obtain ⟨s0, s1, s2, s3, s4, s5⟩ := six_fz hR_
   have H9 := hidd (And.intro hR_ hT_)
   clear hS_ hR_ hT_
   go_wp2_with fail
   exact bodyPost_ret (ret60 (stor H9.out.1 _ _ _ _ _ _).1 rfl) rfl H9.out.2
  have j2 : (0 : Int) < (r.length : Int) := by omega
  obtain ⟨z, hz⟩ : ∃ z, r[0]? = some z := ⟨_, List.getElem?_eq_getElem (by omega)⟩
  obtain ⟨_, b', o', za, zc, _, rfl, hA', _⟩ := (DR.out : DW rb wr f ra r).at hz
  rw [Nat.zero_mul, Nat.add_zero] at hA'
  obtain ⟨_, z0, z1, z2, z3, z4, z5, _, _⟩ := hA'
  have hbz : Below wr.heap.size wr (wr.alloc (.cells #[.int .i64 z.kind, .int .i64 z.n, .string z.name, .int .i64 z.stamp, .int .i64 z.lib, .slice za z.kids.length zc] 26)) := (Below.refl _ _).alloc (Nat.le_refl _) _
  have hss : (wr.alloc (.cells #[.int .i64 z.kind, .int .i64 z.n, .string z.name, .int .i64 z.stamp, .int .i64 z.lib, .slice za z.kids.length zc] 26)).heap[w3.heap.size + 1]? = some (.cells #[.int .i64 kN, .string ⟨#[]⟩, .slice none 0 0, .slice none 0 0, .string pw, .slice (some ⟨w3.heap.size, 0, none⟩) 1 1] 73 (0, 0)) := upH SS.out hbz
  have HT0 := HEND.out _ rfl (wr.alloc (.cells #[.int .i64 z.kind, .int .i64 z.n, .string z.name, .int .i64 z.stamp, .int .i64 z.lib, .slice za z.kids.length zc] 26)) (fst1 q (wdE zq)) _ _ _ _ _ _ pw (ST.out.and hbz) HE.out.1 (fun t _ ht => by rw [HE.out.2 t ht]; exact ⟨SV.nil _ _, SV.nil _ _, rfl⟩)
  generalize z.kids.length = zn at *
  obtain ⟨W8, hW8⟩ : ∃ W8, wr.alloc (.cells #[.int .i64 z.kind, .int .i64 z.n, .string z.name, .int .i64 z.stamp, .int .i64 z.lib, .slice za zn zc] 26) = W8 := ⟨_, rfl⟩
  rw [hW8] at HT0 hss
  have H8 := hidd (And.intro hss HT0)
  clear hbz hss HT0 hz hr0
  go_upto_region 30 with fail
  clear hW8 z0 z1 z2 z3 z4 z5
  obtain ⟨a0, a1, a2, a3, a4, a5⟩ := six_at H8.out.1
  obtain ⟨r0, r1, r2, r3, r4, r5⟩ := six_at H8.out.2.1
  obtain ⟨s0, s1, s2, s3, s4, s5⟩ := six_fz H8.out.2.1
  go_wp2_with fail
  exact bodyPost_ret (ret60 (stor H8.out.2.1 _ _ _ _ _ _).1 rfl) rfl H8.out.2.2
 have e5 : (kN : Int) = 5 := by omega
 rw [e5] at HS5 ⊢
 have HQ2 := hidd hq2
 have HQ5 : Hid ((5 : Int) = kN) := e5.symm
 clear e5 hq2 k5 k6
 obtain ⟨i0, hinf, hz0, hz1, hz2⟩ := info_partsL infoStr
 have HLr : Hid (∀ j, j < r.length → ∃ z, r[j]? = some z ∧ r.take (j + 1) = r.take j ++ [z] ∧ r.drop j = z :: r.drop (j + 1)) := fun j hj => ⟨_, List.getElem?_eq_getElem hj, by rw [List.take_succ_eq_append_getElem hj], List.drop_eq_getElem_cons hj⟩
 have HE : Hid (erE (restF kN r) = renE r ∧ ∀ t, restF kN r = .ok t → renE r = 0 ∧ t = (r.map n1, r.map n2, ⟨#[]⟩)) := by
  unfold restF
  rw [HQ2.out, if_neg (by decide), if_neg (by decide)]
  by_cases hw : renE r = 0
  ·rw [ren_ok hw, hw]; exact ⟨rfl, fun t ht => ⟨rfl, by cases ht; rfl⟩⟩
  rw [(ren_no hw).1, (ren_no hw).2]; exact ⟨rfl, fun t ht => by cases ht⟩
 go_wp2_with fail
 obtain ⟨B, hB⟩ : ∃ B, B = W5.heap.size := ⟨_, rfl⟩
 have HB : Hid (B = w3.heap.size + 2 ∧ B = W5.heap.size) := ⟨by have := HX4.out; omega, hB⟩
 clear hB
 go_loopw [11, 12, 92] (fun _ _ ix wr => ∃ (j : Nat) (l m : List ByteArray) (va ua : Option Addr) (vc uc : Nat), j ≤ r.length ∧ ix = .int .i64 j ∧ Hid (l.length ≤ j ∧ m.length ≤ j) ∧ Hid ((St rb (fst1 q (renE (r.take j))) W4 wr ∧ wr.heap[w3.heap.size + 1]? = some (.cells #[.int .i64 5, .string ⟨#[]⟩, .slice va l.length vc, .slice ua m.length uc, .string ⟨#[]⟩, .slice (some ⟨w3.heap.size, 0, none⟩) 1 1] 73 (0, 0)) ∧ StrR B l (.slice va l.length vc) wr ∧ StrR B m (.slice ua m.length uc) wr ∧ (∀ q, (Value.slice va l.length vc).ownBlock = some q → (Value.slice ua m.length uc).ownBlock ≠ some q)) ∧ B ≤ wr.heap.size ∧ (q = 0 → renE (r.take j) = 0 → l = (r.take j).map n1 ∧ m = (r.take j).map n2))) (fun _ _ ix _ => r.length - (intOf ix).toNat)
 case atStart => exact ⟨0, [], [], none, none, 0, 0, Nat.zero_le _, rfl, ⟨Nat.le_refl _, Nat.le_refl _⟩, ⟨by rw [List.take_zero, show renE [] = 0 from rfl, fst1_none]; exact HX4.out.1, HS5.out, World.ownsRow_nil _ _ _ _, World.ownsRow_nil _ _ _ _, fun g hg => by cases hg⟩, by rw [HB.out.2]; exact Nat.le_refl _, fun _ _ => ⟨rfl, rfl⟩⟩
 obtain ⟨j, l, m, va, ua, vc, uc, hj, rfl, HJ, HR⟩ := hrel
 have hr2 : r.length ≤ 2000 := HOr.out.2
 by_cases hlt : j < r.length
 rotate_left
 ·obtain rfl : j = r.length := by omega
  have HTA : Hid (r.take r.length = r) := List.take_length
  have hj1 : ¬ ((r.length : Int) < (r.length : Int)) := by omega
  have hj2 : decide ((r.length : Int) < (r.length : Int)) = false := decide_eq_false hj1
  have hS_ := HR.out.1.2.1
  obtain ⟨a0, a1, a2, a3, a4, a5⟩ := six_at hS_
  obtain ⟨hR_, hT_⟩ := HEND.out 5 HQ5.out wr (fst1 q (renE r)) _ _ _ _ _ _ ⟨#[]⟩ (by have := HR.out.1.1; rw [HTA.out] at this; exact this) (by rw [HE.out.1]) (fun t hq0 ht => by obtain ⟨t1, t2⟩ := HE.out.2 t ht; obtain ⟨g1, g2⟩ := HR.out.2.2 hq0 (by rw [HTA.out]; exact t1); rw [HTA.out] at g1 g2; rw [t2, ← g1, ← g2]; exact ⟨HR.out.1.2.2.1.sv.stay (fun _ _ => rfl) (fun k hk => ⟨by have := HX4.out.2.1; have := HB.out.1; have := hk.1; omega, hk.2⟩), HR.out.1.2.2.2.1.sv.stay (fun _ _ => rfl) (fun k hk => ⟨by have := HX4.out.2.1; have := HB.out.1; have := hk.1; omega, hk.2⟩), rfl⟩)
  obtain ⟨r0, r1, r2, r3, r4, r5⟩ := six_at hR_
  obtain ⟨s0, s1, s2, s3, s4, s5⟩ := six_fz hR_
  have H9 := hidd (And.intro hR_ hT_)
  clear hS_ hR_ hT_
  go_wp2_with fail
  exact bodyPost_ret (ret60 (stor H9.out.1 _ _ _ _ _ _).1 rfl) rfl H9.out.2
 obtain ⟨z, hz, htk, hdk⟩ := HLr.out j hlt
 obtain ⟨gz, b', o', za, zc, _, rfl, hA', hzk⟩ := (HR2.out wr _ HR.out.1.1).at hz
 obtain ⟨_, z0, z1, z2, z3, z4, z5, _, hzl⟩ := hA'
 have j1 : (0 : Int) ≤ (j : Int) := by omega
 have j2 : (j : Int) < (r.length : Int) := by omega
 have hbz : Below wr.heap.size wr (wr.alloc (.cells #[.int .i64 z.kind, .int .i64 z.n, .string z.name, .int .i64 z.stamp, .int .i64 z.lib, .slice za z.kids.length zc] 26)) := (Below.refl _ _).alloc (Nat.le_refl _) _
 obtain ⟨e, he⟩ : ∃ e, e = fst1 q (renE (r.take j)) := ⟨_, rfl⟩
 obtain ⟨W1, hW1⟩ : ∃ W1, wr.alloc (.cells #[.int .i64 z.kind, .int .i64 z.n, .string z.name, .int .i64 z.stamp, .int .i64 z.lib, .slice za z.kids.length zc] 26) = W1 := ⟨_, rfl⟩
 have hzb : W1.heap[wr.heap.size]? = some (.cells #[.int .i64 z.kind, .int .i64 z.n, .string z.name, .int .i64 z.stamp, .int .i64 z.lib, .slice za z.kids.length zc] 26 (0, 0)) := by rw [← hW1]; exact World.alloc_heap_new wr _
 rw [hW1] at hbz
 have EW : Hid (E7 rb e W1) := (E4h.out.st (by rw [he]; exact HR.out.1.1.and hbz))
 have H1 : Hid (St rb e W4 W1 ∧ Below wr.heap.size wr W1 ∧ W1.heap[w3.heap.size + 1]? = some (.cells #[.int .i64 5, .string ⟨#[]⟩, .slice va l.length vc, .slice ua m.length uc, .string ⟨#[]⟩, .slice (some ⟨w3.heap.size, 0, none⟩) 1 1] 73 (0, 0)) ∧ W1.heap[wr.heap.size]? = some (.cells #[.int .i64 z.kind, .int .i64 z.n, .string z.name, .int .i64 z.stamp, .int .i64 z.lib, .slice za z.kids.length zc] 26 (0, 0))) := ⟨by rw [he]; exact HR.out.1.1.and hbz, hbz, upH HR.out.1.2.1 hbz, hzb⟩
 have HDZ : Hid (DW rb W1 gz za z.kids ∧ z.kids.length ≤ zc) := ⟨DW.below (rb := rb) hzk hbz, hzl⟩
 have HTK : Hid (r.take (j + 1) = r.take j ++ [z] ∧ r.drop j = z :: r.drop (j + 1)) := ⟨htk, hdk⟩
 have KW : Hid (∀ W e', St rb e' W1 W → (St rb e' W4 W ∧ W.heap[w3.heap.size + 1]? = some (.cells #[.int .i64 5, .string ⟨#[]⟩, .slice va l.length vc, .slice ua m.length uc, .string ⟨#[]⟩, .slice (some ⟨w3.heap.size, 0, none⟩) 1 1] 73 (0, 0)) ∧ StrR B l (.slice va l.length vc) W ∧ StrR B m (.slice ua m.length uc) W ∧ (∀ q, (Value.slice va l.length vc).ownBlock = some q → (Value.slice ua m.length uc).ownBlock ≠ some q)) ∧ B ≤ W.heap.size) := fun W e' hs => by
  have hx := HX4.out
  have hk := fun k (hk : k < wr.heap.size) (hr : k ≠ rb) => (hs.far (Nat.lt_of_lt_of_le hk H1.out.2.1.size) hr).trans (H1.out.2.1.block k hk)
  have hb2 := HB.out.1
  exact ⟨⟨H1.out.1.trans hs, (hs.far (ltH H1.out.2.2.1) (by omega)).trans H1.out.2.2.1, own_keepL HR.out.1.2.2.1 (fun g hg => hk g (own_typeL HR.out.1.2.2.1 g hg).2.1 (by have := (own_typeL HR.out.1.2.2.1 g hg).1; omega)), own_keepL HR.out.1.2.2.2.1 (fun g hg => hk g (own_typeL HR.out.1.2.2.2.1 g hg).2.1 (by have := (own_typeL HR.out.1.2.2.2.1 g hg).1; omega)), HR.out.1.2.2.2.2⟩, Nat.le_trans HR.out.2.1 (Nat.le_trans H1.out.2.1.size hs.size)⟩
 have HEE := hidd he
 have HOZ : Hid (okD z) := okL_mem HOr.out.1 z (List.mem_of_getElem? hz)
 clear hzk htk hdk hz he hbz hzb hzl
 by_cases he0 : e = 0
 rotate_left
 ·have GD := hidd (good1 rb e W1 EW.out he0)
  have HNE := hidd he0
  clear he0
  have HRE : Hid (renE r = fst1 (renE (r.take j)) (renE (r.drop j))) := by
   show _ = _
   rw [← renE_append, List.take_append_drop]
  generalize z.kids.length = zn at *
  go_wp2_with fail
  refine GD.out.mono ?_
  rintro en wm ⟨rfl, hwm⟩
  rw [hwm]
  clear hwm hW1 z0 z1 z2 z3 z4 z5 GD
  go_upto_region 30 with fail
  have hS_ := H1.out.2.2.1
  obtain ⟨a0, a1, a2, a3, a4, a5⟩ := six_at hS_
  obtain ⟨hR_, hT_⟩ := HEND.out 5 HQ5.out W1 e va ua l.length vc m.length uc ⟨#[]⟩ H1.out.1 (by rw [HE.out.1, HRE.out, fst1_fst1, ← HEE.out, fst1_no HNE.out]) (fun t hq0 ht => absurd (show e = 0 by rw [HEE.out, hq0, fst1_zero]; have h := (HE.out.2 t ht).1; rw [HRE.out] at h; exact (fst1_eq0 h).1) HNE.out)
  obtain ⟨r0, r1, r2, r3, r4, r5⟩ := six_at hR_
  obtain ⟨s0, s1, s2, s3, s4, s5⟩ := six_fz hR_
  have H9 := hidd (And.intro hR_ hT_)
  clear hS_ hR_ hT_
  go_wp2_with fail
  exact bodyPost_ret (ret60 (stor H9.out.1 _ _ _ _ _ _).1 rfl) rfl H9.out.2
 subst he0
 have GD := hidd (good0 rb W1 EW.out)
 have NE := hidd (need_any rb gz 0 z za zc W1 2 EW.out (Or.inr (Or.inl rfl)) HDZ.out.1 HDZ.out.2)
 unfold dv at NE
 generalize z.kids.length = zn at *
 go_wp2_with fail
 refine GD.out.mono ?_
 rintro en wm ⟨rfl, hwm⟩
 rw [hwm]
 clear hwm hW1 z0 z1 z2 z3 z4 z5
 obtain ⟨z0, z1, z2, z3, z4, z5⟩ := six_at H1.out.2.2.2
 go_wp2_with fail
 refine NE.out.mono ?_
 rintro en w2 ⟨ka, kc2, fk, rfl, hkc, hkd, hs2⟩
 rw [fst1_zero] at hs2
 have hnl : (needD z 2).length ≤ 2000 := (needD_ok HOZ.out 2 (Or.inr (Or.inl rfl))).2
 have WD := hidd (words_any rb fk (needE z 2) (needD z 2) ka kc2 w2 (EW.out.st hs2) hkd (by omega) hkc)
 have HS2 := hidd hs2
 obtain ⟨ln, hln⟩ : ∃ ln, ln = (needD z 2).length := ⟨_, rfl⟩
 have HLn := hidd hln
 rw [← hln] at WD ⊢
 clear hln hkc hkd hs2 NE hnl z0 z1 z2 z3 z4 z5
 go_wp2_with fail
 refine WD.out.mono ?_
 rintro en w4 ⟨v, rfl, hv, hs4⟩
 clear WD
 obtain ⟨ka', kc, hvv, hvc⟩ := own_sliceL hv
 rw [List.length_map, ← HLn.out] at hvv
 subst hvv
 have H4 : Hid (St rb (fst1 (needE z 2) (wordsE (needD z 2))) W1 w4 ∧ StrR w2.heap.size ((needD z 2).map wdS) (.slice ka' ln kc) w4 ∧ W1.heap.size ≤ w2.heap.size) := ⟨HS2.out.trans hs4, hv, HS2.out.size⟩
 clear hv hs4 hvc
 by_cases hl2 : ln = 2
 rotate_left
 ·have n3 : ((ln : Int) == 2) = false := by simp; omega
  have n4 : decide ((ln : Int) = 2) = false := decide_eq_false (by omega)
  have n5 : ¬ ((ln : Int) = 2) := by omega
  have HPE : Hid (fst1 (fst1 (needE z 2) (wordsE (needD z 2))) 2 = pairE z) := by
   show _ = _
   unfold pairE
   rw [if_neg (by rw [← HLn.out]; exact hl2)]
  have HPN : Hid (pairE z ≠ 0) := fun h => by
   have := fst1_eq0 (HPE.out.trans h)
   exact absurd this.2 (by decide)
  have SP := hidd (stop_any rb _ 2 w4 (EW.out.st H4.out.1))
  clear hl2
  go_wp2_with fail
  refine SP.out.mono ?_
  rintro en w5 ⟨rfl, hs5⟩
  rw [HPE.out] at hs5
  have HSt := hidd (H4.out.1.trans hs5)
  have GD2 := hidd (good1 rb (pairE z) w5 (EW.out.st HSt.out) HPN.out)
  clear hs5 SP n3 n4 n5
  go_wp2_with fail
  refine GD2.out.mono ?_
  rintro en wm ⟨rfl, hwm⟩
  rw [hwm]
  clear hwm GD2 GD
  go_wp2_with fail
  go_roundw
  case rel =>
   refine ⟨j + 1, l, m, va, ua, vc, uc, hlt, by go_num, by have := HJ.out; exact ⟨by omega, by omega⟩, ?_⟩
   have e0 := fst1_eq0 HEE.out.symm
   have e1 : renE (r.take (j + 1)) = pairE z := by rw [HTK.out.1, renE_snoc, e0.2, fst1_zero]
   rw [e1, e0.1, fst1_zero]
   exact ⟨(KW.out w5 _ HSt.out).1, (KW.out w5 _ HSt.out).2, fun _ h => absurd h HPN.out⟩
  case measure => simp [intOf]; omega
 have n3 : ((ln : Int) == 2) = true := by rw [hl2]; rfl
 have n4 : decide ((ln : Int) = 2) = true := by rw [hl2]; rfl
 have HPE : Hid (fst1 (needE z 2) (wordsE (needD z 2)) = pairE z) := by
  show _ = _
  unfold pairE
  rw [if_pos (by rw [← HLn.out]; exact hl2), fst1_none]
 have HLN := hidd hl2
 clear hl2
 have EW4 : Hid (E7 rb (pairE z) w4) := by rw [← HPE.out]; exact EW.out.st H4.out.1
 by_cases hp0 : pairE z = 0
 rotate_left
 ·have GD2 := hidd (good1 rb (pairE z) w4 EW4.out hp0)
  have HPN := hidd hp0
  have HSt : Hid (St rb (pairE z) W1 w4) := by rw [← HPE.out]; exact H4.out.1
  clear hp0
  go_wp2_with fail
  refine GD2.out.mono ?_
  rintro en wm ⟨rfl, hwm⟩
  rw [hwm]
  clear hwm n3 n4 GD2 GD
  go_wp2_with fail
  go_roundw
  case rel =>
   refine ⟨j + 1, l, m, va, ua, vc, uc, hlt, by go_num, by have := HJ.out; exact ⟨by omega, by omega⟩, ?_⟩
   have e0 := fst1_eq0 HEE.out.symm
   have e1 : renE (r.take (j + 1)) = pairE z := by rw [HTK.out.1, renE_snoc, e0.2, fst1_zero]
   rw [e1, e0.1, fst1_zero]
   exact ⟨(KW.out w4 _ HSt.out).1, (KW.out w4 _ HSt.out).2, fun _ h => absurd h HPN.out⟩
  case measure => simp [intOf]; omega
 have GD2 := hidd (good0 rb w4 (by have := EW4.out; rw [hp0] at this; exact this))
 have HP0 := hidd hp0
 clear hp0
 go_wp2_with fail
 refine GD2.out.mono ?_
 rintro en wm ⟨rfl, hwm⟩
 rw [hwm]
 clear hwm n3 n4 GD2 GD
 obtain ⟨g', kc0, hve, hkc0, hgB, hgs, hgo, hcell⟩ := StrR.at H4.out.2.1 (by rw [(pairE_ok HP0.out).2]; simp)
 have hve2 : ka' = some ⟨g', 0, none⟩ := by injection hve
 subst hve2
 rw [(pairE_ok HP0.out).2] at hcell
 have q0 := hcell 0 _ rfl
 have q1 := hcell 1 _ rfl
 have PXA : Hid (RP rb (w3.heap.size + 1) B g' W4 (.int .i64 5) (.slice (some ⟨w3.heap.size, 0, none⟩) 1 1) (n1 z) (n2 z) l m (.slice va l.length vc) (.slice ua m.length uc) w4) := by
  have h0 := H4.out.1
  rw [HPE.out, HP0.out] at h0
  obtain ⟨k1', k2'⟩ := KW.out w4 0 h0
  have hx := HX4.out
  have hb2 := HB.out.1
  have hw1 := H1.out.2.1.size
  have hw2 := H4.out.2.2
  refine ⟨k1', ⟨q0, q1, hgs, fun q hq => ?_, fun q hq => ?_⟩, k2', by omega, by omega, by have := HR.out.2.1; omega⟩
  ·have := (own_typeL HR.out.1.2.2.1 q hq).2.1; omega
  have := (own_typeL HR.out.1.2.2.2.1 q hq).2.1; omega
 obtain ⟨x', hx'⟩ : ∃ x', x' = n1 z := ⟨_, rfl⟩
 obtain ⟨y', hy'⟩ : ∃ y', y' = n2 z := ⟨_, rfl⟩
 have HXY : Hid (x' = n1 z ∧ y' = n2 z) := ⟨hx', hy'⟩
 rw [← hx', ← hy'] at PXA
 clear hve hkc0 hgB hgs hgo hcell q0 q1 hx' hy'
 go_upto_region 27 with fail
 have PX_0 := hidd (PXA.out.below (Below.refl _ _).drew)
 have HS0 : (w4.drew).cell? ⟨g', 0, none⟩ = some (.string x') := PX_0.out.2.1.1
 refine wp_region_held_drew (S := (fun u => u.cell? ⟨g', 0, none⟩ = some (.string x'))) (by kernel_rfl) HS0 (fun hS => ?_)
 clear HS0
 apply cutJ (fun g2 cp2 w4 => w4.heap[w3.heap.size + 1]? = some (.cells #[.int .i64 5, .string ⟨#[]⟩, .slice va l.length vc, .slice ua m.length uc, .string ⟨#[]⟩, .slice (some ⟨w3.heap.size, 0, none⟩) 1 1] 73 (0, 0)) ∧ w4.cell? ⟨g', 0, none⟩ = some (.string x') ∧ (w4.setCell ⟨w3.heap.size + 1, 2, none⟩ (.slice (some ⟨g2, 0, none⟩) (l.length + 1) cp2)).cell? ⟨g', 0, none⟩ = some (.string x') ∧ RP rb (w3.heap.size + 1) B g' W4 (.int .i64 5) (.slice (some ⟨w3.heap.size, 0, none⟩) 1 1) x' y' (l ++ [x']) m (.slice (some ⟨g2, 0, none⟩) (l.length + 1) cp2) (.slice ua m.length uc) (w4.setCell ⟨w3.heap.size + 1, 2, none⟩ (.slice (some ⟨g2, 0, none⟩) (l.length + 1) cp2)))
 ·intro TL
  refine tk 0 (.pointer (some ⟨w3.heap.size + 1, 2, none⟩)) rfl (Or.inl ⟨by rfl, fun u hu => by go_simp⟩) hS ?_
  simp only [Act.put, aP]
  refine tk 2 (.slice (some ⟨g', 0, none⟩) ln kc) rfl (Or.inl ⟨by rfl, fun u hu => by go_simp⟩) hS ?_
  simp only [Act.put, aP]
  refine tk 3 (.pointer (some ⟨g', 0, none⟩)) rfl (Or.inl ⟨by rfl, fun u hu => by (have b0 : (0 : Int) ≤ 0 := (by omega); have b1 : (0 : Int) < (ln : Int) := (by have := HLN.out; omega); have b2 : ¬ ln = 0 := (by have := HLN.out; omega); go_simp)⟩) hS ?_
  simp only [Act.put, aP]
  refine tk 4 (.string x') rfl (Or.inl ⟨by rfl, fun u hu => by (have z := hu; go_simp)⟩) hS ?_
  simp only [Act.put, aP]
  refine rdy [1, 5] (.cons rfl (fun K hK => ?_) (.cons rfl (fun K hK => ?_) .nil))
  ·have zo : World.cell? (w4.drew) ⟨w3.heap.size + 1, 2, none⟩ = some (.slice va l.length vc) := (cellO PX_0.out.1.2.1).trans rfl
   go_simp
   clear zo
   refine hK.out _ _ hS (fun hS => ?_)
   clear hK K
   refine rdy [5] (.cons rfl (fun K hK => ?_) .nil)
   go_simp
   have hb1 : Below (w4.drew).heap.size (w4.drew) (World.alloc (w4.drew) (.cells #[.string x'] 9)) := (Below.refl _ _).alloc (Nat.le_refl _) _
   have ON_1 := hidd (one_newsS (w4.drew) (.string x') 9)
   have hS1 : (World.alloc (w4.drew) (.cells #[.string x'] 9)).cell? ⟨g', 0, none⟩ = some (.string x') := (hb1.cell (p := ⟨g', 0, none⟩) PX_0.out.2.1.2.2.1).trans hS
   have PX_1 := hidd (PX_0.out.below hb1)
   have hz1 : (World.alloc (w4.drew) (.cells #[.string x'] 9)).heap.size = (w4.drew).heap.size + 1 := by simp
   have HZ_1 := hidd hz1
   clear hz1
   change K _ (World.alloc (w4.drew) (.cells #[.string x'] 9))
   obtain ⟨U1, hU1⟩ : ∃ U, (World.alloc (w4.drew) (.cells #[.string x'] 9)) = U := ⟨_, rfl⟩
   rw [hU1] at PX_1 ON_1 hS1 hb1 HZ_1 ⊢
   clear hU1 hb1
   refine hK.out _ _ hS1 (fun hS => ?_)
   clear hK K
   refine rdy [6] (.cons rfl (fun K hK => ?_) .nil)
   refine step_append_lies _ rfl (.tmp 116) (.tmp 120) 23 rfl B 9 i0 _ 1 16 Tryz.underlying23 hinf hz0 hz1 hz2 rfl (by decide) (.slice va l.length vc) l.length (l.map Value.string) rfl (by exact PX_1.out.1.2.2.1) ⟨(w4).heap.size, 0, none⟩ 1 1 [.string x'] rfl rfl (by exact ON_1.out) (by intro u hu; simp at hu; subst hu; rfl) (by decide) (by have := HJ.out.1; have := HOr.out.2; unfold maxLen; omega) (by have := HJ.out.1; have := HOr.out.2; omega) PX_1.out.2.2.1 _ rfl ?_
   intro g2 cp2 w4 hown hgrow hat hlt4
   have HP := RP.put2 PX_1.out hown (by simp) hgrow hat
   refine hK.out _ _ HP.2.1 (fun hS => ?_)
   exact TL.out g2 cp2 w4 HP
  go_simp
  have hb1 : Below (w4.drew).heap.size (w4.drew) (World.alloc (w4.drew) (.cells #[.string x'] 9)) := (Below.refl _ _).alloc (Nat.le_refl _) _
  have ON_1 := hidd (one_newsS (w4.drew) (.string x') 9)
  have hS1 : (World.alloc (w4.drew) (.cells #[.string x'] 9)).cell? ⟨g', 0, none⟩ = some (.string x') := (hb1.cell (p := ⟨g', 0, none⟩) PX_0.out.2.1.2.2.1).trans hS
  have PX_1 := hidd (PX_0.out.below hb1)
  have hz1 : (World.alloc (w4.drew) (.cells #[.string x'] 9)).heap.size = (w4.drew).heap.size + 1 := by simp
  have HZ_1 := hidd hz1
  clear hz1
  change K _ (World.alloc (w4.drew) (.cells #[.string x'] 9))
  obtain ⟨U1, hU1⟩ : ∃ U, (World.alloc (w4.drew) (.cells #[.string x'] 9)) = U := ⟨_, rfl⟩
  rw [hU1] at PX_1 ON_1 hS1 hb1 HZ_1 ⊢
  clear hU1 hb1
  refine hK.out _ _ hS1 (fun hS => ?_)
  clear hK K
  refine rdy [1] (.cons rfl (fun K hK => ?_) .nil)
  have zo : World.cell? (U1) ⟨w3.heap.size + 1, 2, none⟩ = some (.slice va l.length vc) := (cellO PX_1.out.1.2.1).trans rfl
  go_simp
  clear zo
  refine hK.out _ _ hS (fun hS => ?_)
  clear hK K
  refine rdy [6] (.cons rfl (fun K hK => ?_) .nil)
  refine step_append_lies _ rfl (.tmp 116) (.tmp 120) 23 rfl B 9 i0 _ 1 16 Tryz.underlying23 hinf hz0 hz1 hz2 rfl (by decide) (.slice va l.length vc) l.length (l.map Value.string) rfl (by exact PX_1.out.1.2.2.1) ⟨(w4).heap.size, 0, none⟩ 1 1 [.string x'] rfl rfl (by exact ON_1.out) (by intro u hu; simp at hu; subst hu; rfl) (by decide) (by have := HJ.out.1; have := HOr.out.2; unfold maxLen; omega) (by have := HJ.out.1; have := HOr.out.2; omega) PX_1.out.2.2.1 _ rfl ?_
  intro g2 cp2 w4 hown hgrow hat hlt4
  have HP := RP.put2 PX_1.out hown (by simp) hgrow hat
  refine hK.out _ _ HP.2.1 (fun hS => ?_)
  exact TL.out g2 cp2 w4 HP
 intro g2 cp2 w4 HP0
 have hS := HP0.2.1
 have HP := hidd HP0
 clear HP0
 refine tk 7 (.pointer (some ⟨w3.heap.size + 1, 2, none⟩)) rfl (Or.inl ⟨by rfl, fun u hu => by go_simp⟩) hS ?_
 simp only [Act.put, aP]
 refine rdy [8] (.cons rfl (fun K hK => ?_) .nil)
 have y5 : World.cell? w4 ⟨w3.heap.size + 1, 2, none⟩ = some (.slice va l.length vc) := (cellO HP.out.1).trans rfl
 have u5 : World.frozen? w4 ⟨w3.heap.size + 1, 2, none⟩ = false := looseO HP.out.1
 go_simp
 clear y5 u5
 refine hK.out _ _ HP.out.2.2.1 (fun hS => ?_)
 clear hK K
 refine wpAnyH_done (by kernel_rfl) ?_ _
 have HPB0 := hidd HP.out.2.2.2
 obtain ⟨wB, hwB⟩ : ∃ wB, (w4.setCell ⟨w3.heap.size + 1, 2, none⟩ (.slice (some ⟨g2, 0, none⟩) (l.length + 1) cp2)) = wB := ⟨_, rfl⟩
 rw [hwB] at HPB0 ⊢
 have HPB := HPB0
 clear HPB0 hwB HP hS
 go_upto_region 28 with fail
 have PX_0 := hidd (HPB.out.below (Below.refl _ _).drew)
 have HS0 : (wB.drew).cell? ⟨g', 1, none⟩ = some (.string y') := PX_0.out.2.1.2.1
 refine wp_region_held_drew (S := (fun u => u.cell? ⟨g', 1, none⟩ = some (.string y'))) (by kernel_rfl) HS0 (fun hS => ?_)
 clear HS0
 apply cutJ (fun g3 cp3 w4 => w4.heap[w3.heap.size + 1]? = some (.cells #[.int .i64 5, .string ⟨#[]⟩, .slice (some ⟨g2, 0, none⟩) (l.length + 1) cp2, .slice ua m.length uc, .string ⟨#[]⟩, .slice (some ⟨w3.heap.size, 0, none⟩) 1 1] 73 (0, 0)) ∧ w4.cell? ⟨g', 1, none⟩ = some (.string y') ∧ (w4.setCell ⟨w3.heap.size + 1, 3, none⟩ (.slice (some ⟨g3, 0, none⟩) (m.length + 1) cp3)).cell? ⟨g', 1, none⟩ = some (.string y') ∧ RP rb (w3.heap.size + 1) B g' W4 (.int .i64 5) (.slice (some ⟨w3.heap.size, 0, none⟩) 1 1) x' y' (l ++ [x']) (m ++ [y']) (.slice (some ⟨g2, 0, none⟩) (l.length + 1) cp2) (.slice (some ⟨g3, 0, none⟩) (m.length + 1) cp3) (w4.setCell ⟨w3.heap.size + 1, 3, none⟩ (.slice (some ⟨g3, 0, none⟩) (m.length + 1) cp3)))
 ·intro TL
  refine tk 0 (.pointer (some ⟨w3.heap.size + 1, 3, none⟩)) rfl (Or.inl ⟨by rfl, fun u hu => by go_simp⟩) hS ?_
  simp only [Act.put, aP]
  refine tk 2 (.slice (some ⟨g', 0, none⟩) ln kc) rfl (Or.inl ⟨by rfl, fun u hu => by go_simp⟩) hS ?_
  simp only [Act.put, aP]
  refine tk 3 (.pointer (some ⟨g', 1, none⟩)) rfl (Or.inl ⟨by rfl, fun u hu => by (have b0 : (0 : Int) ≤ 1 := (by omega); have b1 : (1 : Int) < (ln : Int) := (by have := HLN.out; omega); have b2 : ¬ ln = 0 := (by have := HLN.out; omega); go_simp)⟩) hS ?_
  simp only [Act.put, aP]
  refine tk 4 (.string y') rfl (Or.inl ⟨by rfl, fun u hu => by (have z := hu; go_simp)⟩) hS ?_
  simp only [Act.put, aP]
  refine rdy [1, 5] (.cons rfl (fun K hK => ?_) (.cons rfl (fun K hK => ?_) .nil))
  ·have zo : World.cell? (wB.drew) ⟨w3.heap.size + 1, 3, none⟩ = some (.slice ua m.length uc) := (cellO PX_0.out.1.2.1).trans rfl
   go_simp
   clear zo
   refine hK.out _ _ hS (fun hS => ?_)
   clear hK K
   refine rdy [5] (.cons rfl (fun K hK => ?_) .nil)
   go_simp
   have hb1 : Below (wB.drew).heap.size (wB.drew) (World.alloc (wB.drew) (.cells #[.string y'] 9)) := (Below.refl _ _).alloc (Nat.le_refl _) _
   have ON_1 := hidd (one_newsS (wB.drew) (.string y') 9)
   have hS1 : (World.alloc (wB.drew) (.cells #[.string y'] 9)).cell? ⟨g', 1, none⟩ = some (.string y') := (hb1.cell (p := ⟨g', 1, none⟩) PX_0.out.2.1.2.2.1).trans hS
   have PX_1 := hidd (PX_0.out.below hb1)
   have hz1 : (World.alloc (wB.drew) (.cells #[.string y'] 9)).heap.size = (wB.drew).heap.size + 1 := by simp
   have HZ_1 := hidd hz1
   clear hz1
   change K _ (World.alloc (wB.drew) (.cells #[.string y'] 9))
   obtain ⟨U1, hU1⟩ : ∃ U, (World.alloc (wB.drew) (.cells #[.string y'] 9)) = U := ⟨_, rfl⟩
   rw [hU1] at PX_1 ON_1 hS1 hb1 HZ_1 ⊢
   clear hU1 hb1
   refine hK.out _ _ hS1 (fun hS => ?_)
   clear hK K
   refine rdy [6] (.cons rfl (fun K hK => ?_) .nil)
   refine step_append_lies _ rfl (.tmp 124) (.tmp 128) 23 rfl B 9 i0 _ 1 16 Tryz.underlying23 hinf hz0 hz1 hz2 rfl (by decide) (.slice ua m.length uc) m.length (m.map Value.string) rfl (by exact PX_1.out.1.2.2.2.1) ⟨(wB).heap.size, 0, none⟩ 1 1 [.string y'] rfl rfl (by exact ON_1.out) (by intro u hu; simp at hu; subst hu; rfl) (by decide) (by have := HJ.out.2; have := HOr.out.2; unfold maxLen; omega) (by have := HJ.out.2; have := HOr.out.2; omega) PX_1.out.2.2.1 _ rfl ?_
   intro g3 cp3 w4 hown hgrow hat hlt4
   have HP := RP.put3 PX_1.out hown (by simp) hgrow hat
   refine hK.out _ _ HP.2.1 (fun hS => ?_)
   exact TL.out g3 cp3 w4 HP
  go_simp
  have hb1 : Below (wB.drew).heap.size (wB.drew) (World.alloc (wB.drew) (.cells #[.string y'] 9)) := (Below.refl _ _).alloc (Nat.le_refl _) _
  have ON_1 := hidd (one_newsS (wB.drew) (.string y') 9)
  have hS1 : (World.alloc (wB.drew) (.cells #[.string y'] 9)).cell? ⟨g', 1, none⟩ = some (.string y') := (hb1.cell (p := ⟨g', 1, none⟩) PX_0.out.2.1.2.2.1).trans hS
  have PX_1 := hidd (PX_0.out.below hb1)
  have hz1 : (World.alloc (wB.drew) (.cells #[.string y'] 9)).heap.size = (wB.drew).heap.size + 1 := by simp
  have HZ_1 := hidd hz1
  clear hz1
  change K _ (World.alloc (wB.drew) (.cells #[.string y'] 9))
  obtain ⟨U1, hU1⟩ : ∃ U, (World.alloc (wB.drew) (.cells #[.string y'] 9)) = U := ⟨_, rfl⟩
  rw [hU1] at PX_1 ON_1 hS1 hb1 HZ_1 ⊢
  clear hU1 hb1
  refine hK.out _ _ hS1 (fun hS => ?_)
  clear hK K
  refine rdy [1] (.cons rfl (fun K hK => ?_) .nil)
  have zo : World.cell? (U1) ⟨w3.heap.size + 1, 3, none⟩ = some (.slice ua m.length uc) := (cellO PX_1.out.1.2.1).trans rfl
  go_simp
  clear zo
  refine hK.out _ _ hS (fun hS => ?_)
  clear hK K
  refine rdy [6] (.cons rfl (fun K hK => ?_) .nil)
  refine step_append_lies _ rfl (.tmp 124) (.tmp 128) 23 rfl B 9 i0 _ 1 16 Tryz.underlying23 hinf hz0 hz1 hz2 rfl (by decide) (.slice ua m.length uc) m.length (m.map Value.string) rfl (by exact PX_1.out.1.2.2.2.1) ⟨(wB).heap.size, 0, none⟩ 1 1 [.string y'] rfl rfl (by exact ON_1.out) (by intro u hu; simp at hu; subst hu; rfl) (by decide) (by have := HJ.out.2; have := HOr.out.2; unfold maxLen; omega) (by have := HJ.out.2; have := HOr.out.2; omega) PX_1.out.2.2.1 _ rfl ?_
  intro g3 cp3 w4 hown hgrow hat hlt4
  have HP := RP.put3 PX_1.out hown (by simp) hgrow hat
  refine hK.out _ _ HP.2.1 (fun hS => ?_)
  exact TL.out g3 cp3 w4 HP
 intro g3 cp3 w4 HP0
 have hS := HP0.2.1
 have HP := hidd HP0
 clear HP0
 refine tk 7 (.pointer (some ⟨w3.heap.size + 1, 3, none⟩)) rfl (Or.inl ⟨by rfl, fun u hu => by go_simp⟩) hS ?_
 simp only [Act.put, aP]
 refine rdy [8] (.cons rfl (fun K hK => ?_) .nil)
 have y5 : World.cell? w4 ⟨w3.heap.size + 1, 3, none⟩ = some (.slice ua m.length uc) := (cellO HP.out.1).trans rfl
 have u5 : World.frozen? w4 ⟨w3.heap.size + 1, 3, none⟩ = false := looseO HP.out.1
 go_simp
 clear y5 u5
 refine hK.out _ _ HP.out.2.2.1 (fun hS => ?_)
 clear hK K
 refine wpAnyH_done (by kernel_rfl) ?_ _
 have HF := hidd HP.out.2.2.2
 obtain ⟨Wf, hWf⟩ : ∃ Wf, (w4.setCell ⟨w3.heap.size + 1, 3, none⟩ (.slice (some ⟨g3, 0, none⟩) (m.length + 1) cp3)) = Wf := ⟨_, rfl⟩
 rw [hWf] at HF ⊢
 clear hWf HP hS
 go_wp2_with fail
 go_roundw
 case rel =>
  refine ⟨j + 1, l ++ [x'], m ++ [y'], some ⟨g2, 0, none⟩, some ⟨g3, 0, none⟩, cp2, cp3, hlt, by go_num, ?_, ?_⟩
  ·have := HJ.out; exact ⟨by simp; omega, by simp; omega⟩
  have e0 := fst1_eq0 HEE.out.symm
  have e1 : renE (r.take (j + 1)) = 0 := by rw [HTK.out.1, renE_snoc, e0.2, HP0.out]; rfl
  have f1 : (l ++ [x']).length = l.length + 1 := by simp
  have f2 : (m ++ [y']).length = m.length + 1 := by simp
  rw [f1, f2, e1, e0.1]
  refine ⟨HF.out.1, HF.out.2.2.1, fun _ _ => ?_⟩
  obtain ⟨g1, g2⟩ := HR.out.2.2 e0.1 e0.2
  rw [HTK.out.1, List.map_append, List.map_append, ← g1, ← g2, HXY.out.1, HXY.out.2]
  exact ⟨rfl, rfl⟩
 case measure => simp [intOf]; omega
end Go.Proofs.YtonafbennobgdaaGreatDoor.R3
