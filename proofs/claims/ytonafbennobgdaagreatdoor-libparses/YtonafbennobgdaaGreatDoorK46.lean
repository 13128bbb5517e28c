/- The document's walk over declarations: any declaration, over those within. -/
import Derived.Test.YtonafbennobgdaaGreatDoorK45
import Derived.Test.YtonafbennobgdaaGreatDoorK16
import Derived.Deep.DeepCutAuto
namespace Go.Proofs.YtonafbennobgdaaGreatDoor.R3
set_option linter.unusedVariables false
set_option linter.unusedSimpArgs false
open Go.RowKit
set_option maxRecDepth 100000 in
set_option maxHeartbeats 25600000 in
theorem decl_over (rb f : Nat) (fv tv lv : Value) (E : Env) (s : LibS) (d : Dat) (a : Option Addr) (cap : Nat) (w : World) (h : WL rb fv tv lv s 0 w) (hd : Dc (fun k => k < rb) w f a d.kids) (hc : d.kids.length ≤ cap) (ho : okD d) (hzr : zrD d) (hE : EnvM rb E fv tv lv w)
 (HH0 : ∀ x, SizeOf.sizeOf x < SizeOf.sizeOf d → okD x → zrD x → ∀ g xa xc W s, WL rb fv tv lv s 0 W → Dc (fun k => k < rb) W g xa x.kids → x.kids.length ≤ xc → EnvM rb E fv tv lv W → Calls Tryz.prog 36 #[.pointer (some ⟨rb, 0, none⟩), dv x xa xc] W (TellD rb fv tv lv (declD E x s) W)) :
 Calls Tryz.prog 36 #[.pointer (some ⟨rb, 0, none⟩), dv d a cap] w (TellD rb fv tv lv (declD E d s) w) := by
 have hb0 : Below w.heap.size w (w.alloc (.cells #[.int .i64 d.kind, .int .i64 d.n, .string d.name, .int .i64 d.stamp, .int .i64 d.lib, .slice a d.kids.length cap] 26)) := (Below.refl _ _).alloc (Nat.le_refl _) _
 obtain ⟨W0, hW0⟩ : ∃ W0, w.alloc (.cells #[.int .i64 d.kind, .int .i64 d.n, .string d.name, .int .i64 d.stamp, .int .i64 d.lib, .slice a d.kids.length cap] 26) = W0 := ⟨_, rfl⟩
 have g2 : W0.heap[w.heap.size]? = some (.cells #[.int .i64 d.kind, .int .i64 d.n, .string d.name, .int .i64 d.stamp, .int .i64 d.lib, .slice a d.kids.length cap] 26 (0, 0)) := by rw [← hW0]; exact World.alloc_heap_new w _
 rw [hW0] at hb0
 obtain ⟨y0, y1, y2, y3, y4, y5⟩ := six_at g2
 have H0 := hidd (h.below hb0)
 have E0 := hidd H0.out.e7
 have hbr : Below rb w W0 := hb0.mono (Nat.le_of_lt h.lt)
 have B0 := hidd hbr
 have D0 : Hid (Dc (fun k => k < rb) W0 f a d.kids) := hd.below hbr
 have N0 := hidd (hE.below hbr)
 have HO := hidd ho
 have HH := hidd HH0
 have HI := hidd hc
 clear h hd hE hb0 ho HH0 hc hbr g2
 by_cases hk : d.kind = 4 ∧ 1 ≤ d.kids.length
 rotate_left
 ·have NE := hidd (need_no rb 0 d a cap W0 1 E0.out (Or.inl rfl) hk)
  have HND : Hid (needD d 1 = zeroD :: []) := if_neg hk
  have HNE : Hid (needE d 1 = 2) := if_neg hk
  unfold dv at NE ⊢
  clear hk
  generalize d.kids.length = kn at *
  go_enter Tryz.func36, Tryz.ntmps36
  go_wp2_with fail
  refine NE.out.mono ?_
  rintro en w1 ⟨zb, rfl, hz, hdz, hs1⟩
  obtain ⟨_, b, o, xa, xc, hff, hbq, hA, hrr⟩ := hdz.at (i := 0) (d := zeroD) rfl
  clear hff hrr
  cases hbq
  rw [Nat.zero_mul, Nat.add_zero] at hA
  have WD := hidd (word_any rb 2 zeroD xa xc w1 (E0.out.st hs1))
  clear hdz
  generalize zeroD = zz at hA WD HND
  obtain ⟨_, c0, c1, c2, c3, c4, c5, _, _⟩ := hA
  rw [Nat.zero_add] at c1 c2 c3 c4 c5
  have H1 : Hid (WL rb fv tv lv s 2 w1 ∧ Below rb W0 w1) := ⟨H0.out.st hs1, hs1.lowr E0.out⟩
  unfold dv at WD
  generalize zz.kids.length = zn at *
  clear hs1 NE hW0 y0 y1 y2 y3 y4 y5
  go_wp2_with fail
  refine WD.out.mono ?_
  rintro en w2 ⟨rfl, hs2⟩
  have H2 : Hid (E7 rb 2 w2 ∧ St rb 2 w1 w2) := ⟨H1.out.1.e7.st hs2, hs2⟩
  have GD := hidd (good1 rb 2 w2 H2.out.1 (by decide))
  clear hs2 WD
  have HBB := hidd (decl_bad (E := E) (s := s) HND.out (by rw [HNE.out, fst1_no (by decide)]; decide))
  go_wp2_with fail
  refine GD.out.mono ?_
  rintro en wm ⟨rfl, hwm⟩
  rw [hwm]
  clear hwm
  go_wp2_with fail
  go_end0
  rw [HBB.out.1]
  refine ⟨rfl, B0.out.trans (H1.out.2.trans (H2.out.2.lowr H1.out.1.e7)), s, ?_, fun c hc => by cases hc⟩
  obtain ⟨is, es, ev, iv, bv, h1, h2⟩ := H1.out.1
  exact ⟨is, es, ev, iv, bv, h1.st id H2.out.2, h2⟩
 have NE := hidd (need_ok rb d a cap W0 1 hk.1 hk.2)
 obtain ⟨x, r, hxr⟩ : ∃ x r, d.kids = x :: r := by
  match hq : d.kids, hk.2 with
  | x :: r, _ => exact ⟨x, r, rfl⟩
 have hnd : needD d 1 = x :: r := by rw [← hxr]; exact if_pos hk
 have hne : needE d 1 = 0 := if_pos hk
 obtain ⟨_, b, o, xa, xc, _, ha, hA, _⟩ := D0.out.at (i := 0) (d := x) (by rw [hxr]; rfl)
 subst ha
 rw [Nat.zero_mul, Nat.add_zero] at hA
 have HX : Hid (∀ W, Below W0.heap.size W0 W → DAt (fun k => k < rb) W b o x xa xc) := fun W hb => hA.below (hb.mono (Nat.le_of_lt H0.out.lt))
 obtain ⟨oL1, oL2⟩ := okD_list HO.out hk.1
 rw [hxr] at oL1 oL2
 have HOR : Hid (okL r ∧ r.length ≤ 2000) := ⟨oL2.2, by simp at oL1; omega⟩
 have HZR : Hid (zrL r) := by
  have h1 := zrD_list hzr hk.1
  rw [hxr, zrL] at h1
  exact h1.2
 clear hzr
 have HKN : Hid (d.kids.length = r.length + 1) := by show _ = _; rw [hxr]; rfl
 have HDR0 : Hid (∀ W, Below rb W0 W → Dc (fun k => k < rb) W f (some ⟨b, o, none⟩) (x :: r)) := fun W hb => by rw [← hxr]; exact D0.out.below hb
 have HSZ : Hid (∀ z ∈ r, SizeOf.sizeOf z < SizeOf.sizeOf d) := fun z hz => by
  have h5 := List.sizeOf_lt_of_mem (show z ∈ d.kids by rw [hxr]; exact List.mem_cons_of_mem _ hz)
  have h6 : SizeOf.sizeOf d.kids < SizeOf.sizeOf d := by cases d; simp; omega
  omega
 have WD : Hid (∀ W, Below W0.heap.size W0 W → Calls Tryz.prog 32 #[.pointer (some ⟨rb, 0, none⟩), dv x xa xc] W fun en w' => en = .returned (.string (wdS x)) ∧ St rb (fst1 0 (wdE x)) W w') := fun W hb => word_any rb 0 x xa xc W (E0.out.below hb)
 have HND := hidd hnd
 have HNE := hidd hne
 unfold dv at NE WD ⊢
 clear hA hxr oL1 oL2 hk hnd hne
 generalize d.kids.length = kn at *
 have i1 : (0 : Int) < (kn : Int) := by have := HKN.out; omega
 go_enter Tryz.func36, Tryz.ntmps36
 go_wp2_with fail
 refine NE.out.mono ?_
 rintro en w1 ⟨rfl, hs1⟩
 obtain ⟨_, c0, c1, c2, c3, c4, c5, _, _⟩ := HX.out w1 hs1
 have HB1 := hidd hs1
 have WD1 := hidd (WD.out w1 hs1)
 clear hs1 NE WD hW0 y0 y1 y2 y3 y4 y5
 go_wp2_with fail
 refine WD1.out.mono ?_
 rintro en w2 ⟨rfl, hs2⟩
 have H2 : Hid (WL rb fv tv lv s (fst1 0 (wdE x)) w2) := (H0.out.below HB1.out).st hs2
 have B2 : Hid (Below rb w w2) := B0.out.trans ((HB1.out.mono (Nat.le_of_lt H0.out.lt)).trans (hs2.lowr (H0.out.below HB1.out).e7))
 have B02 : Hid (Below rb W0 w2) := (HB1.out.mono (Nat.le_of_lt H0.out.lt)).trans (hs2.lowr (H0.out.below HB1.out).e7)
 obtain ⟨nm, hnm⟩ : ∃ nm, nm = wdS x := ⟨_, rfl⟩
 have HNM := hidd hnm
 rw [← hnm]
 obtain ⟨q, hq⟩ : ∃ q, q = fst1 (needE d 1) (wdE x) := ⟨_, rfl⟩
 rw [← HNE.out, ← hq] at H2
 have HQQ := hidd hq
 clear hs2 WD1 hnm hq c0 c1 c2 c3 c4 c5
 by_cases hq0 : q = 0
 rotate_left
 ·have GD := hidd (good1 rb q w2 H2.out.e7 hq0)
  have HB := decl_bad (E := E) (s := s) HND.out (by rw [← HQQ.out]; exact hq0)
  have HBB := hidd HB
  clear hq0 HB
  go_wp2_with fail
  refine GD.out.mono ?_
  rintro en wm ⟨rfl, hwm⟩
  rw [hwm]
  clear hwm
  go_wp2_with fail
  go_end0
  rw [HBB.out.1]
  refine ⟨rfl, B2.out, s, ?_, fun c hc => by cases hc⟩
  have h2 := H2.out
  rw [HQQ.out, HBB.out.2] at h2
  exact h2
 subst hq0
 have GD := hidd (good0 rb w2 H2.out.e7)
 obtain ⟨hk4, hkids, hx3, hwx, hval⟩ := decl_good (E := E) (s := s) HND.out HQQ.out.symm
 have HV := hidd hval
 have HXN : Hid (nm = x.name) := HNM.out.trans hwx
 have N2 : Hid (EnvM rb E fv tv lv w2) := N0.out.below B02.out
 clear hkids hx3 hwx hval hk4
 have HSL := slice1 b o kn cap (by have := HKN.out; omega) HI.out
 obtain ⟨ra, hra, HR2⟩ : ∃ ra, (if cap = 1 then some (⟨b, o, none⟩ : Addr) else some ⟨b, o + 6, none⟩) = ra ∧ Hid (∀ W, Below rb w2 W → Dc (fun k => k < rb) W f ra r) := by
  refine ⟨_, rfl, fun W hs => ?_⟩
  have h := HDR0.out W (B02.out.trans hs)
  by_cases hc2 : cap = 1
  ·rw [if_pos hc2]
   have := HI.out
   have h0 := HKN.out
   exact h.tail.nilAt (List.eq_nil_of_length_eq_zero (by omega)) _
  rw [if_neg hc2]; exact h.tail
 rw [hra] at HSL
 clear hra
 rw [show kn - 1 = r.length by have := HKN.out; omega] at HSL
 have hr2 : r.length ≤ 2000 := HOR.out.2
 go_wp2_with fail
 refine GD.out.mono ?_
 rintro en wm ⟨rfl, hwm⟩
 rw [hwm]
 clear hwm GD
 go_upto_region 4 with fail
 by_cases hnexport : nm = bExport
 ·have hn := hnexport
  clear hnexport
  have ke : (nm.toList == bExport.toList) = true := by rw [hn]; simp
  unfold bExport at ke
  have mexport : (nm.toList == [101, 120, 112, 111, 114, 116]) = true := by simpa using ke
  clear ke
  have ke : (nm.toList == bImport.toList) = false := beqS_ne (by rw [hn]; decide)
  unfold bImport at ke
  have mimport : (nm.toList == [105, 109, 112, 111, 114, 116]) = false := by simpa using ke
  clear ke
  have ke : (nm.toList == bBegin.toList) = false := beqS_ne (by rw [hn]; decide)
  unfold bBegin at ke
  have mbegin : (nm.toList == [98, 101, 103, 105, 110]) = false := by simpa using ke
  clear ke
  have ke : (nm.toList == bInclude.toList) = false := beqS_ne (by rw [hn]; decide)
  unfold bInclude at ke
  have minclude : (nm.toList == [105, 110, 99, 108, 117, 100, 101]) = false := by simpa using ke
  clear ke
  have ke : (nm.toList == bCond.toList) = false := beqS_ne (by rw [hn]; decide)
  unfold bCond at ke
  have mcond : (nm.toList == [99, 111, 110, 100, 45, 101, 120, 112, 97, 110, 100]) = false := by simpa using ke
  clear ke
  by_cases hsn : s.name = ⟨#[]⟩
  ·have HVV : Hid (declD E d s = .no 2) := by
    show _ = _
    rw [HV.out, ← HXN.out, hn, if_pos rfl, if_pos hsn]
   clear hn
   have ke : s.name.toList = [] := by rw [hsn]; simp
   have SP := hidd (stop_any rb 0 2 w2 H2.out.e7)
   have c3 : w2.cell? ⟨rb, 3, none⟩ = some (.string s.name) := by
    obtain ⟨_, _, _, _, _, g1, _⟩ := H2.out
    exact (cellO g1.blk).trans rfl
   clear hsn
   go_wp2_with fail
   refine SP.out.mono ?_
   rintro en w3 ⟨rfl, hs3⟩
   have H3 : Hid (WL rb fv tv lv s 2 w3 ∧ Below rb w2 w3) := ⟨H2.out.st hs3, hs3.lowr H2.out.e7⟩
   clear hs3 SP c3
   go_wp2_with fail
   go_loopw [7, 8, 9, 10, 55] (fun _ _ _ _ ix wr => ix = .int .i64 0 ∧ wr = w3) (fun _ _ _ _ _ _ => 0)
   case atStart => exact ⟨rfl, rfl⟩
   obtain ⟨rfl, rfl⟩ := hrel
   by_cases hr0 : r.length = 0
   ·have j1 : decide ((0 : Int) < (r.length : Int)) = false := decide_eq_false (by omega)
    have j2 : ¬ (0 : Int) < (r.length : Int) := by omega
    clear hr0
    go_wp2_with fail
    go_end0
    rw [HVV.out]
    exact ⟨rfl, B2.out.trans H3.out.2, s, H3.out.1, fun c hc => by cases hc⟩
   have j2 : (0 : Int) < (r.length : Int) := by omega
   obtain ⟨z, hz⟩ : ∃ z, r[0]? = some z := ⟨_, List.getElem?_eq_getElem (by omega)⟩
   obtain ⟨_, b', o', za, zc, _, rfl, hA', _⟩ := (HR2.out wr H3.out.2).at hz
   rw [Nat.zero_mul, Nat.add_zero] at hA'
   obtain ⟨_, z0, z1, z2, z3, z4, z5, _, _⟩ := hA'
   have hbz : Below wr.heap.size wr (wr.alloc (.cells #[.int .i64 z.kind, .int .i64 z.n, .string z.name, .int .i64 z.stamp, .int .i64 z.lib, .slice za z.kids.length zc] 26)) := (Below.refl _ _).alloc (Nat.le_refl _) _
   obtain ⟨W1, hW1⟩ : ∃ W1, wr.alloc (.cells #[.int .i64 z.kind, .int .i64 z.n, .string z.name, .int .i64 z.stamp, .int .i64 z.lib, .slice za z.kids.length zc] 26) = W1 := ⟨_, rfl⟩
   rw [hW1] at hbz
   have H4 : Hid (WL rb fv tv lv s 2 W1 ∧ Below rb w2 W1) := ⟨H3.out.1.below hbz, H3.out.2.trans (hbz.mono (Nat.le_of_lt H3.out.1.lt))⟩
   have GD := hidd (good1 rb 2 W1 H4.out.1.e7 (by decide))
   clear hz hbz hr0
   generalize z.kids.length = zn at *
   go_wp2_with fail
   refine GD.out.mono ?_
   rintro en wm ⟨rfl, hwm⟩
   rw [hwm]
   clear hwm
   clear GD hW1 z0 z1 z2 z3 z4 z5
   go_wp2_with fail
   go_end0
   rw [HVV.out]
   exact ⟨rfl, B2.out.trans H4.out.2, s, H4.out.1, fun c hc => by cases hc⟩
  have HVV : Hid (declD E d s = exportsF r s) := by
   show _ = _
   rw [HV.out, ← HXN.out, hn, if_pos rfl, if_neg hsn]
  clear hn
  have ke : (s.name.toList == ([] : List UInt8)) = false := by have := beqS_ne hsn; simpa using this
  have c3 : w2.cell? ⟨rb, 3, none⟩ = some (.string s.name) := by
   obtain ⟨_, _, _, _, _, g1, _⟩ := H2.out
   exact (cellO g1.blk).trans rfl
  clear hsn
  obtain ⟨i0, hinf, hz0, hz1, hz2⟩ := info_partsL infoPairL
  go_wp2_with fail
  clear c3
  go_loopw [7, 8, 9, 10, 55] (fun _ _ _ _ ix wr => ∃ (j : Nat) (s' : LibS) (e : Int), j ≤ r.length ∧ ix = .int .i64 j ∧ Hid (Below rb w2 wr ∧ WL rb fv tv lv s' e wr ∧ (e = 0 → exportsF r s = exportsF (r.drop j) s') ∧ (e ≠ 0 → exportsF r s = .no e))) (fun _ _ _ _ ix _ => r.length - (intOf ix).toNat)
  case atStart => exact ⟨0, s, 0, Nat.zero_le _, rfl, Below.refl _ _, H2.out, fun _ => by rw [List.drop_zero], fun h => absurd rfl h⟩
  obtain ⟨j, s', e, hj, rfl, HR⟩ := hrel
  by_cases hlt : j < r.length
  rotate_left
  ·obtain rfl : j = r.length := by omega
   have HFI : Hid (Below rb w wr ∧ ∃ s', WL rb fv tv lv s' (erE (exportsF r s)) wr ∧ ∀ s2, exportsF r s = .ok s2 → s' = s2) := by
    refine ⟨B2.out.trans HR.out.1, s', ?_⟩
    by_cases he0 : e = 0
    ·have h1 := HR.out.2.2.1 he0
     rw [List.drop_length, exportsF] at h1
     have h2 := HR.out.2.1
     rw [he0] at h2
     rw [h1]
     exact ⟨h2, fun s2 hs2 => by cases hs2; rfl⟩
    have h1 := HR.out.2.2.2 he0
    rw [h1]
    exact ⟨HR.out.2.1, fun s2 hs2 => by cases hs2⟩
   have hq1 : ¬ ((r.length : Int) < (r.length : Int)) := by omega
   go_wp2_with fail
   go_end0
   rw [HVV.out]
   exact ⟨rfl, HFI.out.1, HFI.out.2⟩
  obtain ⟨z, hz⟩ : ∃ z, r[j]? = some z := ⟨_, List.getElem?_eq_getElem hlt⟩
  obtain ⟨gz, b', o', za, zc, _, rfl, hA', hzk⟩ := (HR2.out wr HR.out.1).at hz
  obtain ⟨_, z0, z1, z2, z3, z4, z5, _, hzl⟩ := hA'
  have j1 : (0 : Int) ≤ (j : Int) := by omega
  have j2 : (j : Int) < (r.length : Int) := by omega
  have hbz : Below wr.heap.size wr (wr.alloc (.cells #[.int .i64 z.kind, .int .i64 z.n, .string z.name, .int .i64 z.stamp, .int .i64 z.lib, .slice za z.kids.length zc] 26)) := (Below.refl _ _).alloc (Nat.le_refl _) _
  obtain ⟨W1, hW1⟩ : ∃ W1, wr.alloc (.cells #[.int .i64 z.kind, .int .i64 z.n, .string z.name, .int .i64 z.stamp, .int .i64 z.lib, .slice za z.kids.length zc] 26) = W1 := ⟨_, rfl⟩
  have hzb : W1.heap[wr.heap.size]? = some (.cells #[.int .i64 z.kind, .int .i64 z.n, .string z.name, .int .i64 z.stamp, .int .i64 z.lib, .slice za z.kids.length zc] 26 (0, 0)) := by rw [← hW1]; exact World.alloc_heap_new wr _
  rw [hW1] at hbz
  have HW1 : Hid (WL rb fv tv lv s' e W1 ∧ Below rb w2 W1) := ⟨HR.out.2.1.below hbz, HR.out.1.trans (hbz.mono (Nat.le_of_lt HR.out.2.1.lt))⟩
  have HZK : Hid (∀ W, Below rb W1 W → Dc (fun k => k < rb) W gz za z.kids) := fun W hb => hzk.below ((hbz.mono (Nat.le_of_lt HR.out.2.1.lt)).trans hb)
  have hzm := List.mem_of_getElem? hz
  have HOZ : Hid (okD z) := okL_mem HOR.out.1 z hzm
  have HEX : Hid (e = 0 → exportsF r s = (exportF z).bind fun e => if hasE e.1 s'.exports then .no 8 else if s'.exports.length < 200 then exportsF (r.drop (j + 1)) { s' with exports := s'.exports ++ [e] } else .no 5) := fun he => by rw [HR.out.2.2.1 he, exportsF_step hz]
  clear hzk hz hbz hzm
  obtain ⟨y0, y1, y2, y3, y4, y5⟩ := six_at hzb
  by_cases he : e = 0
  rotate_left
  ·have GD := hidd (good1 rb e W1 HW1.out.1.e7 he)
   have HF := hidd (HR.out.2.2.2 he)
   clear he hzl HEX
   generalize z.kids.length = zn at *
   go_wp2_with fail
   refine GD.out.mono ?_
   rintro en wm ⟨rfl, hwm⟩
   rw [hwm]
   clear hwm
   clear GD hW1 z0 z1 z2 z3 z4 z5 y0 y1 y2 y3 y4 y5 hzb
   go_wp2_with fail
   go_end0
   rw [HVV.out, HF.out]
   exact ⟨rfl, B2.out.trans HW1.out.2, s', HW1.out.1, fun c hc => by cases hc⟩
  have HEX' := hidd (HEX.out he)
  subst he
  have GD := hidd (good0 rb W1 HW1.out.1.e7)
  have HZB := hidd hzb
  have HZL := hidd hzl
  generalize hzn : z.kids.length = zn at *
  go_wp2_with fail
  refine GD.out.mono ?_
  rintro en wm ⟨rfl, hwm⟩
  rw [hwm]
  clear hwm
  clear GD hW1 z0 z1 z2 z3 z4 z5
  go_upto_region 14 with fail
  have hb2 : Below W1.heap.size W1 (W1.alloc (.cells #[.string ⟨#[]⟩, .string ⟨#[]⟩] 70)) := (Below.refl _ _).alloc (Nat.le_refl _) _
  have hp2 := World.alloc_heap_new W1 (.cells #[.string ⟨#[]⟩, .string ⟨#[]⟩] 70)
  obtain ⟨W2, hW2⟩ : ∃ W2, W1.alloc (.cells #[.string ⟨#[]⟩, .string ⟨#[]⟩] 70) = W2 := ⟨_, rfl⟩
  rw [hW2] at hb2 hp2 ⊢
  clear hW2
  have HW2 : Hid (WL rb fv tv lv s' 0 W2 ∧ Below rb w2 W2 ∧ Below rb W1 W2) := ⟨HW1.out.1.below hb2, HW1.out.2.trans (hb2.mono (Nat.le_of_lt HW1.out.1.lt)), hb2.mono (Nat.le_of_lt HW1.out.1.lt)⟩
  have HB12 : Hid (Below W1.heap.size W1 W2) := hb2
  have HP2 : Hid (W2.heap[W1.heap.size]? = some (.cells #[.string ⟨#[]⟩, .string ⟨#[]⟩] 70 (0, 0)) ∧ rb < W1.heap.size) := ⟨hp2, HW1.out.1.lt⟩
  have hzb2 : W2.heap[wr.heap.size]? = some (.cells #[.int .i64 z.kind, .int .i64 z.n, .string z.name, .int .i64 z.stamp, .int .i64 z.lib, .slice za zn zc] 26 (0, 0)) := upH hzb hb2
  obtain ⟨x0, x1, x2, x3, x4, x5⟩ := six_at hzb2
  have NE := hidd (need_any rb gz 0 z za zc W2 3 HW2.out.1.e7 (Or.inr (Or.inr rfl)) (DW.of (HZK.out W2 HW2.out.2.2) (Nat.le_of_lt HW2.out.1.lt)) (by rw [hzn]; exact hzl))
  have WO := hidd (word_any rb 0 z za zc W2 HW2.out.1.e7)
  obtain ⟨e0', e1', e2', -⟩ : W2.cell? ⟨W1.heap.size, 0, none⟩ = some (.string ⟨#[]⟩) ∧ W2.cell? ⟨W1.heap.size, 1, none⟩ = some (.string ⟨#[]⟩) ∧ True ∧ True := ⟨(cellO hp2).trans rfl, (cellO hp2).trans rfl, trivial, trivial⟩
  unfold dv at NE WO
  rw [hzn] at NE WO
  clear hb2 hp2 hzb hzb2 hzl e2' HEX y0 y1 y2 y3 y4 y5
  go_upto_if 65 with fail
  go_cut [] (fun wx => ∃ (h t : ByteArray) (e1 : Int), Hid (St rb e1 W1 wx ∧ wx.heap[W1.heap.size]? = some (.cells #[.string h, .string t] 70 (0, 0)) ∧ (e1 = 0 → exportF z = .ok (h, t)) ∧ (e1 ≠ 0 → exportF z = .no e1)))
  case first =>
   by_cases z4 : z.kind = 4
   rotate_left
   ·have f1 : (z.kind == 4) = false := by simpa using z4
    have f2 : decide (z.kind = 4) = false := by simpa using z4
    go_wp2_with fail
    refine WO.out.mono ?_
    rintro en w3 ⟨rfl, hs3⟩
    rw [fst1_zero] at hs3
    have H3' : Hid (St rb (wdE z) W1 w3) := (St.of HW1.out.1.e7 HB12.out).trans hs3
    have hp3 : w3.heap[W1.heap.size]? = _ := (hs3.far (ltH HP2.out.1) (by have := HP2.out.2; omega)).trans HP2.out.1
    have HP3 := hidd hp3
    have v0 : w3.cell? ⟨W1.heap.size, 0, none⟩ = some (.string ⟨#[]⟩) := (cellO hp3).trans rfl
    have v1 : w3.cell? ⟨W1.heap.size, 1, none⟩ = some (.string ⟨#[]⟩) := (cellO hp3).trans rfl
    have v2 : w3.frozen? ⟨W1.heap.size, 0, none⟩ = false := looseO hp3
    have v3 : w3.frozen? ⟨W1.heap.size, 1, none⟩ = false := looseO hp3
    have HOK := hidd (export_sym (z := z) z4)
    clear hs3 hp3 WO x0 x1 x2 x3 x4 x5
    obtain ⟨nw, hnw⟩ : ∃ nw, nw = wdS z := ⟨_, rfl⟩
    rw [← hnw] at HOK ⊢
    clear hnw
    go_wp2_with fail
    go_meet
    case rel => exact ⟨nw, nw, wdE z, Below.setCell (p := ⟨W1.heap.size, 1, none⟩) (Below.setCell (p := ⟨W1.heap.size, 0, none⟩) H3'.out (by simp) _) (by simp) _, cell_setL (cell_setL HP3.out _) _, HOK.out⟩
   have f1 : (z.kind == 4) = true := by simpa using z4
   have f2 : decide (z.kind = 4) = true := by simpa using z4
   have Z4 := hidd z4
   clear z4
   go_wp2_with fail
   refine NE.out.mono ?_
   rintro en w3 ⟨ka, kc2, fk, rfl, hkc, hkd, hs3⟩
   rw [fst1_zero] at hs3
   have hnl := (needD_ok HOZ.out 3 (Or.inr (Or.inr rfl))).2
   have WD := hidd (words_any rb fk (needE z 3) (needD z 3) ka kc2 w3 (HW2.out.1.e7.st hs3) hkd (by omega) hkc)
   have HS3 : Hid (St rb (needE z 3) W1 w3 ∧ W2.heap.size ≤ w3.heap.size ∧ St rb (needE z 3) W2 w3) := ⟨(St.of HW1.out.1.e7 HB12.out).trans hs3, hs3.size, hs3⟩
   obtain ⟨ln, hln⟩ : ∃ ln, ln = (needD z 3).length := ⟨_, rfl⟩
   have HLn := hidd hln
   have hn3 : 3 ≤ ln := by rw [hln]; unfold needD; split; exact (‹_ ∧ _›).2; simp
   rw [← hln] at WD ⊢
   clear hln hkc hkd hs3 NE hnl x0 x1 x2 x3 x4 x5
   go_wp2_with fail
   refine WD.out.mono ?_
   rintro en w4 ⟨v, rfl, hv, hs4⟩
   clear WD
   obtain ⟨ka', kc, hvv, hvc⟩ := own_sliceL hv
   rw [List.length_map, ← HLn.out] at hvv
   subst hvv
   obtain ⟨e1, he1⟩ : ∃ e1, e1 = fst1 (needE z 3) (wordsE (needD z 3)) := ⟨_, rfl⟩
   rw [← he1] at hs4
   obtain ⟨g', kc0, hve, hkc0, hgB, hgs, hgo, hcell⟩ := StrR.at hv (by rw [List.length_map, ← HLn.out]; omega)
   have hve2 : ka' = some ⟨g', 0, none⟩ := by injection hve
   subst hve2
   have H4 : Hid (St rb e1 W1 w4 ∧ St rb e1 W2 w4 ∧ w3.heap.size ≤ g' ∧ g' < w4.heap.size) := ⟨HS3.out.1.trans hs4, HS3.out.2.2.trans hs4, hgB, hgs⟩
   have HE1 := hidd he1
   have hp4 : w4.heap[W1.heap.size]? = _ := (H4.out.2.1.far (ltH HP2.out.1) (by have := HP2.out.2; omega)).trans HP2.out.1
   clear hv hs4 hvc hve hkc0 hgB hgs hgo he1
   obtain ⟨l0, hl0⟩ : ∃ l0, l0 = (needD z 3).map wdS := ⟨_, rfl⟩
   have HL0 := hidd hl0
   rw [← hl0] at hcell
   have hll : l0.length = ln := by rw [hl0, List.length_map, ← HLn.out]
   clear hl0
   have q0 := hcell 0 (l0.getD 0 ⟨#[]⟩) (by rw [List.getD_eq_getElem?_getD, List.getElem?_eq_getElem (by omega)]; rfl)
   have q1 := hcell 1 (l0.getD 1 ⟨#[]⟩) (by rw [List.getD_eq_getElem?_getD, List.getElem?_eq_getElem (by omega)]; rfl)
   have q2 := hcell 2 (l0.getD 2 ⟨#[]⟩) (by rw [List.getD_eq_getElem?_getD, List.getElem?_eq_getElem (by omega)]; rfl)
   clear hcell
   have HXF := hidd (export_list (z := z) Z4.out HE1.out HL0.out)
   obtain ⟨a0, ha0⟩ : ∃ a, a = l0.getD 0 ⟨#[]⟩ := ⟨_, rfl⟩
   obtain ⟨a1, ha1⟩ : ∃ a, a = l0.getD 1 ⟨#[]⟩ := ⟨_, rfl⟩
   obtain ⟨a2, ha2⟩ : ∃ a, a = l0.getD 2 ⟨#[]⟩ := ⟨_, rfl⟩
   rw [← ha0] at q0 HXF
   rw [← ha1] at q1 HXF
   rw [← ha2] at q2 HXF
   rw [hll] at HXF
   clear ha0 ha1 ha2 hll HL0
   have i9 : (0 : Int) < (ln : Int) := by omega
   by_cases hok : ln = 3 ∧ a0 = bRename
   ·have n3 : ((ln : Int) == 3) = true := by rw [hok.1]; rfl
    have n4 : (ln : Int) = 3 := by rw [hok.1]; rfl
    have kr : (a0.toList == bRename.toList) = true := by rw [hok.2]; simp
    unfold bRename at kr
    have kr2 : (a0.toList == [114, 101, 110, 97, 109, 101]) = true := by simpa using kr
    clear kr
    have HOK : Hid ((e1 = 0 → exportF z = .ok (a2, a1)) ∧ (e1 ≠ 0 → exportF z = .no e1)) := ⟨fun h => (HXF.out.1 h hok.1 hok.2), HXF.out.2.1⟩
    have HLN := hidd hok.1
    have HP4 := hidd hp4
    clear hok hp4
    go_upto_region 18 with fail
    refine wp_region_held_drew (S := (fun u => u.cell? ⟨g', 1, none⟩ = some (.string a1) ∧ u.cell? ⟨g', 2, none⟩ = some (.string a2))) (by kernel_rfl) ⟨q1, q2⟩ (fun hS => ?_)
    clear q0 q1 q2
    refine tk 0 (.slice (some ⟨g', 0, none⟩) ln kc) rfl (Or.inl ⟨by rfl, fun u hu => by go_simp⟩) hS ?_
    simp only [Act.put, aP]
    refine tk 1 (.pointer (some ⟨g', 2, none⟩)) rfl (Or.inl ⟨by rfl, fun u hu => by (have b0 : (0 : Int) ≤ 2 := (by omega); have b1 : (2 : Int) < (ln : Int) := (by have := HLN.out; omega); have b2 : ¬ (ln : Int) ≤ 2 := (by have := HLN.out; omega); go_simp)⟩) hS ?_
    simp only [Act.put, aP]
    refine tk 2 (.string a2) rfl (Or.inl ⟨by rfl, fun u hu => by (obtain ⟨u1, u2⟩ := hu; go_simp)⟩) hS ?_
    simp only [Act.put, aP]
    refine tk 3 (.slice (some ⟨g', 0, none⟩) ln kc) rfl (Or.inl ⟨by rfl, fun u hu => by go_simp⟩) hS ?_
    simp only [Act.put, aP]
    refine tk 4 (.pointer (some ⟨g', 1, none⟩)) rfl (Or.inl ⟨by rfl, fun u hu => by (have b0 : (0 : Int) ≤ 1 := (by omega); have b1 : (1 : Int) < (ln : Int) := (by have := HLN.out; omega); have b2 : ¬ (ln : Int) ≤ 1 := (by have := HLN.out; omega); go_simp)⟩) hS ?_
    simp only [Act.put, aP]
    refine tk 5 (.string a1) rfl (Or.inl ⟨by rfl, fun u hu => by (obtain ⟨u1, u2⟩ := hu; go_simp)⟩) hS ?_
    simp only [Act.put, aP]
    refine tk 6 (.agg #[.string a2, .string a1]) rfl (Or.inl ⟨by rfl, fun u hu => by go_simp⟩) hS ?_
    simp only [Act.put, aP]
    refine rdy [7] (.cons rfl (fun K hK => ?_) .nil)
    have v0 : w4.cell? ⟨W1.heap.size, 0, none⟩ = some (.string ⟨#[]⟩) := (cellO HP4.out).trans rfl
    have v1 : w4.cell? ⟨W1.heap.size, 1, none⟩ = some (.string ⟨#[]⟩) := (cellO HP4.out).trans rfl
    have v2 : w4.frozen? ⟨W1.heap.size, 0, none⟩ = false := looseO HP4.out
    have v3 : w4.frozen? ⟨W1.heap.size, 1, none⟩ = false := looseO HP4.out
    go_simp
    clear v0 v1 v2 v3
    have hgN : W1.heap.size ≠ g' := by have := H4.out.2.2.1; have := HS3.out.2.1; have := ltH HP2.out.1; omega
    refine hK.out _ _ ⟨(setp_far hgN _ _ 1).trans hS.1, (setp_far hgN _ _ 2).trans hS.2⟩ (fun hS => ?_)
    clear hK K
    refine wpAnyH_done (by kernel_rfl) ?_ _
    go_wp2_with fail
    go_meet
    case rel => exact ⟨a2, a1, e1, (Below.setCell (p := ⟨W1.heap.size, 1, none⟩) (Below.setCell (p := ⟨W1.heap.size, 0, none⟩) H4.out.1 (by simp) _) (by simp) _).drew, cell_setL (cell_setL HP4.out _) _, HOK.out⟩
   have SP := hidd (stop_any rb e1 2 w4 (HW2.out.1.e7.st H4.out.2.1))
   have HNO : Hid (exportF z = .no 2 ∧ fst1 e1 2 = 2) := HXF.out.2.2 hok
   have cs : (((ln : Int) == 3) = false ∧ ¬ ((ln : Int) = 3)) ∨ (((ln : Int) == 3) = true ∧ (ln : Int) = 3 ∧ (a0.toList == [114, 101, 110, 97, 109, 101]) = false) := by
    by_cases h3 : ln = 3
    ·refine Or.inr ⟨by rw [h3]; rfl, by rw [h3]; rfl, ?_⟩
     have kr : (a0.toList == bRename.toList) = false := beqS_ne (fun e => hok ⟨h3, e⟩)
     unfold bRename at kr
     simpa using kr
    exact Or.inl ⟨by simp; omega, by omega⟩
   clear hok hp4
   rcases cs with ⟨n3, n4⟩ | ⟨n3, n4, n5⟩
   ·go_wp2_with fail
    refine SP.out.mono ?_
    rintro en w5 ⟨rfl, hs5⟩
    have H5 := hidd (H4.out.1.trans hs5)
    clear hs5 SP q0 q1 q2
    go_wp2_with fail
    go_end0
    rw [HVV.out, HEX'.out, HNO.out.1]
    have h5 := H5.out
    rw [HNO.out.2] at h5
    exact ⟨rfl, B2.out.trans (HW1.out.2.trans (h5.lowr HW1.out.1.e7)), s', HW1.out.1.st h5, fun c hc => by cases hc⟩
   go_wp2_with fail
   refine SP.out.mono ?_
   rintro en w5 ⟨rfl, hs5⟩
   have H5 := hidd (H4.out.1.trans hs5)
   clear hs5 SP q0 q1 q2
   go_wp2_with fail
   go_end0
   rw [HVV.out, HEX'.out, HNO.out.1]
   have h5 := H5.out
   rw [HNO.out.2] at h5
   exact ⟨rfl, B2.out.trans (HW1.out.2.trans (h5.lowr HW1.out.1.e7)), s', HW1.out.1.st h5, fun c hc => by cases hc⟩
  case rest =>
   obtain ⟨h, t, e1, HC⟩ := hcut
   clear x0 x1 x2 x3 x4 x5 e0' e1' NE WO HP2 HB12 HW2
   obtain ⟨is, es, ev, iv, bv, g1, g2, g3, g4, g5, g6⟩ := HW1.out.1
   obtain ⟨ea, ec, rfl, hec⟩ := own_sliceL g1.eo
   have HG := hidd (And.intro g1 (And.intro g2 (And.intro g3 (And.intro (g4.2 (by first | rfl | trivial)) (And.intro g5 g6)))))
   have hx2 : s'.exports.length ≤ 200 := HG.out.2.2.2.1
   have HSB : Hid ((∀ g, (Value.slice ea s'.exports.length ec).ownBlock = some g → g < W1.heap.size) ∧ rb < W1.heap.size) := ⟨fun g hg => (own_typeL HG.out.1.eo g hg).2.1, HG.out.1.lt⟩
   have HWS : Hid (∀ W e, St rb e W1 W → WS rb fv tv lv s'.name s'.exports is es (.slice ea s'.exports.length ec) iv bv e W) := fun W e hs => HG.out.1.st (fun _ => rfl) hs
   clear g1 g2 g3 g4 g5 g6 hec
   go_upto_region 21 with fail
   go_cut [106] (fun v wx => ∃ hs : Bool, v = .bool hs ∧ Hid (St rb e1 W1 wx ∧ wx.heap[W1.heap.size]? = some (.cells #[.string h, .string t] 70 (0, 0)) ∧ (e1 = 0 → hs = hasE h s'.exports) ∧ (e1 ≠ 0 → hs = false)))
   case first =>
    by_cases he1 : e1 = 0
    rotate_left
    ·have HNE := hidd he1
     have GD : Hid (∀ k, Calls Tryz.prog 33 #[.pointer (some ⟨rb, 0, none⟩)] (wc.drewN k) fun en w' => en = .returned (.bool false) ∧ w' = wc.drewN k) := fun k => good1 rb e1 _ ((HW1.out.1.e7.st HC.out.1).below (below_drewN (Below.refl _ _) k)) he1
     clear he1
     go_quiet ((go_at_call 33; exact Calls.quiet_of_same (GD.out _)))
     go_wp2_with fail
     go_meet
     case rel => exact ⟨false, rfl, HC.out.1.and (below_drewN (Below.refl _ _) _), upH HC.out.2.1 (below_drewN (Below.refl _ _) _), fun h => absurd h HNE.out, fun _ => rfl⟩
    subst he1
    have HCd : Hid (St rb 0 W1 wc.drew ∧ wc.drew.heap[W1.heap.size]? = some (.cells #[.string h, .string t] 70 (0, 0))) := ⟨Below.drew HC.out.1, HC.out.2.1⟩
    have GD := hidd (good0 rb wc.drew (HW1.out.1.e7.st HCd.out.1))
    have HAS : Hid (∀ W, St rb 0 W1 W → Calls Tryz.prog 59 #[.slice ea s'.exports.length ec, .string h] W fun e w' => e = .returned (.bool (hasE h s'.exports)) ∧ Below W.heap.size W w') := fun W hs => has59 _ h ea ec W (PrR.of (HWS.out W 0 hs).eo) (by omega)
    refine wp_region_held_drew (S := (fun u => St rb 0 W1 u ∧ u.heap[W1.heap.size]? = some (.cells #[.string h, .string t] 70 (0, 0)))) (by kernel_rfl) HCd.out (fun hS => ?_)
    refine tko 0 { dst := some 95, op := Op.move (Operand.tmp 0), type := 59, pos := _, after := _, guard := none } (.pointer (some ⟨rb, 0, none⟩)) rfl (Or.inl ⟨by rfl, fun u hu => by go_simp⟩) hS ?_
    simp only [Act.put, aP]
    refine wpAnyH_ready (rs := [1]) (by kernel_rfl) (by simp) (AllReadyH.cons (o := { dst := some 96, op := Op.call { callee := Callee.value (Operand.func 33), args := #[Operand.tmp 95], argTypes := #[59] }, type := 4, pos := _, after := _, guard := none }) rfl (fun K hK => ?_) AllReadyH.nil)
    go_simp
    refine GD.out.mono ?_
    rintro en wm ⟨rfl, hwm⟩
    rw [hwm]
    clear hwm
    refine hK.out _ _ hS (fun hS => ?_)
    clear hK K
    refine tko 2 { dst := some 97, op := Op.move (Operand.tmp 96), type := 4, pos := _, after := _, guard := none } (.bool true) rfl (Or.inl ⟨by rfl, fun u hu => by go_simp⟩) hS ?_
    simp only [Act.put, aP]
    refine tko 3 { dst := some 98, op := Op.move (Operand.tmp 0), type := 59, pos := _, after := _, guard := some (2, true) } (.pointer (some ⟨rb, 0, none⟩)) rfl (Or.inl ⟨by rfl, fun u hu => by go_simp⟩) hS ?_
    simp only [Act.put, aP]
    refine tko 4 { dst := some 99, op := Op.nilCheck (Operand.tmp 98), type := 0, pos := _, after := _, guard := some (2, true) } (.pointer (some ⟨rb, 0, none⟩)) rfl (Or.inl ⟨by rfl, fun u hu => by go_simp⟩) hS ?_
    simp only [Act.put, aP]
    refine tko 5 { dst := some 100, op := Op.fieldAddr 61 (Operand.tmp 99) 3, type := 0, pos := _, after := _, guard := some (2, true) } (.pointer (some ⟨rb, 3, none⟩)) rfl (Or.inl ⟨by rfl, fun u hu => by go_simp⟩) hS ?_
    simp only [Act.put, aP]
    refine tko 6 { dst := some 101, op := Op.fieldAddr 30 (Operand.tmp 100) 1, type := 0, pos := _, after := _, guard := some (2, true) } (.pointer (some ⟨rb, 4, none⟩)) rfl (Or.inl ⟨by rfl, fun u hu => by go_simp⟩) hS ?_
    simp only [Act.put, aP]
    refine tko 7 { dst := some 102, op := Op.load 27 (Operand.tmp 101), type := 27, pos := _, after := _, guard := some (2, true) } (.slice ea s'.exports.length ec) rfl (Or.inl ⟨by rfl, fun u hu => by (have q := (cellO (HWS.out u 0 hu.1).blk : u.cell? ⟨rb, 4, none⟩ = _); have q2 : u.cell? ⟨rb, 4, none⟩ = some (.slice ea s'.exports.length ec) := q.trans rfl; go_simp)⟩) hS ?_
    simp only [Act.put, aP]
    refine tko 8 { dst := some 103, op := Op.fieldAddr 70 (Operand.tmp 8) 0, type := 0, pos := _, after := _, guard := some (2, true) } (.pointer (some ⟨W1.heap.size, 0, none⟩)) rfl (Or.inl ⟨by rfl, fun u hu => by go_simp⟩) hS ?_
    simp only [Act.put, aP]
    refine tko 9 { dst := some 104, op := Op.load 9 (Operand.tmp 103), type := 9, pos := _, after := _, guard := some (2, true) } (.string h) rfl (Or.inl ⟨by rfl, fun u hu => by (have q2 : u.cell? ⟨W1.heap.size, 0, none⟩ = some (.string h) := (cellO hu.2).trans rfl; go_simp)⟩) hS ?_
    simp only [Act.put, aP]
    refine wpAnyH_ready (rs := [10]) (by kernel_rfl) (by simp) (AllReadyH.cons (o := { dst := some 105, op := Op.call { callee := Callee.value (Operand.func 59), args := #[Operand.tmp 102, Operand.tmp 104], argTypes := #[27, 9] }, type := 4, pos := _, after := _, guard := some (2, true) }) rfl (fun K hK => ?_) AllReadyH.nil)
    go_simp
    refine (HAS.out wc.drew hS.1).mono ?_
    rintro en w8 ⟨rfl, hb8⟩
    have H8 : Hid (St rb 0 W1 w8 ∧ w8.heap[W1.heap.size]? = some (.cells #[.string h, .string t] 70 (0, 0))) := ⟨hS.1.and hb8, upH hS.2 hb8⟩
    clear hb8
    refine hK.out _ _ H8.out (fun hS => ?_)
    clear hK K
    refine tko 11 { dst := some 106, op := Op.pick (Operand.tmp 97) (Operand.tmp 105) (Operand.const (Value.bool false)), type := 4, pos := _, after := _, guard := none } (.bool (hasE h s'.exports)) rfl (Or.inl ⟨by rfl, fun u hu => by go_simp⟩) hS ?_
    simp only [Act.put, aP]
    refine wpAnyH_done (by kernel_rfl) ?_ _
    go_wp2_with fail
    go_meet
    case rel => exact ⟨hasE h s'.exports, rfl, H8.out.1, H8.out.2, fun _ => rfl, fun h => absurd rfl h⟩
   case rest =>
    obtain ⟨hs, rfl, HC2⟩ := hcut
    have HX1 := hidd HC.out.2.2
    go_upto_if 106 with fail
    go_cut [] (fun wx => ∃ e2 : Int, Hid (St rb e2 W1 wx ∧ wx.heap[W1.heap.size]? = some (.cells #[.string h, .string t] 70 (0, 0)) ∧ e2 = (if e1 = 0 then (if hasE h s'.exports then 8 else 0) else e1)))
    case first =>
     cases hs
     ·go_wp2_with fail
      go_meet
      case rel =>
       refine ⟨e1, HC2.out.1, HC2.out.2.1, ?_⟩
       by_cases h0 : e1 = 0
       ·rw [if_pos h0, ← HC2.out.2.2.1 h0, h0]; rfl
       rw [if_neg h0]
     have SP := hidd (stop_any rb e1 8 wc (HW1.out.1.e7.st HC2.out.1))
     have HE10 : Hid (e1 = 0) := by show _ = _; exact Decidable.byContradiction fun h0 => absurd (HC2.out.2.2.2 h0) (by decide)
     go_wp2_with fail
     refine SP.out.mono ?_
     rintro en w9 ⟨rfl, hs9⟩
     have H9 : Hid (St rb (fst1 e1 8) W1 w9 ∧ w9.heap[W1.heap.size]? = some (.cells #[.string h, .string t] 70 (0, 0))) := ⟨HC2.out.1.trans hs9, (hs9.far (ltH HC2.out.2.1) (by have := HSB.out.2; omega)).trans HC2.out.2.1⟩
     clear hs9 SP
     go_wp2_with fail
     go_meet
     case rel => exact ⟨_, H9.out.1, H9.out.2, by rw [HE10.out, if_pos rfl, ← HC2.out.2.2.1 HE10.out]; rfl⟩
    case rest =>
     obtain ⟨e2, HC3⟩ := hcut
     have HQ3 := HWS.out _ _ HC3.out.1
     have c4 : wc.cell? ⟨rb, 4, none⟩ = some (.slice ea s'.exports.length ec) := (cellO HQ3.blk).trans rfl
     clear HQ3
     go_upto_if 115 with fail
     go_cut [] (fun wx => ∃ e3 : Int, Hid (St rb e3 W1 wx ∧ wx.heap[W1.heap.size]? = some (.cells #[.string h, .string t] 70 (0, 0)) ∧ e3 = fst1 e2 (if 200 ≤ s'.exports.length then 5 else 0)))
     case first =>
      by_cases hlen : 200 ≤ s'.exports.length
      ·have m1 : decide ((200 : Int) ≤ (s'.exports.length : Int)) = true := by simp; omega
       have m2 : (200 : Int) ≤ (s'.exports.length : Int) := by omega
       have HLN := hidd hlen
       clear hlen
       have SP := hidd (stop_any rb e2 5 wc (HW1.out.1.e7.st HC3.out.1))
       go_wp2_with fail
       refine SP.out.mono ?_
       rintro en w9 ⟨rfl, hs9⟩
       have H9 : Hid (St rb (fst1 e2 5) W1 w9 ∧ w9.heap[W1.heap.size]? = some (.cells #[.string h, .string t] 70 (0, 0))) := ⟨HC3.out.1.trans hs9, (hs9.far (ltH HC3.out.2.1) (by have := HSB.out.2; omega)).trans HC3.out.2.1⟩
       clear hs9 SP
       go_wp2_with fail
       go_meet
       case rel => exact ⟨_, H9.out.1, H9.out.2, by rw [if_pos HLN.out]⟩
      have m1 : decide ((200 : Int) ≤ (s'.exports.length : Int)) = false := by simp; omega
      have m2 : ¬ (200 : Int) ≤ (s'.exports.length : Int) := by omega
      have HLN := hidd hlen
      clear hlen
      go_wp2_with fail
      go_meet
      case rel => exact ⟨e2, HC3.out.1, HC3.out.2.1, by rw [if_neg HLN.out, fst1_none]⟩
     case rest =>
      obtain ⟨e3, HC4⟩ := hcut
      have HRES : Hid ((e3 = 0 → exportsF r s = exportsF (r.drop (j + 1)) { s' with exports := s'.exports ++ [(h, t)] } ∧ s'.exports.length < 200) ∧ (e3 ≠ 0 → exportsF r s = .no e3)) := export_res HEX'.out HX1.out.1 HX1.out.2 HC3.out.2.2 HC4.out.2.2
      have HW9 : Hid (WS rb fv tv lv s'.name s'.exports is es (.slice ea s'.exports.length ec) iv bv e3 wc ∧ Below rb w2 wc ∧ wc.heap[W1.heap.size]? = some (.cells #[.string h, .string t] 70 (0, 0))) := ⟨HWS.out _ _ HC4.out.1, HW1.out.2.trans (HC4.out.1.lowr HW1.out.1.e7), HC4.out.2.1⟩
      go_upto_region 25 with fail
      have PX_0 : Hid (WS rb fv tv lv s'.name s'.exports is es (.slice ea s'.exports.length ec) iv bv e3 wc.drew ∧ Below rb w2 wc.drew) := ⟨HW9.out.1.below (Below.refl _ _).drew, Below.drew HW9.out.2.1⟩
      refine wp_region_held_drew (S := (fun u => u.heap[W1.heap.size]? = some (.cells #[.string h, .string t] 70 (0, 0)))) (by kernel_rfl) HW9.out.2.2 (fun hS => ?_)
      apply cutJ (fun g cp w6 => w6.heap[W1.heap.size]? = some (.cells #[.string h, .string t] 70 (0, 0)) ∧ WB rb fv tv lv s'.name (.slice ea s'.exports.length ec) iv bv e3 w6 ∧ WS rb fv tv lv s'.name (s'.exports ++ [(h, t)]) is es (.slice (some ⟨g, 0, none⟩) (s'.exports.length + 1) cp) iv bv e3 (w6.setCell ⟨rb, 4, none⟩ (.slice (some ⟨g, 0, none⟩) (s'.exports.length + 1) cp)) ∧ Below rb w2 (w6.setCell ⟨rb, 4, none⟩ (.slice (some ⟨g, 0, none⟩) (s'.exports.length + 1) cp)))
      ·intro TL
       refine tko 0 { dst := some 118, op := Op.move (Operand.tmp 0), type := 59, pos := _, after := _, guard := none } (.pointer (some ⟨rb, 0, none⟩)) rfl (Or.inl ⟨by rfl, fun u hu => by go_simp⟩) hS ?_
       simp only [Act.put, aP]
       refine tko 1 { dst := some 119, op := Op.move (Operand.tmp 0), type := 59, pos := _, after := _, guard := none } (.pointer (some ⟨rb, 0, none⟩)) rfl (Or.inl ⟨by rfl, fun u hu => by go_simp⟩) hS ?_
       simp only [Act.put, aP]
       refine tko 2 { dst := some 120, op := Op.nilCheck (Operand.tmp 119), type := 0, pos := _, after := _, guard := none } (.pointer (some ⟨rb, 0, none⟩)) rfl (Or.inl ⟨by rfl, fun u hu => by go_simp⟩) hS ?_
       simp only [Act.put, aP]
       refine tko 3 { dst := some 121, op := Op.fieldAddr 61 (Operand.tmp 120) 3, type := 0, pos := _, after := _, guard := none } (.pointer (some ⟨rb, 3, none⟩)) rfl (Or.inl ⟨by rfl, fun u hu => by go_simp⟩) hS ?_
       simp only [Act.put, aP]
       refine tko 4 { dst := some 122, op := Op.fieldAddr 30 (Operand.tmp 121) 1, type := 0, pos := _, after := _, guard := none } (.pointer (some ⟨rb, 4, none⟩)) rfl (Or.inl ⟨by rfl, fun u hu => by go_simp⟩) hS ?_
       simp only [Act.put, aP]
       refine tko 6 { dst := some 124, op := Op.load 70 (Operand.tmp 8), type := 70, pos := _, after := _, guard := none } (.agg #[.string h, .string t]) rfl (Or.inl ⟨by rfl, fun u hu => by (have q1 : u.cell? ⟨W1.heap.size, 0, none⟩ = some (.string h) := (cellO hu).trans rfl; have q2 : u.cell? ⟨W1.heap.size, 1, none⟩ = some (.string t) := (cellO hu).trans rfl; go_simp)⟩) hS ?_
       simp only [Act.put, aP]
       refine wpAnyH_ready (rs := [5, 7]) (by kernel_rfl) (by simp) (AllReadyH.cons (o := { dst := some 123, op := Op.load 27 (Operand.tmp 122), type := 27, pos := _, after := _, guard := none }) rfl (fun K hK => ?_) (AllReadyH.cons (o := { dst := some 125, op := Op.buildSlice 27 1 #[(0, Operand.tmp 124)], type := 27, pos := _, after := _, guard := none }) rfl (fun K hK => ?_) AllReadyH.nil))
       ·have zo : World.cell? (wc.drew) ⟨rb, 4, none⟩ = some (.slice ea s'.exports.length ec) := (cellO PX_0.out.1.blk).trans rfl
        go_simp
        clear zo
        refine hK.out _ _ hS (fun hS => ?_)
        clear hK K
        refine wpAnyH_ready (rs := [7]) (by kernel_rfl) (by simp) (AllReadyH.cons (o := { dst := some 125, op := Op.buildSlice 27 1 #[(0, Operand.tmp 124)], type := 27, pos := _, after := _, guard := none }) rfl (fun K hK => ?_) AllReadyH.nil)
        go_simp
        have hb1 : Below (wc.drew).heap.size (wc.drew) (World.alloc (wc.drew) (.cells #[.string h, .string t] 70)) := (Below.refl _ _).alloc (Nat.le_refl _) _
        have hz1 := news2 (wc.drew) (.string h) (.string t) 70
        have hS1 : (World.alloc (wc.drew) (.cells #[.string h, .string t] 70)).heap[W1.heap.size]? = some (.cells #[.string h, .string t] 70 (0, 0)) := upH hS hb1
        have PX_1 := hidd (And.intro (PX_0.out.1.below hb1) (PX_0.out.2.trans (hb1.mono (Nat.le_of_lt PX_0.out.1.lt))))
        change K _ (World.alloc (wc.drew) (.cells #[.string h, .string t] 70))
        obtain ⟨U1, hU1⟩ : ∃ U, (World.alloc (wc.drew) (.cells #[.string h, .string t] 70)) = U := ⟨_, rfl⟩
        rw [hU1] at PX_1 hz1 hS1 hb1 ⊢
        have HZ_1 := hidd hz1
        clear hU1 hb1 hz1
        refine hK.out _ _ hS1 (fun hS => ?_)
        clear hK K
        refine wpAnyH_ready (rs := [8]) (by kernel_rfl) (by simp) (AllReadyH.cons (o := { dst := some 126, op := Op.call { callee := Callee.builtin Builtin.append, args := #[Operand.tmp 123, Operand.tmp 125], argTypes := #[27, 27] }, type := 27, pos := _, after := _, guard := none }) rfl (fun K hK => ?_) AllReadyH.nil)
        refine step_append_lies _ rfl (.tmp 123) (.tmp 125) 27 rfl (rb + 1) 70 i0 _ 2 32 Tryz.underlying27 hinf hz0 hz1 hz2 rfl (by decide) (.slice ea s'.exports.length ec) s'.exports.length (flatE s'.exports) rfl (by exact PX_1.out.1.eo) ⟨(wc).heap.size, 0, none⟩ 1 1 [.string h, .string t] rfl rfl (by exact HZ_1.out) (by intro u hu; simp at hu; rcases hu with rfl | rfl <;> rfl) (by decide) (by unfold maxLen; omega) (by omega) PX_1.out.1.lt (U1).heap.size rfl ?_
        intro g cp w6 hown hgrow hat hlt4
        have HI := PX_1.out.1.exps (new := [(h, t)]) (by rw [flatE_append]; exact hown) (by simp) hgrow (by rcases hat with h' | h'; exact Or.inl h'.symm; exact Or.inr (by rw [h']; rfl))
        have hS6 : w6.heap[W1.heap.size]? = some (.cells #[.string h, .string t] 70 (0, 0)) := (hgrow.block _ (ltH hS) (fun e => by have := HSB.out.1 _ e.symm; omega)).trans hS
        have hwb : WB rb fv tv lv s'.name (.slice ea s'.exports.length ec) iv bv e3 w6 := (hgrow.block rb PX_1.out.1.lt (fun e => own_wb PX_1.out.1.eo PX_1.out.1.blk (by decide) e.symm rfl)).trans PX_1.out.1.blk
        refine hK.out _ _ hS6 (fun hS => ?_)
        exact TL.out g cp w6 ⟨hS6, hwb, HI.1, PX_1.out.2.trans HI.2⟩
       go_simp
       have hb1 : Below (wc.drew).heap.size (wc.drew) (World.alloc (wc.drew) (.cells #[.string h, .string t] 70)) := (Below.refl _ _).alloc (Nat.le_refl _) _
       have hz1 := news2 (wc.drew) (.string h) (.string t) 70
       have hS1 : (World.alloc (wc.drew) (.cells #[.string h, .string t] 70)).heap[W1.heap.size]? = some (.cells #[.string h, .string t] 70 (0, 0)) := upH hS hb1
       have PX_1 := hidd (And.intro (PX_0.out.1.below hb1) (PX_0.out.2.trans (hb1.mono (Nat.le_of_lt PX_0.out.1.lt))))
       change K _ (World.alloc (wc.drew) (.cells #[.string h, .string t] 70))
       obtain ⟨U1, hU1⟩ : ∃ U, (World.alloc (wc.drew) (.cells #[.string h, .string t] 70)) = U := ⟨_, rfl⟩
       rw [hU1] at PX_1 hz1 hS1 hb1 ⊢
       have HZ_1 := hidd hz1
       clear hU1 hb1 hz1
       refine hK.out _ _ hS1 (fun hS => ?_)
       clear hK K
       refine wpAnyH_ready (rs := [5]) (by kernel_rfl) (by simp) (AllReadyH.cons (o := { dst := some 123, op := Op.load 27 (Operand.tmp 122), type := 27, pos := _, after := _, guard := none }) rfl (fun K hK => ?_) AllReadyH.nil)
       have zo : World.cell? (U1) ⟨rb, 4, none⟩ = some (.slice ea s'.exports.length ec) := (cellO PX_1.out.1.blk).trans rfl
       go_simp
       clear zo
       refine hK.out _ _ hS (fun hS => ?_)
       clear hK K
       refine wpAnyH_ready (rs := [8]) (by kernel_rfl) (by simp) (AllReadyH.cons (o := { dst := some 126, op := Op.call { callee := Callee.builtin Builtin.append, args := #[Operand.tmp 123, Operand.tmp 125], argTypes := #[27, 27] }, type := 27, pos := _, after := _, guard := none }) rfl (fun K hK => ?_) AllReadyH.nil)
       refine step_append_lies _ rfl (.tmp 123) (.tmp 125) 27 rfl (rb + 1) 70 i0 _ 2 32 Tryz.underlying27 hinf hz0 hz1 hz2 rfl (by decide) (.slice ea s'.exports.length ec) s'.exports.length (flatE s'.exports) rfl (by exact PX_1.out.1.eo) ⟨(wc).heap.size, 0, none⟩ 1 1 [.string h, .string t] rfl rfl (by exact HZ_1.out) (by intro u hu; simp at hu; rcases hu with rfl | rfl <;> rfl) (by decide) (by unfold maxLen; omega) (by omega) PX_1.out.1.lt (U1).heap.size rfl ?_
       intro g cp w6 hown hgrow hat hlt4
       have HI := PX_1.out.1.exps (new := [(h, t)]) (by rw [flatE_append]; exact hown) (by simp) hgrow (by rcases hat with h' | h'; exact Or.inl h'.symm; exact Or.inr (by rw [h']; rfl))
       have hS6 : w6.heap[W1.heap.size]? = some (.cells #[.string h, .string t] 70 (0, 0)) := (hgrow.block _ (ltH hS) (fun e => by have := HSB.out.1 _ e.symm; omega)).trans hS
       have hwb : WB rb fv tv lv s'.name (.slice ea s'.exports.length ec) iv bv e3 w6 := (hgrow.block rb PX_1.out.1.lt (fun e => own_wb PX_1.out.1.eo PX_1.out.1.blk (by decide) e.symm rfl)).trans PX_1.out.1.blk
       refine hK.out _ _ hS6 (fun hS => ?_)
       exact TL.out g cp w6 ⟨hS6, hwb, HI.1, PX_1.out.2.trans HI.2⟩
      intro g cp w6 ⟨hS, hwb, hA, hB⟩
      have HWB := hidd hwb
      have HFI := hidd (And.intro hA hB)
      clear hwb hA hB
      refine tko 9 { dst := some 127, op := Op.nilCheck (Operand.tmp 118), type := 0, pos := _, after := _, guard := none } (.pointer (some ⟨rb, 0, none⟩)) rfl (Or.inl ⟨by rfl, fun u hu => by go_simp⟩) hS ?_
      simp only [Act.put, aP]
      refine tko 10 { dst := some 128, op := Op.fieldAddr 61 (Operand.tmp 127) 3, type := 0, pos := _, after := _, guard := none } (.pointer (some ⟨rb, 3, none⟩)) rfl (Or.inl ⟨by rfl, fun u hu => by go_simp⟩) hS ?_
      simp only [Act.put, aP]
      refine tko 11 { dst := some 129, op := Op.fieldAddr 30 (Operand.tmp 128) 1, type := 0, pos := _, after := _, guard := none } (.pointer (some ⟨rb, 4, none⟩)) rfl (Or.inl ⟨by rfl, fun u hu => by go_simp⟩) hS ?_
      simp only [Act.put, aP]
      refine wpAnyH_ready (rs := [12]) (by kernel_rfl) (by simp) (AllReadyH.cons (o := { dst := none, op := Op.store 27 (Operand.tmp 129) (Operand.tmp 126), type := 0, pos := _, after := _, guard := none }) rfl (fun K hK => ?_) AllReadyH.nil)
      have y5 : World.cell? w6 ⟨rb, 4, none⟩ = some (.slice ea s'.exports.length ec) := (cellO HWB.out).trans rfl
      have u5 : World.frozen? w6 ⟨rb, 4, none⟩ = false := looseO HWB.out
      go_simp
      clear y5 u5
      have hS12 : (w6.setCell ⟨rb, 4, none⟩ (.slice (some ⟨g, 0, none⟩) (s'.exports.length + 1) cp)).heap[W1.heap.size]? = some (.cells #[.string h, .string t] 70 (0, 0)) := (Below.heap_setCell _ _ _ _ (show W1.heap.size ≠ rb by have := HSB.out.2; omega)).trans hS
      refine hK.out _ _ hS12 (fun hS => ?_)
      clear hK K
      refine wpAnyH_done (by kernel_rfl) ?_ _
      have HF := hidd HFI.out
      obtain ⟨Wf, hWf⟩ : ∃ Wf, (w6.setCell ⟨rb, 4, none⟩ (.slice (some ⟨g, 0, none⟩) (s'.exports.length + 1) cp)) = Wf := ⟨_, rfl⟩
      rw [hWf] at HF ⊢
      clear hWf HFI HWB hS
      go_wp2_with fail
      go_roundw
      case rel =>
       refine ⟨j + 1, { s' with exports := s'.exports ++ [(h, t)] }, e3, hlt, by go_num, HF.out.2, ⟨is, es, _, _, _, HF.out.1, HG.out.2.1, ⟨HG.out.2.2.1.1, fun _ => HG.out.2.2.1.2 (by first | rfl | trivial)⟩, ⟨?_, fun h0 => ?_⟩, HG.out.2.2.2.2.1, HG.out.2.2.2.2.2⟩, fun h0 => (HRES.out.1 h0).1, fun h0 => HRES.out.2 h0⟩
       ·show (s'.exports ++ [(h, t)]).length ≤ 201
        simp; omega
       show (s'.exports ++ [(h, t)]).length ≤ 200
       have := (HRES.out.1 h0).2
       simp; omega
      case measure => simp [intOf] <;> omega
 by_cases hnimport : nm = bImport
 ·have hn := hnimport
  clear hnexport hnimport
  have ke : (nm.toList == bExport.toList) = false := beqS_ne (by rw [hn]; decide)
  unfold bExport at ke
  have mexport : (nm.toList == [101, 120, 112, 111, 114, 116]) = false := by simpa using ke
  clear ke
  have ke : (nm.toList == bImport.toList) = true := by rw [hn]; simp
  unfold bImport at ke
  have mimport : (nm.toList == [105, 109, 112, 111, 114, 116]) = true := by simpa using ke
  clear ke
  have ke : (nm.toList == bBegin.toList) = false := beqS_ne (by rw [hn]; decide)
  unfold bBegin at ke
  have mbegin : (nm.toList == [98, 101, 103, 105, 110]) = false := by simpa using ke
  clear ke
  have ke : (nm.toList == bInclude.toList) = false := beqS_ne (by rw [hn]; decide)
  unfold bInclude at ke
  have minclude : (nm.toList == [105, 110, 99, 108, 117, 100, 101]) = false := by simpa using ke
  clear ke
  have ke : (nm.toList == bCond.toList) = false := beqS_ne (by rw [hn]; decide)
  unfold bCond at ke
  have mcond : (nm.toList == [99, 111, 110, 100, 45, 101, 120, 112, 97, 110, 100]) = false := by simpa using ke
  clear ke
  have HVV : Hid (declD E d s = (importsF r s)) := by
   show _ = _
   rw [HV.out, ← HXN.out, hn, if_neg (by decide), if_pos rfl]
  clear hn
  obtain ⟨i0, hinf, hz0, hz1, hz2⟩ := info_partsL infoSetL
  go_wp2_with fail
  go_loopw [12, 13, 136] (fun _ _ ix wr => ∃ (j : Nat) (s' : LibS) (e : Int), j ≤ r.length ∧ ix = .int .i64 j ∧ Hid (Below rb w2 wr ∧ WL rb fv tv lv s' e wr ∧ (e = 0 → importsF r s = importsF (r.drop j) s') ∧ (e ≠ 0 → importsF r s = .no e))) (fun _ _ ix _ => r.length - (intOf ix).toNat)
  case atStart => exact ⟨0, s, 0, Nat.zero_le _, rfl, Below.refl _ _, H2.out, fun _ => by rw [List.drop_zero], fun h => absurd rfl h⟩
  obtain ⟨j, s', e, hj, rfl, HR⟩ := hrel
  by_cases hlt : j < r.length
  rotate_left
  ·obtain rfl : j = r.length := by omega
   have HFI : Hid (Below rb w wr ∧ ∃ s', WL rb fv tv lv s' (erE (importsF r s)) wr ∧ ∀ s2, importsF r s = .ok s2 → s' = s2) := by
    refine ⟨B2.out.trans HR.out.1, s', ?_⟩
    by_cases he0 : e = 0
    ·have h1 := HR.out.2.2.1 he0
     rw [List.drop_length, importsF] at h1
     have h2 := HR.out.2.1
     rw [he0] at h2
     rw [h1]
     exact ⟨h2, fun s2 hs2 => by cases hs2; rfl⟩
    have h1 := HR.out.2.2.2 he0
    rw [h1]
    exact ⟨HR.out.2.1, fun s2 hs2 => by cases hs2⟩
   have hq1 : ¬ ((r.length : Int) < (r.length : Int)) := by omega
   go_wp2_with fail
   go_end0
   rw [HVV.out]
   exact ⟨rfl, HFI.out.1, HFI.out.2⟩
  obtain ⟨z, hz⟩ : ∃ z, r[j]? = some z := ⟨_, List.getElem?_eq_getElem hlt⟩
  obtain ⟨gz, b', o', za, zc, _, rfl, hA', hzk⟩ := (HR2.out wr HR.out.1).at hz
  obtain ⟨_, z0, z1, z2, z3, z4, z5, _, hzl⟩ := hA'
  have j1 : (0 : Int) ≤ (j : Int) := by omega
  have j2 : (j : Int) < (r.length : Int) := by omega
  have hbz : Below wr.heap.size wr (wr.alloc (.cells #[.int .i64 z.kind, .int .i64 z.n, .string z.name, .int .i64 z.stamp, .int .i64 z.lib, .slice za z.kids.length zc] 26)) := (Below.refl _ _).alloc (Nat.le_refl _) _
  obtain ⟨W1, hW1⟩ : ∃ W1, wr.alloc (.cells #[.int .i64 z.kind, .int .i64 z.n, .string z.name, .int .i64 z.stamp, .int .i64 z.lib, .slice za z.kids.length zc] 26) = W1 := ⟨_, rfl⟩
  have hzb : W1.heap[wr.heap.size]? = some (.cells #[.int .i64 z.kind, .int .i64 z.n, .string z.name, .int .i64 z.stamp, .int .i64 z.lib, .slice za z.kids.length zc] 26 (0, 0)) := by rw [← hW1]; exact World.alloc_heap_new wr _
  rw [hW1] at hbz
  have HW1 : Hid (WL rb fv tv lv s' e W1 ∧ Below rb w2 W1) := ⟨HR.out.2.1.below hbz, HR.out.1.trans (hbz.mono (Nat.le_of_lt HR.out.2.1.lt))⟩
  have HZK : Hid (∀ W, Below rb W1 W → Dc (fun k => k < rb) W gz za z.kids) := fun W hb => hzk.below ((hbz.mono (Nat.le_of_lt HR.out.2.1.lt)).trans hb)
  have hzm := List.mem_of_getElem? hz
  have HOZ : Hid (okD z) := okL_mem HOR.out.1 z hzm
  have HIM : Hid (e = 0 → importsF r s = if s'.imports.length < 20 then (setF 12 z).bind fun x => importsF (r.drop (j + 1)) { s' with imports := s'.imports ++ [x] } else .no 5) := fun he => by rw [HR.out.2.2.1 he, importsF_at hz]
  obtain ⟨is, es, ev, iv, bv, g1, g2, g3, g4, g5, g6⟩ := HW1.out.1
  obtain ⟨ia, ic, rfl, hic⟩ := own_sliceL g1.io
  have c5 : W1.cell? ⟨rb, 5, none⟩ = some (.slice ia is.length ic) := (cellO g1.blk).trans rfl
  have hil : is.length = s'.imports.length := by rw [← g2]; simp
  have HG := hidd (And.intro g1 (And.intro g2 (And.intro g3 (And.intro g4 (And.intro g5 g6)))))
  have g5' := g5
  have SET0 : e = 0 → Calls Tryz.prog 60 #[.pointer (some ⟨rb, 0, none⟩), dv z za zc, .int .i64 1] W1 (TellS rb (setF 12 z) W1) := fun he => by
   have hE := HW1.out.1.e7
   rw [he] at hE
   exact Set_any rb 12 (Nat.le_refl _) gz z za zc W1 hE (DW.of (HZK.out W1 (Below.refl _ _)) (Nat.le_of_lt HW1.out.1.lt)) hzl HOZ.out
  have SET := hidd SET0
  have HILN := hidd hil
  clear hzk hz hbz hzm hzl g1 g2 g3 g4 g5 g6 hic SET0 hil
  obtain ⟨y0, y1, y2, y3, y4, y5⟩ := six_at hzb
  unfold dv at SET
  generalize z.kids.length = zn at *
  by_cases hbig : 20 ≤ is.length
  ·have k1 : decide ((20 : Int) ≤ (is.length : Int)) = true := by simp; omega
   have k2 : (20 : Int) ≤ (is.length : Int) := by omega
   have SP := hidd (stop_any rb e 5 W1 HW1.out.1.e7)
   have hn5 : fst1 e 5 ≠ 0 := by unfold fst1; split <;> omega
   have HN5 := hidd hn5
   have HBI := hidd hbig
   clear hn5 hbig
   go_wp2_with fail
   refine SP.out.mono ?_
   rintro en w4 ⟨rfl, hs4⟩
   have H4 : Hid (Below rb w2 w4 ∧ WL rb fv tv lv s' (fst1 e 5) w4) := ⟨HW1.out.2.trans (hs4.lowr HW1.out.1.e7), is, es, _, _, _, HG.out.1.st (fun h => absurd h HN5.out) hs4, HG.out.2.1, ⟨HG.out.2.2.1.1, fun h => absurd h HN5.out⟩, ⟨HG.out.2.2.2.1.1, fun h => absurd h HN5.out⟩, HG.out.2.2.2.2.1, HG.out.2.2.2.2.2⟩
   clear hs4 SP c5 hW1 z0 z1 z2 z3 z4 z5 y0 y1 y2 y3 y4 y5 hzb
   have GD := hidd (good1 rb _ w4 H4.out.2.e7 HN5.out)
   go_wp2_with fail
   refine GD.out.mono ?_
   rintro en wm ⟨rfl, hwm⟩
   rw [hwm]
   clear hwm
   clear GD
   go_wp2_with fail
   go_roundw
   case rel =>
    refine ⟨j + 1, s', fst1 e 5, hlt, by go_num, H4.out.1, H4.out.2, fun h => absurd h HN5.out, fun _ => ?_⟩
    by_cases he : e = 0
    ·rw [HIM.out he, if_neg (by have := HILN.out; have := HBI.out; omega), he]; rfl
    rw [HR.out.2.2.2 he, fst1_no he]
   case measure => simp [intOf] <;> omega
  have k1 : decide ((20 : Int) ≤ (is.length : Int)) = false := by simp; omega
  have k2 : ¬ (20 : Int) ≤ (is.length : Int) := by omega
  by_cases he : e = 0
  rotate_left
  ·have GD := hidd (good1 rb e W1 HW1.out.1.e7 he)
   have HNE := hidd he
   clear he hbig
   go_wp2_with fail
   refine GD.out.mono ?_
   rintro en wm ⟨rfl, hwm⟩
   rw [hwm]
   clear hwm
   clear GD hW1 z0 z1 z2 z3 z4 z5 y0 y1 y2 y3 y4 y5 hzb c5
   go_wp2_with fail
   go_roundw
   case rel => exact ⟨j + 1, s', e, hlt, by go_num, HW1.out.2, HW1.out.1, fun h => absurd h HNE.out, HR.out.2.2.2⟩
   case measure => simp [intOf] <;> omega
  have HIM' := hidd (HIM.out he)
  have SET' := hidd (SET.out he)
  subst he
  have GD := hidd (good0 rb W1 HW1.out.1.e7)
  go_wp2_with fail
  refine GD.out.mono ?_
  rintro en wm ⟨rfl, hwm⟩
  rw [hwm]
  clear hwm
  clear GD hW1 z0 z1 z2 z3 z4 z5
  go_wp2_with fail
  refine SET'.out.mono ?_
  rintro en w4 ⟨v, rfl, ⟨k', nm', a1, m1, u1, a2, m2, u2, p', a3, m3, u3, rfl⟩, hs4, hok4⟩
  clear y0 y1 y2 y3 y4 y5 hzb c5 SET SET' HIM
  go_upto_region 35 with fail
  obtain ⟨q, hq⟩ : ∃ q, q = erE (setF 12 z) := ⟨_, rfl⟩
  rw [← hq] at hs4
  have hb5 : Below w4.heap.size w4 (w4.alloc (.cells #[.int .i64 k', .string nm', .slice a1 m1 u1, .slice a2 m2 u2, .string p', .slice a3 m3 u3] 73)) := (Below.refl _ _).alloc (Nat.le_refl _) _
  have hn5 := World.alloc_heap_new w4 (.cells #[.int .i64 k', .string nm', .slice a1 m1 u1, .slice a2 m2 u2, .string p', .slice a3 m3 u3] 73)
  obtain ⟨w5, hw5⟩ : ∃ w5, w4.alloc (.cells #[.int .i64 k', .string nm', .slice a1 m1 u1, .slice a2 m2 u2, .string p', .slice a3 m3 u3] 73) = w5 := ⟨_, rfl⟩
  rw [hw5] at hb5 hn5 ⊢
  have H5 : Hid (WS rb fv tv lv s'.name s'.exports is es ev (.slice ia is.length ic) bv q w5 ∧ Below rb w2 w5) := ⟨(HG.out.1.st (fun _ => rfl) hs4).below hb5, HW1.out.2.trans ((hs4.lowr HW1.out.1.e7).trans (hb5.mono (Nat.le_of_lt (HG.out.1.st (fun _ => rfl) hs4).lt)))⟩
  obtain ⟨ie, hie, hies, hieo⟩ : ∃ ie : IE, ie.cells = [.int .i64 k', .string nm', .slice a1 m1 u1, .slice a2 m2 u2, .string p', .slice a3 m3 u3] ∧ (∀ x, setF 12 z = .ok x → ie.s = x) ∧ (q = 0 → ie.ok (Frz rb ev (.slice ia is.length ic) bv w5) w5) := by
   cases hS : setF 12 z with
   | no x => exact ⟨⟨Se.mk k' nm' [] [] p' [], .slice a1 m1 u1, .slice a2 m2 u2, .slice a3 m3 u3⟩, rfl, fun x hx => (by cases hx), fun h0 => absurd (show x = 0 by have h1 := hq; rw [hS, h0] at h1; exact h1.symm) (nz_set 12 z x hS)⟩
   | ok x =>
    have hse := hok4 x hS
    obtain ⟨xk, xn, xns, xas, xp, xks⟩ := x
    obtain ⟨nv, av, kv, hv, t1, t2, t3⟩ := hse
    simp only [Value.agg.injEq, Array.mk.injEq, List.cons.injEq, and_true, Value.int.injEq, Value.string.injEq, true_and] at hv
    obtain ⟨hv1, hv2, rfl, rfl, hv3, rfl⟩ := hv
    subst hv1 hv2 hv3
    have st : ∀ k, W1.heap.size ≤ k ∧ k < w4.heap.size → w5.heap[k]? = w4.heap[k]? := fun k hk => hb5.block k hk.2
    have up : ∀ k, W1.heap.size ≤ k ∧ k < w4.heap.size → Frz rb ev (.slice ia is.length ic) bv w5 k := fun k hk => ⟨Nat.lt_of_lt_of_le HG.out.1.lt hk.1, HG.out.1.fresh hk.1 (Nat.lt_of_lt_of_le hk.2 hb5.size)⟩
    exact ⟨⟨Se.mk _ _ xns xas _ xks, _, _, _⟩, rfl, fun x hx => (by cases hx; rfl), fun _ => ⟨t1.stay st up, t2.stay st up, t3.stay st up⟩⟩
  have HKI := hidd (And.intro hies hieo)
  have HIC := hidd hie
  have HSB : Hid ((∀ g, (Value.slice ia is.length ic).ownBlock = some g → g < w4.heap.size) ∧ rb < w4.heap.size ∧ w4.heap.size < w5.heap.size) := ⟨fun g hg => Nat.lt_of_lt_of_le (own_typeL HG.out.1.io g hg).2.1 hs4.size, (HG.out.1.st (fun _ => rfl) hs4).lt, ltH hn5⟩
  have HQ := hidd hq
  have HN5 := hidd hn5
  clear hie hies hieo hs4 hok4 hb5 hw5 hq hn5
  have PX_0 := hidd (And.intro (H5.out.1.below (Below.refl _ _).drew) (And.intro (H5.out.2.trans ((Below.refl _ _).drew)) (fun h0 => (IE.stay (HKI.out.2 h0) (fun k hk => rfl) (fun k hk => hk) : ie.ok (Frz rb ev (.slice ia is.length ic) bv w5.drew) w5.drew))))
  have hisl : is.length ≤ 20 := by omega
  refine wp_region_held_drew (S := (fun u => u.heap[w4.heap.size]? = some (.cells #[.int .i64 k', .string nm', .slice a1 m1 u1, .slice a2 m2 u2, .string p', .slice a3 m3 u3] 73 (0, 0)))) (by kernel_rfl) HN5.out (fun hS => ?_)
  apply cutJ (fun g cp w6 => w6.heap[w4.heap.size]? = some (.cells #[.int .i64 k', .string nm', .slice a1 m1 u1, .slice a2 m2 u2, .string p', .slice a3 m3 u3] 73 (0, 0)) ∧ w4.heap.size ≠ g ∧ (∃ cur : Array Value, w6.heap[g]? = some (.cells cur 73 (0, 0)) ∧ (is.length + 1) * 6 ≤ cur.size) ∧ rb ≠ g ∧ WB rb fv tv lv s'.name ev (.slice ia is.length ic) bv q w6 ∧ (WS rb fv tv lv s'.name s'.exports (is ++ [ie]) es ev (.slice (some ⟨g, 0, none⟩) (is.length + 1) cp) bv q ((sixW w6 g (is.length * 6) (.int .i64 k') (.string nm') (.slice a1 m1 u1) (.slice a2 m2 u2) (.string p') (.slice a3 m3 u3)).setCell ⟨rb, 5, none⟩ (.slice (some ⟨g, 0, none⟩) (is.length + 1) cp)) ∧ Below rb w2 ((sixW w6 g (is.length * 6) (.int .i64 k') (.string nm') (.slice a1 m1 u1) (.slice a2 m2 u2) (.string p') (.slice a3 m3 u3)).setCell ⟨rb, 5, none⟩ (.slice (some ⟨g, 0, none⟩) (is.length + 1) cp))) ∧ WS rb fv tv lv s'.name s'.exports (is ++ [ie]) es ev (.slice (some ⟨g, 0, none⟩) (is.length + 1) cp) bv q (sixW (w6.setCell ⟨rb, 5, none⟩ (.slice (some ⟨g, 0, none⟩) (is.length + 1) cp)) g (is.length * 6) (.int .i64 k') (.string nm') (.slice a1 m1 u1) (.slice a2 m2 u2) (.string p') (.slice a3 m3 u3)) ∧ Below rb w2 (sixW (w6.setCell ⟨rb, 5, none⟩ (.slice (some ⟨g, 0, none⟩) (is.length + 1) cp)) g (is.length * 6) (.int .i64 k') (.string nm') (.slice a1 m1 u1) (.slice a2 m2 u2) (.string p') (.slice a3 m3 u3)))
  ·intro TL
   refine tko 0 { dst := some 154, op := Op.move (Operand.tmp 0), type := 59, pos := _, after := _, guard := none } (.pointer (some ⟨rb, 0, none⟩)) rfl (Or.inl ⟨by rfl, fun u hu => by go_simp⟩) hS ?_
   simp only [Act.put, aP]
   refine tko 1 { dst := some 155, op := Op.nilCheck (Operand.tmp 154), type := 0, pos := _, after := _, guard := none } (.pointer (some ⟨rb, 0, none⟩)) rfl (Or.inl ⟨by rfl, fun u hu => by go_simp⟩) hS ?_
   simp only [Act.put, aP]
   refine tko 2 { dst := some 156, op := Op.fieldAddr 61 (Operand.tmp 155) 3, type := 0, pos := _, after := _, guard := none } (.pointer (some ⟨rb, 3, none⟩)) rfl (Or.inl ⟨by rfl, fun u hu => by go_simp⟩) hS ?_
   simp only [Act.put, aP]
   refine tko 3 { dst := some 157, op := Op.fieldAddr 30 (Operand.tmp 156) 2, type := 0, pos := _, after := _, guard := none } (.pointer (some ⟨rb, 5, none⟩)) rfl (Or.inl ⟨by rfl, fun u hu => by go_simp⟩) hS ?_
   simp only [Act.put, aP]
   refine tko 5 { dst := some 159, op := Op.load 73 (Operand.tmp 13), type := 73, pos := _, after := _, guard := none } (.agg #[.int .i64 k', .string nm', .slice a1 m1 u1, .slice a2 m2 u2, .string p', .slice a3 m3 u3]) rfl (Or.inl ⟨by rfl, fun u hu => by (obtain ⟨z0, z1, z2, z3, z4, z5⟩ := six_at hu; go_simp)⟩) hS ?_
   simp only [Act.put, aP]
   refine wpAnyH_ready (rs := [4, 7]) (by kernel_rfl) (by simp) (AllReadyH.cons (o := { dst := some 158, op := Op.load 28 (Operand.tmp 157), type := 28, pos := _, after := _, guard := none }) rfl (fun K hK => ?_) (AllReadyH.cons (o := { dst := some 161, op := Op.buildSlice 28 1 #[(0, Operand.const (Value.agg #[Value.int IntKind.i64 0, Value.string { data := #[] }, Value.slice none 0 0, Value.slice none 0 0, Value.string { data := #[] }, Value.slice none 0 0]))], type := 28, pos := _, after := _, guard := none }) rfl (fun K hK => ?_) AllReadyH.nil))
   ·have zo : World.cell? (w5.drew) ⟨rb, 5, none⟩ = some (.slice ia is.length ic) := (cellO PX_0.out.1.blk).trans rfl
    go_simp
    clear zo
    refine hK.out _ _ hS (fun hS => ?_)
    clear hK K
    refine tko 6 { dst := some 160, op := Op.call { callee := Callee.builtin Builtin.len, args := #[Operand.tmp 158], argTypes := #[28] }, type := 3, pos := _, after := _, guard := none } (.int .i64 is.length) rfl (Or.inl ⟨by rfl, fun u hu => by go_simp⟩) hS ?_
    simp only [Act.put, aP]
    refine wpAnyH_ready (rs := [7]) (by kernel_rfl) (by simp) (AllReadyH.cons (o := { dst := some 161, op := Op.buildSlice 28 1 #[(0, Operand.const (Value.agg #[Value.int IntKind.i64 0, Value.string { data := #[] }, Value.slice none 0 0, Value.slice none 0 0, Value.string { data := #[] }, Value.slice none 0 0]))], type := 28, pos := _, after := _, guard := none }) rfl (fun K hK => ?_) AllReadyH.nil)
    go_simp
    have hb1 : Below (w5.drew).heap.size (w5.drew) (World.alloc (w5.drew) (.cells #[.int .i64 0, .string ⟨#[]⟩, .slice none 0 0, .slice none 0 0, .string ⟨#[]⟩, .slice none 0 0] 73)) := (Below.refl _ _).alloc (Nat.le_refl _) _
    have hz1 : (World.alloc (w5.drew) (.cells #[.int .i64 0, .string ⟨#[]⟩, .slice none 0 0, .slice none 0 0, .string ⟨#[]⟩, .slice none 0 0] 73)).heap[(w5).heap.size]? = some (.cells #[.int .i64 0, .string ⟨#[]⟩, .slice none 0 0, .slice none 0 0, .string ⟨#[]⟩, .slice none 0 0] 73 (0, 0)) := World.alloc_heap_new _ _
    have hS1 : (World.alloc (w5.drew) (.cells #[.int .i64 0, .string ⟨#[]⟩, .slice none 0 0, .slice none 0 0, .string ⟨#[]⟩, .slice none 0 0] 73)).heap[w4.heap.size]? = some (.cells #[.int .i64 k', .string nm', .slice a1 m1 u1, .slice a2 m2 u2, .string p', .slice a3 m3 u3] 73 (0, 0)) := upH hS hb1
    have PX_1 := hidd (And.intro (PX_0.out.1.below hb1) (And.intro (PX_0.out.2.1.trans (hb1.mono (Nat.le_of_lt PX_0.out.1.lt))) (fun h0 => IE.stay (PX_0.out.2.2 h0) (fun k hk => hb1.block k hk.2.1) (fun k hk => (⟨hk.1, Nat.lt_of_lt_of_le hk.2.1 hb1.size, hk.2.2⟩ : Frz rb ev (.slice ia is.length ic) bv _ k)))))
    have hw1 : w5.heap.size ≤ (World.alloc (w5.drew) (.cells #[.int .i64 0, .string ⟨#[]⟩, .slice none 0 0, .slice none 0 0, .string ⟨#[]⟩, .slice none 0 0] 73)).heap.size := by simp
    change K _ (World.alloc (w5.drew) (.cells #[.int .i64 0, .string ⟨#[]⟩, .slice none 0 0, .slice none 0 0, .string ⟨#[]⟩, .slice none 0 0] 73))
    obtain ⟨U1, hU1⟩ : ∃ U, (World.alloc (w5.drew) (.cells #[.int .i64 0, .string ⟨#[]⟩, .slice none 0 0, .slice none 0 0, .string ⟨#[]⟩, .slice none 0 0] 73)) = U := ⟨_, rfl⟩
    rw [hU1] at PX_1 hz1 hS1 hb1 hw1 ⊢
    have HZ_1 := hidd (And.intro hz1 hw1)
    clear hU1 hb1 hz1 hw1
    refine hK.out _ _ hS1 (fun hS => ?_)
    clear hK K
    refine wpAnyH_ready (rs := [8]) (by kernel_rfl) (by simp) (AllReadyH.cons (o := { dst := some 162, op := Op.call { callee := Callee.builtin Builtin.append, args := #[Operand.tmp 158, Operand.tmp 161], argTypes := #[28, 28] }, type := 28, pos := _, after := _, guard := none }) rfl (fun K hK => ?_) AllReadyH.nil)
    refine step_append_lies _ rfl (.tmp 158) (.tmp 161) 28 rfl (rb + 1) 73 i0 _ 6 112 Tryz.underlying28 hinf hz0 hz1 hz2 rfl (by decide) (.slice ia is.length ic) is.length (flatI is) rfl (by exact PX_1.out.1.io) ⟨(w5).heap.size, 0, none⟩ 1 1 Go.Proofs.YtonafbennobgdaaGreatDoor.zeroI rfl rfl ?_ ?_ (by decide) ?_ ?_ PX_1.out.1.lt (U1).heap.size rfl ?_
    ·intro q u hq
     rw [addr_add]
     exact (cellO HZ_1.out.1).trans (by simpa [Go.Proofs.YtonafbennobgdaaGreatDoor.zeroI] using hq)
    ·intro u hu
     simp [Go.Proofs.YtonafbennobgdaaGreatDoor.zeroI] at hu
     rcases hu with rfl | rfl | rfl | rfl | rfl | rfl <;> rfl
    ·unfold maxLen; omega
    ·omega
    intro g cp w6 hown hgrow hat hlt4
    have HI := imp_bothW (e := ie) PX_1.out.1 PX_1.out.2.2 hown hgrow hat HIC.out
    have hne : w4.heap.size ≠ g := by
     have h2 := HSB.out
     rcases hat with h' | h'
     ·have := h2.1 g h'; omega
     have := HZ_1.out.2; omega
    have hS6 : w6.heap[w4.heap.size]? = some (.cells #[.int .i64 k', .string nm', .slice a1 m1 u1, .slice a2 m2 u2, .string p', .slice a3 m3 u3] 73 (0, 0)) := (hgrow.block _ (ltH hS) (fun e => by have := HSB.out.1 _ e.symm; omega)).trans hS
    refine hK.out _ _ hS6 (fun hS => ?_)
    exact TL.out g cp w6 ⟨hS6, hne, HI.1, HI.2.1, HI.2.2.1, ⟨HI.2.2.2.2.1.1, PX_1.out.2.1.trans HI.2.2.2.2.1.2⟩, HI.2.2.2.2.2.1, PX_1.out.2.1.trans HI.2.2.2.2.2.2⟩
   go_simp
   have hb1 : Below (w5.drew).heap.size (w5.drew) (World.alloc (w5.drew) (.cells #[.int .i64 0, .string ⟨#[]⟩, .slice none 0 0, .slice none 0 0, .string ⟨#[]⟩, .slice none 0 0] 73)) := (Below.refl _ _).alloc (Nat.le_refl _) _
   have hz1 : (World.alloc (w5.drew) (.cells #[.int .i64 0, .string ⟨#[]⟩, .slice none 0 0, .slice none 0 0, .string ⟨#[]⟩, .slice none 0 0] 73)).heap[(w5).heap.size]? = some (.cells #[.int .i64 0, .string ⟨#[]⟩, .slice none 0 0, .slice none 0 0, .string ⟨#[]⟩, .slice none 0 0] 73 (0, 0)) := World.alloc_heap_new _ _
   have hS1 : (World.alloc (w5.drew) (.cells #[.int .i64 0, .string ⟨#[]⟩, .slice none 0 0, .slice none 0 0, .string ⟨#[]⟩, .slice none 0 0] 73)).heap[w4.heap.size]? = some (.cells #[.int .i64 k', .string nm', .slice a1 m1 u1, .slice a2 m2 u2, .string p', .slice a3 m3 u3] 73 (0, 0)) := upH hS hb1
   have PX_1 := hidd (And.intro (PX_0.out.1.below hb1) (And.intro (PX_0.out.2.1.trans (hb1.mono (Nat.le_of_lt PX_0.out.1.lt))) (fun h0 => IE.stay (PX_0.out.2.2 h0) (fun k hk => hb1.block k hk.2.1) (fun k hk => (⟨hk.1, Nat.lt_of_lt_of_le hk.2.1 hb1.size, hk.2.2⟩ : Frz rb ev (.slice ia is.length ic) bv _ k)))))
   have hw1 : w5.heap.size ≤ (World.alloc (w5.drew) (.cells #[.int .i64 0, .string ⟨#[]⟩, .slice none 0 0, .slice none 0 0, .string ⟨#[]⟩, .slice none 0 0] 73)).heap.size := by simp
   change K _ (World.alloc (w5.drew) (.cells #[.int .i64 0, .string ⟨#[]⟩, .slice none 0 0, .slice none 0 0, .string ⟨#[]⟩, .slice none 0 0] 73))
   obtain ⟨U1, hU1⟩ : ∃ U, (World.alloc (w5.drew) (.cells #[.int .i64 0, .string ⟨#[]⟩, .slice none 0 0, .slice none 0 0, .string ⟨#[]⟩, .slice none 0 0] 73)) = U := ⟨_, rfl⟩
   rw [hU1] at PX_1 hz1 hS1 hb1 hw1 ⊢
   have HZ_1 := hidd (And.intro hz1 hw1)
   clear hU1 hb1 hz1 hw1
   refine hK.out _ _ hS1 (fun hS => ?_)
   clear hK K
   refine wpAnyH_ready (rs := [4]) (by kernel_rfl) (by simp) (AllReadyH.cons (o := { dst := some 158, op := Op.load 28 (Operand.tmp 157), type := 28, pos := _, after := _, guard := none }) rfl (fun K hK => ?_) AllReadyH.nil)
   have zo : World.cell? (U1) ⟨rb, 5, none⟩ = some (.slice ia is.length ic) := (cellO PX_1.out.1.blk).trans rfl
   go_simp
   clear zo
   refine hK.out _ _ hS (fun hS => ?_)
   clear hK K
   refine tko 6 { dst := some 160, op := Op.call { callee := Callee.builtin Builtin.len, args := #[Operand.tmp 158], argTypes := #[28] }, type := 3, pos := _, after := _, guard := none } (.int .i64 is.length) rfl (Or.inl ⟨by rfl, fun u hu => by go_simp⟩) hS ?_
   simp only [Act.put, aP]
   refine wpAnyH_ready (rs := [8]) (by kernel_rfl) (by simp) (AllReadyH.cons (o := { dst := some 162, op := Op.call { callee := Callee.builtin Builtin.append, args := #[Operand.tmp 158, Operand.tmp 161], argTypes := #[28, 28] }, type := 28, pos := _, after := _, guard := none }) rfl (fun K hK => ?_) AllReadyH.nil)
   refine step_append_lies _ rfl (.tmp 158) (.tmp 161) 28 rfl (rb + 1) 73 i0 _ 6 112 Tryz.underlying28 hinf hz0 hz1 hz2 rfl (by decide) (.slice ia is.length ic) is.length (flatI is) rfl (by exact PX_1.out.1.io) ⟨(w5).heap.size, 0, none⟩ 1 1 Go.Proofs.YtonafbennobgdaaGreatDoor.zeroI rfl rfl ?_ ?_ (by decide) ?_ ?_ PX_1.out.1.lt (U1).heap.size rfl ?_
   ·intro q u hq
    rw [addr_add]
    exact (cellO HZ_1.out.1).trans (by simpa [Go.Proofs.YtonafbennobgdaaGreatDoor.zeroI] using hq)
   ·intro u hu
    simp [Go.Proofs.YtonafbennobgdaaGreatDoor.zeroI] at hu
    rcases hu with rfl | rfl | rfl | rfl | rfl | rfl <;> rfl
   ·unfold maxLen; omega
   ·omega
   intro g cp w6 hown hgrow hat hlt4
   have HI := imp_bothW (e := ie) PX_1.out.1 PX_1.out.2.2 hown hgrow hat HIC.out
   have hne : w4.heap.size ≠ g := by
    have h2 := HSB.out
    rcases hat with h' | h'
    ·have := h2.1 g h'; omega
    have := HZ_1.out.2; omega
   have hS6 : w6.heap[w4.heap.size]? = some (.cells #[.int .i64 k', .string nm', .slice a1 m1 u1, .slice a2 m2 u2, .string p', .slice a3 m3 u3] 73 (0, 0)) := (hgrow.block _ (ltH hS) (fun e => by have := HSB.out.1 _ e.symm; omega)).trans hS
   refine hK.out _ _ hS6 (fun hS => ?_)
   exact TL.out g cp w6 ⟨hS6, hne, HI.1, HI.2.1, HI.2.2.1, ⟨HI.2.2.2.2.1.1, PX_1.out.2.1.trans HI.2.2.2.2.1.2⟩, HI.2.2.2.2.2.1, PX_1.out.2.1.trans HI.2.2.2.2.2.2⟩
  intro g cp w6 ⟨hS, hn1, hcu, hn2, hwb, hA, hC⟩
  have HCU := hidd hcu
  have HNE := hidd (And.intro hn1 hn2)
  have HWB := hidd hwb
  have HFI := hidd (And.intro hA hC)
  clear hn1 hcu hn2 hwb hA hC
  refine tko 9 { dst := some 163, op := Op.indexAddr 28 (Operand.tmp 162) (Operand.tmp 160), type := 0, pos := _, after := _, guard := none } (.pointer (some ⟨g, is.length * 6, none⟩)) rfl (Or.inl ⟨by rfl, fun u hu => by (have b1 : ¬ ((is.length : Int) + 1 ≤ (is.length : Int)) := (by omega); go_simp)⟩) hS ?_
  simp only [Act.put, aP]
  refine tko 11 { dst := some 164, op := Op.nilCheck (Operand.tmp 154), type := 0, pos := _, after := _, guard := none } (.pointer (some ⟨rb, 0, none⟩)) rfl (Or.inl ⟨by rfl, fun u hu => by go_simp⟩) hS ?_
  simp only [Act.put, aP]
  refine tko 12 { dst := some 165, op := Op.fieldAddr 61 (Operand.tmp 164) 3, type := 0, pos := _, after := _, guard := none } (.pointer (some ⟨rb, 3, none⟩)) rfl (Or.inl ⟨by rfl, fun u hu => by go_simp⟩) hS ?_
  simp only [Act.put, aP]
  refine tko 13 { dst := some 166, op := Op.fieldAddr 30 (Operand.tmp 165) 2, type := 0, pos := _, after := _, guard := none } (.pointer (some ⟨rb, 5, none⟩)) rfl (Or.inl ⟨by rfl, fun u hu => by go_simp⟩) hS ?_
  simp only [Act.put, aP]
  refine wpAnyH_ready (rs := [10, 14]) (by kernel_rfl) (by simp) (AllReadyH.cons (o := { dst := none, op := Op.store 73 (Operand.tmp 163) (Operand.tmp 159), type := 0, pos := _, after := _, guard := none }) rfl (fun K hK => ?_) (AllReadyH.cons (o := { dst := none, op := Op.store 28 (Operand.tmp 166) (Operand.tmp 162), type := 0, pos := _, after := _, guard := none }) rfl (fun K hK => ?_) AllReadyH.nil))
  ·obtain ⟨cur, hcg, hcs⟩ := HCU.out
   obtain ⟨x0, x1, x2, x3, x4, x5, y0, y1, y2, y3, y4, y5, u0, u1, u2, u3, u4, u5⟩ := sixRow (w := w6) (n := is.length) hcg hcs
   clear hcs hcg
   go_simp
   clear y0 u0 y1 u1 y2 u2 y3 u3 y4 u4 y5 u5
   have hS10 : (World.heap (sixW (w6) g (is.length * 6) (.int .i64 k') (.string nm') (.slice a1 m1 u1) (.slice a2 m2 u2) (.string p') (.slice a3 m3 u3)))[w4.heap.size]? = some (.cells #[.int .i64 k', .string nm', .slice a1 m1 u1, .slice a2 m2 u2, .string p', .slice a3 m3 u3] 73 (0, 0)) := (sixW_far _ g _ _ HNE.out.1 _ _ _ _ _ _).trans hS
   show K _ (sixW (w6) g (is.length * 6) (.int .i64 k') (.string nm') (.slice a1 m1 u1) (.slice a2 m2 u2) (.string p') (.slice a3 m3 u3))
   refine hK.out _ _ hS10 (fun hS => ?_)
   clear hK K
   refine wpAnyH_ready (rs := [14]) (by kernel_rfl) (by simp) (AllReadyH.cons (o := { dst := none, op := Op.store 28 (Operand.tmp 166) (Operand.tmp 162), type := 0, pos := _, after := _, guard := none }) rfl (fun K hK => ?_) AllReadyH.nil)
   have hpu : (World.heap ((sixW (w6) g (is.length * 6) (.int .i64 k') (.string nm') (.slice a1 m1 u1) (.slice a2 m2 u2) (.string p') (.slice a3 m3 u3))))[rb]? = _ := ((sixW_far _ g _ rb HNE.out.2 _ _ _ _ _ _).trans HWB.out)
   have y5 : World.cell? ((sixW (w6) g (is.length * 6) (.int .i64 k') (.string nm') (.slice a1 m1 u1) (.slice a2 m2 u2) (.string p') (.slice a3 m3 u3))) ⟨rb, 5, none⟩ = some (.slice ia is.length ic) := (cellO hpu).trans rfl
   have u5 : World.frozen? ((sixW (w6) g (is.length * 6) (.int .i64 k') (.string nm') (.slice a1 m1 u1) (.slice a2 m2 u2) (.string p') (.slice a3 m3 u3))) ⟨rb, 5, none⟩ = false := looseO hpu
   clear hpu
   go_simp
   clear y5 u5
   have hS14 : (World.heap (World.setCell ((sixW (w6) g (is.length * 6) (.int .i64 k') (.string nm') (.slice a1 m1 u1) (.slice a2 m2 u2) (.string p') (.slice a3 m3 u3))) ⟨rb, 5, none⟩ (.slice (some ⟨g, 0, none⟩) (is.length + 1) cp)))[w4.heap.size]? = some (.cells #[.int .i64 k', .string nm', .slice a1 m1 u1, .slice a2 m2 u2, .string p', .slice a3 m3 u3] 73 (0, 0)) := (Below.heap_setCell _ _ _ _ (show w4.heap.size ≠ rb by have := HSB.out.2.1; omega)).trans hS
   show K _ (World.setCell ((sixW (w6) g (is.length * 6) (.int .i64 k') (.string nm') (.slice a1 m1 u1) (.slice a2 m2 u2) (.string p') (.slice a3 m3 u3))) ⟨rb, 5, none⟩ (.slice (some ⟨g, 0, none⟩) (is.length + 1) cp))
   refine hK.out _ _ hS14 (fun hS => ?_)
   clear hK K
   refine wpAnyH_done (by kernel_rfl) ?_ _
   have HF := hidd HFI.out.1
   obtain ⟨Wf, hWf⟩ : ∃ Wf, (World.setCell ((sixW (w6) g (is.length * 6) (.int .i64 k') (.string nm') (.slice a1 m1 u1) (.slice a2 m2 u2) (.string p') (.slice a3 m3 u3))) ⟨rb, 5, none⟩ (.slice (some ⟨g, 0, none⟩) (is.length + 1) cp)) = Wf := ⟨_, rfl⟩
   rw [hWf] at HF ⊢
   clear hWf HFI HCU HNE HWB hS
   go_wp2_with fail
   go_roundw
   case rel =>
    refine ⟨j + 1, { s' with imports := s'.imports ++ [ie.s] }, q, hlt, by go_num, HF.out.2, ⟨is ++ [ie], es, _, _, _, HF.out.1, by rw [List.map_append, HG.out.2.1]; rfl, ⟨HG.out.2.2.1.1, fun _ => HG.out.2.2.1.2 (by first | rfl | trivial)⟩, ⟨HG.out.2.2.2.1.1, fun _ => HG.out.2.2.2.1.2 (by first | rfl | trivial)⟩, by simp; omega, HG.out.2.2.2.2.2⟩, fun h0 => ?_, fun h0 => ?_⟩
    ·have h1 := HIM'.out
     rw [if_pos (by have := HILN.out; omega)] at h1
     cases hS2 : setF 12 z with
     | no y => exact absurd (show y = 0 by have h2 := HQ.out; rw [hS2, h0] at h2; exact h2.symm) (nz_set 12 z y hS2)
     | ok y => rw [h1, hS2, HKI.out.1 y hS2]; rfl
    have h1 := HIM'.out
    rw [if_pos (by have := HILN.out; omega)] at h1
    cases hS2 : setF 12 z with
    | no y => rw [h1, hS2, HQ.out, hS2]; rfl
    | ok y => exact absurd (show q = 0 by rw [HQ.out, hS2]; rfl) h0
   case measure => simp [intOf] <;> omega
  have hpu : (World.heap (w6))[rb]? = _ := HWB.out
  have y5 : World.cell? (w6) ⟨rb, 5, none⟩ = some (.slice ia is.length ic) := (cellO hpu).trans rfl
  have u5 : World.frozen? (w6) ⟨rb, 5, none⟩ = false := looseO hpu
  clear hpu
  go_simp
  clear y5 u5
  have hS14 : (World.heap (World.setCell (w6) ⟨rb, 5, none⟩ (.slice (some ⟨g, 0, none⟩) (is.length + 1) cp)))[w4.heap.size]? = some (.cells #[.int .i64 k', .string nm', .slice a1 m1 u1, .slice a2 m2 u2, .string p', .slice a3 m3 u3] 73 (0, 0)) := (Below.heap_setCell _ _ _ _ (show w4.heap.size ≠ rb by have := HSB.out.2.1; omega)).trans hS
  show K _ (World.setCell (w6) ⟨rb, 5, none⟩ (.slice (some ⟨g, 0, none⟩) (is.length + 1) cp))
  refine hK.out _ _ hS14 (fun hS => ?_)
  clear hK K
  refine wpAnyH_ready (rs := [10]) (by kernel_rfl) (by simp) (AllReadyH.cons (o := { dst := none, op := Op.store 73 (Operand.tmp 163) (Operand.tmp 159), type := 0, pos := _, after := _, guard := none }) rfl (fun K hK => ?_) AllReadyH.nil)
  obtain ⟨cur, hcg, hcs⟩ := HCU.out
  obtain ⟨x0, x1, x2, x3, x4, x5, y0, y1, y2, y3, y4, y5, u0, u1, u2, u3, u4, u5⟩ := sixRow (w := (World.setCell (w6) ⟨rb, 5, none⟩ (.slice (some ⟨g, 0, none⟩) (is.length + 1) cp))) (n := is.length) ((Below.heap_setCell _ _ _ _ (show g ≠ rb from fun e => HNE.out.2 e.symm)).trans hcg) hcs
  clear hcs hcg
  go_simp
  clear y0 u0 y1 u1 y2 u2 y3 u3 y4 u4 y5 u5
  have hS10 : (World.heap (sixW ((World.setCell (w6) ⟨rb, 5, none⟩ (.slice (some ⟨g, 0, none⟩) (is.length + 1) cp))) g (is.length * 6) (.int .i64 k') (.string nm') (.slice a1 m1 u1) (.slice a2 m2 u2) (.string p') (.slice a3 m3 u3)))[w4.heap.size]? = some (.cells #[.int .i64 k', .string nm', .slice a1 m1 u1, .slice a2 m2 u2, .string p', .slice a3 m3 u3] 73 (0, 0)) := (sixW_far _ g _ _ HNE.out.1 _ _ _ _ _ _).trans hS
  show K _ (sixW ((World.setCell (w6) ⟨rb, 5, none⟩ (.slice (some ⟨g, 0, none⟩) (is.length + 1) cp))) g (is.length * 6) (.int .i64 k') (.string nm') (.slice a1 m1 u1) (.slice a2 m2 u2) (.string p') (.slice a3 m3 u3))
  refine hK.out _ _ hS10 (fun hS => ?_)
  clear hK K
  refine wpAnyH_done (by kernel_rfl) ?_ _
  have HF := hidd HFI.out.2
  obtain ⟨Wf, hWf⟩ : ∃ Wf, (sixW ((World.setCell (w6) ⟨rb, 5, none⟩ (.slice (some ⟨g, 0, none⟩) (is.length + 1) cp))) g (is.length * 6) (.int .i64 k') (.string nm') (.slice a1 m1 u1) (.slice a2 m2 u2) (.string p') (.slice a3 m3 u3)) = Wf := ⟨_, rfl⟩
  rw [hWf] at HF ⊢
  clear hWf HFI HCU HNE HWB hS
  go_wp2_with fail
  go_roundw
  case rel =>
   refine ⟨j + 1, { s' with imports := s'.imports ++ [ie.s] }, q, hlt, by go_num, HF.out.2, ⟨is ++ [ie], es, _, _, _, HF.out.1, by rw [List.map_append, HG.out.2.1]; rfl, ⟨HG.out.2.2.1.1, fun _ => HG.out.2.2.1.2 (by first | rfl | trivial)⟩, ⟨HG.out.2.2.2.1.1, fun _ => HG.out.2.2.2.1.2 (by first | rfl | trivial)⟩, by simp; omega, HG.out.2.2.2.2.2⟩, fun h0 => ?_, fun h0 => ?_⟩
   ·have h1 := HIM'.out
    rw [if_pos (by have := HILN.out; omega)] at h1
    cases hS2 : setF 12 z with
    | no y => exact absurd (show y = 0 by have h2 := HQ.out; rw [hS2, h0] at h2; exact h2.symm) (nz_set 12 z y hS2)
    | ok y => rw [h1, hS2, HKI.out.1 y hS2]; rfl
   have h1 := HIM'.out
   rw [if_pos (by have := HILN.out; omega)] at h1
   cases hS2 : setF 12 z with
   | no y => rw [h1, hS2, HQ.out, hS2]; rfl
   | ok y => exact absurd (show q = 0 by rw [HQ.out, hS2]; rfl) h0
  case measure => simp [intOf] <;> omega
 by_cases hnbegin : nm = bBegin
 ·have hn := hnbegin
  clear hnexport hnimport hnbegin
  have ke : (nm.toList == bExport.toList) = false := beqS_ne (by rw [hn]; decide)
  unfold bExport at ke
  have mexport : (nm.toList == [101, 120, 112, 111, 114, 116]) = false := by simpa using ke
  clear ke
  have ke : (nm.toList == bImport.toList) = false := beqS_ne (by rw [hn]; decide)
  unfold bImport at ke
  have mimport : (nm.toList == [105, 109, 112, 111, 114, 116]) = false := by simpa using ke
  clear ke
  have ke : (nm.toList == bBegin.toList) = true := by rw [hn]; simp
  unfold bBegin at ke
  have mbegin : (nm.toList == [98, 101, 103, 105, 110]) = true := by simpa using ke
  clear ke
  have ke : (nm.toList == bInclude.toList) = false := beqS_ne (by rw [hn]; decide)
  unfold bInclude at ke
  have minclude : (nm.toList == [105, 110, 99, 108, 117, 100, 101]) = false := by simpa using ke
  clear ke
  have ke : (nm.toList == bCond.toList) = false := beqS_ne (by rw [hn]; decide)
  unfold bCond at ke
  have mcond : (nm.toList == [99, 111, 110, 100, 45, 101, 120, 112, 97, 110, 100]) = false := by simpa using ke
  clear ke
  have HVV : Hid (declD E d s = (addF (bareQL r) s)) := by
   show _ = _
   rw [HV.out, ← HXN.out, hn, if_neg (by decide), if_neg (by decide), if_pos rfl]
  clear hn
  obtain ⟨is, es, ev, iv, bv, h1, h2, h3, h4, h5, h6⟩ := H2.out
  have BD := hidd (Body_any rb fv tv lv s.name s.exports is es ev iv bv 0 f r ra (cap - 1) w2 h1 h6 (Dc.stay (fun _ _ => rfl) (fun k hk => have q := h1.far hk; ⟨q.1, q.2.1, q.2.2.1, q.2.2.2.1⟩) f ra r (HR2.out w2 (Below.refl _ _))) (by omega))
  have h4 := h4.2 rfl
  have HW := hidd (And.intro h1 (And.intro h2 (And.intro (And.intro h3.1 (h3.2 rfl)) (And.intro h4 (And.intro h5 h6)))))
  clear h1 h2 h3 h4 h5 h6
  go_wp2_with fail
  refine BD.out.mono ?_
  rintro en w4 ⟨rfl, hk4, es', bv', g1, g2, g3⟩
  have HF := hidd (body_wl HZR.out HW.out.2.2.1 HW.out.2.2.2.1 HW.out.2.2.2.2.1 HW.out.2.1 g1 g2 g3)
  have HK := hidd hk4
  clear hk4 g1 g2 g3 BD
  go_wp2_with fail
  go_end0
  rw [HVV.out]
  exact ⟨rfl, B2.out.trans (HK.out.toBelow (Nat.le_refl _) (Nat.le_of_lt H2.out.lt)), HF.out⟩
 by_cases hninclude : nm = bInclude
 ·have hn := hninclude
  clear hnexport hnimport hnbegin hninclude
  have ke : (nm.toList == bExport.toList) = false := beqS_ne (by rw [hn]; decide)
  unfold bExport at ke
  have mexport : (nm.toList == [101, 120, 112, 111, 114, 116]) = false := by simpa using ke
  clear ke
  have ke : (nm.toList == bImport.toList) = false := beqS_ne (by rw [hn]; decide)
  unfold bImport at ke
  have mimport : (nm.toList == [105, 109, 112, 111, 114, 116]) = false := by simpa using ke
  clear ke
  have ke : (nm.toList == bBegin.toList) = false := beqS_ne (by rw [hn]; decide)
  unfold bBegin at ke
  have mbegin : (nm.toList == [98, 101, 103, 105, 110]) = false := by simpa using ke
  clear ke
  have ke : (nm.toList == bInclude.toList) = true := by rw [hn]; simp
  unfold bInclude at ke
  have minclude : (nm.toList == [105, 110, 99, 108, 117, 100, 101]) = true := by simpa using ke
  clear ke
  have ke : (nm.toList == bCond.toList) = false := beqS_ne (by rw [hn]; decide)
  unfold bCond at ke
  have mcond : (nm.toList == [99, 111, 110, 100, 45, 101, 120, 112, 97, 110, 100]) = false := by simpa using ke
  clear ke
  have HVV : Hid (declD E d s = (includeF E r s)) := by
   show _ = _
   rw [HV.out, ← HXN.out, hn, if_neg (by decide), if_neg (by decide), if_neg (by decide), if_pos rfl]
  clear hn
  go_wp2_with fail
  go_loopw [15, 16, 17, 19, 20, 21, 179] (fun _ _ _ _ _ _ ix wr => ∃ (j : Nat) (s' : LibS) (e : Int), j ≤ r.length ∧ ix = .int .i64 j ∧ Hid (Below rb w2 wr ∧ WL rb fv tv lv s' e wr ∧ (e = 0 → includeF E r s = includeF E (r.drop j) s') ∧ (e ≠ 0 → includeF E r s = .no e))) (fun _ _ _ _ _ _ ix _ => r.length - (intOf ix).toNat)
  case atStart => exact ⟨0, s, 0, Nat.zero_le _, rfl, Below.refl _ _, H2.out, fun _ => by rw [List.drop_zero], fun h => absurd rfl h⟩
  obtain ⟨j, s', e, hj, rfl, HR⟩ := hrel
  by_cases hlt : j < r.length
  rotate_left
  ·obtain rfl : j = r.length := by omega
   have HFI : Hid (Below rb w wr ∧ ∃ s', WL rb fv tv lv s' (erE (includeF E r s)) wr ∧ ∀ s2, includeF E r s = .ok s2 → s' = s2) := by
    refine ⟨B2.out.trans HR.out.1, s', ?_⟩
    by_cases he0 : e = 0
    ·have h1 := HR.out.2.2.1 he0
     rw [List.drop_length, includeF] at h1
     have h2 := HR.out.2.1
     rw [he0] at h2
     rw [h1]
     exact ⟨h2, fun s2 hs2 => by cases hs2; rfl⟩
    have h1 := HR.out.2.2.2 he0
    rw [h1]
    exact ⟨HR.out.2.1, fun s2 hs2 => by cases hs2⟩
   have hq1 : ¬ ((r.length : Int) < (r.length : Int)) := by omega
   go_wp2_with fail
   go_end0
   rw [HVV.out]
   exact ⟨rfl, HFI.out.1, HFI.out.2⟩
  obtain ⟨z, hz⟩ : ∃ z, r[j]? = some z := ⟨_, List.getElem?_eq_getElem hlt⟩
  obtain ⟨gz, b', o', za, zc, _, rfl, hA', hzk⟩ := (HR2.out wr HR.out.1).at hz
  obtain ⟨_, z0, z1, z2, z3, z4, z5, _, hzl⟩ := hA'
  have j1 : (0 : Int) ≤ (j : Int) := by omega
  have j2 : (j : Int) < (r.length : Int) := by omega
  have hbz : Below wr.heap.size wr (wr.alloc (.cells #[.int .i64 z.kind, .int .i64 z.n, .string z.name, .int .i64 z.stamp, .int .i64 z.lib, .slice za z.kids.length zc] 26)) := (Below.refl _ _).alloc (Nat.le_refl _) _
  obtain ⟨W1, hW1⟩ : ∃ W1, wr.alloc (.cells #[.int .i64 z.kind, .int .i64 z.n, .string z.name, .int .i64 z.stamp, .int .i64 z.lib, .slice za z.kids.length zc] 26) = W1 := ⟨_, rfl⟩
  have hzb : W1.heap[wr.heap.size]? = some (.cells #[.int .i64 z.kind, .int .i64 z.n, .string z.name, .int .i64 z.stamp, .int .i64 z.lib, .slice za z.kids.length zc] 26 (0, 0)) := by rw [← hW1]; exact World.alloc_heap_new wr _
  rw [hW1] at hbz
  have HW1 : Hid (WL rb fv tv lv s' e W1 ∧ Below rb w2 W1) := ⟨HR.out.2.1.below hbz, HR.out.1.trans (hbz.mono (Nat.le_of_lt HR.out.2.1.lt))⟩
  have HZK : Hid (∀ W, Below rb W1 W → Dc (fun k => k < rb) W gz za z.kids) := fun W hb => hzk.below ((hbz.mono (Nat.le_of_lt HR.out.2.1.lt)).trans hb)
  have hzm := List.mem_of_getElem? hz
  have HOZ : Hid (okD z) := okL_mem HOR.out.1 z hzm
  have HIM : Hid (e = 0 → includeF E r s = (nameF z).bind fun n => (fileR E n s').bind fun s' => includeF E (r.drop (j + 1)) s') := fun he => by rw [HR.out.2.2.1 he, includeF_step hz]
  have WD := hidd (word_any rb e z za zc W1 HW1.out.1.e7)
  clear hzk hz hbz hzm hzl
  obtain ⟨y0, y1, y2, y3, y4, y5⟩ := six_at hzb
  unfold dv at WD
  generalize z.kids.length = zn at *
  go_wp2_with fail
  refine WD.out.mono ?_
  rintro en w3 ⟨rfl, hs3⟩
  clear WD hW1 z0 z1 z2 z3 z4 z5 y0 y1 y2 y3 y4 y5 hzb
  by_cases hq3 : fst1 e (wdE z) = 0
  rotate_left
  ·have hwl3 : WL rb fv tv lv s' (fst1 e (wdE z)) w3 := by
    by_cases he : e = 0
    ·have h := HW1.out.1
     rw [he] at h hs3 ⊢
     exact h.st hs3
    obtain ⟨is, es, ev, iv, bv, h1, h2⟩ := HW1.out.1
    rw [fst1_no he] at hs3 ⊢
    exact ⟨is, es, ev, iv, bv, h1.st id hs3, h2⟩
   have H3 : Hid (WL rb fv tv lv s' (fst1 e (wdE z)) w3 ∧ Below rb w2 w3) := ⟨hwl3, HW1.out.2.trans (hs3.lowr HW1.out.1.e7)⟩
   have HF : Hid (includeF E r s = .no (fst1 e (wdE z))) := by
    show _ = _
    by_cases he : e = 0
    ·rw [HIM.out he, he, fst1_zero]
     rw [he, fst1_zero] at hq3
     unfold wdE nameF at *
     by_cases hk3 : z.kind = 3
     ·rw [if_pos hk3] at hq3; exact absurd rfl hq3
     rw [if_neg hk3, if_neg hk3]; rfl
    rw [HR.out.2.2.2 he, fst1_no he]
   have GD := hidd (good1 rb _ w3 H3.out.1.e7 hq3)
   clear hq3 hs3 hwl3
   go_wp2_with fail
   refine GD.out.mono ?_
   rintro en wm ⟨rfl, hwm⟩
   rw [hwm]
   clear hwm
   clear GD
   go_wp2_with fail
   go_end0
   rw [HVV.out, HF.out]
   exact ⟨rfl, B2.out.trans H3.out.2, s', H3.out.1, fun c hc => by cases hc⟩
  obtain ⟨he, hw0⟩ := fst1_eq0 hq3
  rw [hq3] at hs3
  subst he
  have hk3 : z.kind = 3 := by
   unfold wdE at hw0
   split at hw0
   ·assumption
   exact absurd hw0 (by decide)
  have HIM' : Hid (includeF E r s = (fileR E z.name s').bind fun s' => includeF E (r.drop (j + 1)) s') := by
   show _ = _
   rw [HIM.out rfl]
   unfold nameF
   rw [if_pos hk3]
   rfl
  have hwn : wdS z = z.name := if_pos hk3
  rw [hwn]
  have hns : z.name.size ≤ maxLen := by have := (okD_sym HOZ.out hk3).1; unfold maxLen; omega
  have H3 : Hid (WL rb fv tv lv s' 0 w3 ∧ Below rb w2 w3) := ⟨HW1.out.1.st hs3, HW1.out.2.trans (hs3.lowr HW1.out.1.e7)⟩
  obtain ⟨n, hn⟩ : ∃ n, n = z.name := ⟨_, rfl⟩
  rw [← hn] at HIM' ⊢
  have GD := hidd (good0 rb w3 H3.out.1.e7)
  clear hq3 hs3 hw0 hk3 hwn hns HIM hn
  go_wp2_with fail
  refine GD.out.mono ?_
  rintro en wm ⟨rfl, hwm⟩
  rw [hwm]
  clear hwm
  clear GD
  obtain ⟨fa, nfc, hfv, hfl⟩ := (N2.out.below H3.out.2).fl
  have hfew := N2.out.few
  obtain ⟨nf, hnf⟩ : ∃ nf, nf = E.files.length := ⟨_, rfl⟩
  rw [← hnf] at hfv hfew
  have HNF := hidd hnf
  clear hnf
  obtain ⟨_, _, _, _, hblk3⟩ := H3.out.1.blk
  have c0 : w3.cell? ⟨rb, 0, none⟩ = some fv := (cellO hblk3).trans rfl
  have HFV := hidd hfv
  rw [hfv] at c0
  clear hblk3 hfv hfl
  have HFL : Hid (∀ W i p, Below rb w3 W → E.files[i]? = some p → ∃ b o, fa = some ⟨b, o, none⟩ ∧ W.cell? ⟨b, o + i * 2, none⟩ = some (.string p.1) ∧ W.cell? ⟨b, o + i * 2 + 1, none⟩ = some (.string p.2) ∧ p.2.size ≤ maxLen) := fun W i p hW hp => by
   obtain ⟨fa', nfc', hfv', hfl'⟩ := (N2.out.below (H3.out.2.trans hW)).fl
   have he := HFV.out.symm.trans hfv'
   have he1 : fa = fa' := by injection he
   subst he1
   rcases hfl' with h0 | ⟨b, o, h1, h2, h3⟩
   ·rw [h0] at hp; simp at hp
   exact ⟨b, o, h1, h3 i p hp⟩
  go_wp2_with fail
  clear c0
  go_loopw [17, 19, 20, 21, 194] (fun fdv _ _ _ ix wr => ∃ (i : Nat) (fd : Bool) (s'' : LibS) (e : Int), i ≤ nf ∧ ix = .int .i64 i ∧ fdv = .bool fd ∧ Hid (Below rb w3 wr ∧ WL rb fv tv lv s'' e wr ∧ (fd = false → s'' = s' ∧ e = 0 ∧ fileF n E.files = fileF n (E.files.drop i)) ∧ (fd = true → e = erE (fileR E n s') ∧ ∀ v, fileR E n s' = .ok v → s'' = v))) (fun _ _ _ _ ix _ => nf - (intOf ix).toNat)
  case atStart => exact ⟨0, false, s', 0, Nat.zero_le _, rfl, rfl, Below.refl _ _, H3.out.1, fun _ => ⟨rfl, rfl, by rw [List.drop_zero]⟩, fun h => by cases h⟩
  obtain ⟨i, fd, s'', e', hi, rfl, rfl, HQ⟩ := hrel
  by_cases hli : i < nf
  rotate_left
  ·obtain rfl : i = nf := by omega
   have hq2 : ¬ ((i : Int) < (i : Int)) := by omega
   cases fd
   ·have HNO : Hid (fileR E n s' = .no 6) := by
     show _ = _
     have h := (HQ.out.2.2.1 rfl).2.2
     rw [List.drop_eq_nil_of_le (by rw [← HNF.out]; exact Nat.le_refl _)] at h
     unfold fileR
     rw [h]
     rfl
    have HW6 : Hid (WL rb fv tv lv s' 0 wr) := by have h := HQ.out.2.1; rw [(HQ.out.2.2.1 rfl).1, (HQ.out.2.2.1 rfl).2.1] at h; exact h
    have SP := hidd (stop_any rb 0 6 wr HW6.out.e7)
    go_wp2_with fail
    refine SP.out.mono ?_
    rintro en w6 ⟨rfl, hs6⟩
    have H6 : Hid (WL rb fv tv lv s' 6 w6 ∧ Below rb w2 w6) := ⟨HW6.out.st hs6, H3.out.2.trans (HQ.out.1.trans (hs6.lowr HW6.out.e7))⟩
    clear hs6 SP
    go_wp2_with fail
    go_roundw
    case rel =>
     exact ⟨j + 1, s', 6, hlt, by go_num, H6.out.2, H6.out.1, fun h => absurd h (by decide), fun _ => by rw [HIM'.out, HNO.out]; rfl⟩
    case measure => simp [intOf] <;> omega
   have HRS : Hid (e' = erE (fileR E n s') ∧ ∀ v, fileR E n s' = .ok v → s'' = v) := HQ.out.2.2.2 rfl
   go_wp2_with fail
   go_roundw
   case rel =>
    refine ⟨j + 1, s'', e', hlt, by go_num, H3.out.2.trans HQ.out.1, HQ.out.2.1, fun h => ?_, fun h => ?_⟩
    ·rw [HIM'.out]
     cases hq : fileR E n s' with
     | ok v => rw [HRS.out.2 v hq]; rfl
     | no x => exact absurd (show x = 0 by have h2 := HRS.out.1; rw [hq, h] at h2; exact h2.symm) (nz_file E n s' x hq)
    rw [HIM'.out]
    cases hq : fileR E n s' with
    | ok v => exact absurd (show e' = 0 by rw [HRS.out.1, hq]; rfl) h
    | no x => rw [HRS.out.1, hq]; rfl
   case measure => simp [intOf] <;> omega
  obtain ⟨p, hp⟩ : ∃ p, E.files[i]? = some p := ⟨_, List.getElem?_eq_getElem (by rw [← HNF.out]; exact hli)⟩
  obtain ⟨fb, fo, rfl, p1, p2, hp2⟩ := HFL.out wr i p HQ.out.1 hp
  have HFA := hidd (fileF_at (n := n) hp)
  have HP2 := hidd hp2
  have q1 : (0 : Int) ≤ (i : Int) := by omega
  have q2 : (i : Int) < (nf : Int) := by omega
  have hbf : Below wr.heap.size wr (wr.alloc (.cells #[.string p.1, .string p.2] 49)) := (Below.refl _ _).alloc (Nat.le_refl _) _
  obtain ⟨W2, hW2⟩ : ∃ W2, wr.alloc (.cells #[.string p.1, .string p.2] 49) = W2 := ⟨_, rfl⟩
  have hfb : W2.heap[wr.heap.size]? = some (.cells #[.string p.1, .string p.2] 49 (0, 0)) := by rw [← hW2]; exact World.alloc_heap_new wr _
  rw [hW2] at hbf
  have HW2 : Hid (WL rb fv tv lv s'' e' W2 ∧ Below rb w3 W2) := ⟨HQ.out.2.1.below hbf, HQ.out.1.trans (hbf.mono (Nat.le_of_lt HQ.out.2.1.lt))⟩
  have f1 : W2.cell? ⟨wr.heap.size, 0, none⟩ = some (.string p.1) := (cellO hfb).trans rfl
  have f2 : W2.cell? ⟨wr.heap.size, 1, none⟩ = some (.string p.2) := (cellO hfb).trans rfl
  clear hp hp2 hbf hfb
  by_cases hpn : p.1 = n
  rotate_left
  ·have m1 := beqS_ne hpn
   have HPN := hidd hpn
   clear hpn
   go_wp2_with fail
   go_roundw
   case rel =>
    exact ⟨i + 1, fd, s'', e', hli, by go_num, rfl, HW2.out.2, HW2.out.1, fun h => ⟨(HQ.out.2.2.1 h).1, (HQ.out.2.2.1 h).2.1, by rw [(HQ.out.2.2.1 h).2.2, HFA.out, if_neg HPN.out]⟩, HQ.out.2.2.2⟩
   case measure => simp [intOf] <;> omega
  have m1 : (p.1.toList == n.toList) = true := by rw [hpn]; simp
  have HPN := hidd hpn
  clear hpn
  cases fd
  ·obtain ⟨q3, q4, q5⟩ := HQ.out.2.2.1 rfl
   have HFF : Hid (fileF n E.files = some p.2) := by show _ = _; rw [q5, HFA.out, if_pos HPN.out]
   have HW3 : Hid (WL rb fv tv lv s' 0 W2) := by have h := HW2.out.1; rw [q3, q4] at h; exact h
   clear q3 q4 q5
   have RD := hidd (R1.refRead_any p.2 W2 HP2.out)
   go_wp2_with fail
   refine RD.out.mono ?_
   rintro en w4 ⟨hb4, hr4⟩
   clear RD p1 p2 f1 f2 hW2 m1
   obtain ⟨rr, hrr⟩ : ∃ rr, rr = readL p.2.data.toList := ⟨_, rfl⟩
   rw [← hrr] at hr4
   have HRR := hidd hrr
   have H4 : Hid (WL rb fv tv lv s' 0 w4 ∧ Below rb w3 w4 ∧ Below W2.heap.size W2 w4) := ⟨HW3.out.below hb4, HW2.out.2.trans (hb4.mono (Nat.le_of_lt HW3.out.lt)), hb4⟩
   obtain ⟨is, es, ev, iv, bv, g0, g2, g3, g4, g5, g6⟩ := HW3.out
   have HG0 := hidd g0
   have g1 := g0.below hb4
   have HG := hidd (And.intro g1 (And.intro g2 (And.intro g3 (And.intro (g4.2 rfl) (And.intro g5 g6)))))
   clear hb4 hrr g0 g1 g2 g3 g4 g5 g6
   cases rr with
   | inl xx =>
    simp only [Go.Proofs.YtonafbennobgdaaGreatDoor.fv] at hr4
    subst hr4
    have HER : Hid (fileR E n s' = .no xx.1 ∧ xx.1 ≠ 0) := ⟨by unfold fileR; rw [HFF.out]; simp only; rw [← HRR.out], read_err HRR.out.symm⟩
    have n1 : (xx.1 == 0) = false := by simpa using HER.out.2
    have n2 : decide (xx.1 = 0) = false := by simpa using HER.out.2
    have SP : Hid (∀ W, WL rb fv tv lv s' 0 W → Calls Tryz.prog 35 #[.pointer (some ⟨rb, 0, none⟩), .int .i64 xx.1] W fun en w' => en = .returned (.tuple #[]) ∧ St rb (fst1 0 xx.1) W w') := fun W hW => stop_any rb 0 xx.1 W hW.e7
    go_upto_region 52 with fail
    have hb5 : Below w4.heap.size w4 (w4.alloc (.cells #[.int .i64 xx.1, .int .i64 xx.2] 40)) := (Below.refl _ _).alloc (Nat.le_refl _) _
    obtain ⟨w5, hw5⟩ : ∃ w5, w4.alloc (.cells #[.int .i64 xx.1, .int .i64 xx.2] 40) = w5 := ⟨_, rfl⟩
    rw [hw5] at hb5 ⊢
    have hg0 : w5.cell? ⟨w4.heap.size, 0, none⟩ = some (.int .i64 xx.1) := by rw [← hw5]; exact (cellO (World.alloc_heap_new w4 _)).trans rfl
    have H5 : Hid (WS rb fv tv lv s'.name s'.exports is es ev iv bv 0 w5 ∧ WL rb fv tv lv s' 0 w5 ∧ Below rb w3 w5) := ⟨HG.out.1.below hb5, H4.out.1.below hb5, H4.out.2.1.trans (hb5.mono (Nat.le_of_lt H4.out.1.lt))⟩
    clear hw5 hb5
    go_wp2_with fail
    refine (SP.out w5 H5.out.2.1).mono ?_
    rintro en w6 ⟨rfl, hs6⟩
    rw [fst1_zero] at hs6
    have H6 : Hid (WS rb fv tv lv s'.name s'.exports is es ev iv bv xx.1 w6 ∧ Below rb w3 w6) := ⟨H5.out.1.st (fun _ => rfl) hs6, H5.out.2.2.trans (hs6.lowr H5.out.2.1.e7)⟩
    clear hs6 SP hg0
    have BD := hidd (Body_any rb fv tv lv s'.name s'.exports is es ev iv bv xx.1 0 [] none 0 w6 H6.out.1 HG.out.2.2.2.2.2 rfl (Nat.zero_le _))
    rw [fst1_no HER.out.2] at BD
    go_wp2_with fail
    refine BD.out.mono ?_
    rintro en w7 ⟨rfl, hk7, es', bv', b1, b2, b3⟩
    have H7 : Hid (WL rb fv tv lv { s' with body := bareQL (es'.map (·.1)) } xx.1 w7 ∧ Below rb w3 w7) := ⟨⟨is, es', _, _, bv', b1, HG.out.2.1, ⟨rfl, fun h => absurd h HER.out.2⟩, ⟨Nat.le_succ_of_le HG.out.2.2.2.1, fun h => absurd h HER.out.2⟩, HG.out.2.2.2.2.1, b2⟩, H6.out.2.trans (hk7.toBelow (Nat.le_refl _) (Nat.le_of_lt H6.out.1.lt))⟩
    clear hk7 b1 b2 b3 BD n1 n2
    go_wp2_with fail
    go_roundw
    case rel =>
     exact ⟨i + 1, true, _, xx.1, hli, by go_num, rfl, H7.out.2, H7.out.1, fun h => (by cases h), fun _ => ⟨by rw [HER.out.1]; rfl, fun v hv => by rw [HER.out.1] at hv; cases hv⟩⟩
    case measure => simp [intOf] <;> omega
   | inr ds =>
    simp only [Go.Proofs.YtonafbennobgdaaGreatDoor.fv] at hr4
    obtain ⟨da, dc, df, rfl, hdw⟩ := hr4
    have HER : Hid (fileR E n s' = addF (bareQL ds) s') := by
     show _ = _
     unfold fileR
     rw [HFF.out]
     simp only
     rw [← HRR.out]
     simp only
     rw [read_bare HRR.out.symm]
    have hdl := read_few HRR.out.symm
    have HZD : Hid (zrL ds) := zr_bareL ds (read_bare HRR.out.symm)
    have hb5 : Below w4.heap.size w4 (w4.alloc (.cells #[.int .i64 0, .int .i64 0] 40)) := (Below.refl _ _).alloc (Nat.le_refl _) _
    go_upto_region 52 with fail
    obtain ⟨w5, hw5⟩ : ∃ w5, w4.alloc (.cells #[.int .i64 0, .int .i64 0] 40) = w5 := ⟨_, rfl⟩
    rw [hw5] at hb5 ⊢
    have hg0 : w5.cell? ⟨w4.heap.size, 0, none⟩ = some (.int .i64 0) := by rw [← hw5]; exact (cellO (World.alloc_heap_new w4 _)).trans rfl
    have H5 : Hid (WS rb fv tv lv s'.name s'.exports is es ev iv bv 0 w5 ∧ Below rb w3 w5) := ⟨HG.out.1.below hb5, H4.out.2.1.trans (hb5.mono (Nat.le_of_lt H4.out.1.lt))⟩
    have HDC : Dc (Frx rb ev iv w5) w5 df da ds := Dc.stay (fun k hk => hb5.block k hk.2) (fun k hk => ⟨Nat.lt_of_lt_of_le hk.2 hb5.size, by have := HG0.out.lt; have := hk.1; omega, fun e => by have := (HG0.out.own (Or.inl e)).2; have := hk.1; omega, fun e => by have := (HG0.out.own (Or.inr (Or.inl e))).2; have := hk.1; omega⟩) df da ds (Dw.dc df da dc ds hdw)
    have BD := hidd (Body_any rb fv tv lv s'.name s'.exports is es ev iv bv 0 df ds da dc w5 H5.out.1 HG.out.2.2.2.2.2 HDC (by omega))
    clear hw5 hb5 HDC hdw hdl
    go_wp2_with fail
    refine BD.out.mono ?_
    rintro en w7 ⟨rfl, hk7, es', bv', b1, b2, b3⟩
    obtain ⟨s7, hs7, hs7'⟩ := body_wl HZD.out ⟨HG.out.2.2.1.1, HG.out.2.2.1.2 (by first | rfl | trivial)⟩ HG.out.2.2.2.1 HG.out.2.2.2.2.1 HG.out.2.1 b1 b2 b3
    rw [← HER.out] at hs7 hs7'
    have H7 : Hid (WL rb fv tv lv s7 (erE (fileR E n s')) w7 ∧ Below rb w3 w7 ∧ ∀ v, fileR E n s' = .ok v → s7 = v) := ⟨hs7, H5.out.2.trans (hk7.toBelow (Nat.le_refl _) (Nat.le_of_lt H5.out.1.lt)), hs7'⟩
    clear hk7 b1 b2 b3 BD hs7 hs7' hg0
    go_wp2_with fail
    go_roundw
    case rel =>
     exact ⟨i + 1, true, s7, _, hli, by go_num, rfl, H7.out.2.1, H7.out.1, fun h => (by cases h), fun _ => ⟨rfl, H7.out.2.2⟩⟩
    case measure => simp [intOf] <;> omega
  go_wp2_with fail
  go_roundw
  case rel =>
   exact ⟨i + 1, true, s'', e', hli, by go_num, rfl, HW2.out.2, HW2.out.1, fun h => (by cases h), HQ.out.2.2.2⟩
  case measure => simp [intOf] <;> omega
 by_cases hncond : nm = bCond
 rotate_left
 ·have ke : (nm.toList == bExport.toList) = false := beqS_ne hnexport
  unfold bExport at ke
  have mexport : (nm.toList == [101, 120, 112, 111, 114, 116]) = false := by simpa using ke
  clear ke
  have ke : (nm.toList == bImport.toList) = false := beqS_ne hnimport
  unfold bImport at ke
  have mimport : (nm.toList == [105, 109, 112, 111, 114, 116]) = false := by simpa using ke
  clear ke
  have ke : (nm.toList == bBegin.toList) = false := beqS_ne hnbegin
  unfold bBegin at ke
  have mbegin : (nm.toList == [98, 101, 103, 105, 110]) = false := by simpa using ke
  clear ke
  have ke : (nm.toList == bInclude.toList) = false := beqS_ne hninclude
  unfold bInclude at ke
  have minclude : (nm.toList == [105, 110, 99, 108, 117, 100, 101]) = false := by simpa using ke
  clear ke
  have ke : (nm.toList == bCond.toList) = false := beqS_ne hncond
  unfold bCond at ke
  have mcond : (nm.toList == [99, 111, 110, 100, 45, 101, 120, 112, 97, 110, 100]) = false := by simpa using ke
  clear ke
  have HVV : Hid (declD E d s = .no 2) := by
   show _ = _
   rw [HV.out, ← HXN.out, if_neg hnexport, if_neg hnimport, if_neg hnbegin, if_neg hninclude, if_neg hncond]
  clear hnexport hnimport hnbegin hninclude hncond
  have SP := hidd (stop_any rb 0 2 w2 H2.out.e7)
  go_wp2_with fail
  refine SP.out.mono ?_
  rintro en w4 ⟨rfl, hs4⟩
  have H4 := hidd (And.intro (H2.out.st hs4) (B2.out.trans (hs4.lowr H2.out.e7)))
  clear hs4 SP
  go_wp2_with fail
  go_end0
  rw [HVV.out]
  exact ⟨rfl, H4.out.2, s, H4.out.1, fun c hc => by cases hc⟩
 have hn := hncond
 clear hnexport hnimport hnbegin hninclude hncond
 have ke : (nm.toList == bExport.toList) = false := beqS_ne (by rw [hn]; decide)
 unfold bExport at ke
 have mexport : (nm.toList == [101, 120, 112, 111, 114, 116]) = false := by simpa using ke
 clear ke
 have ke : (nm.toList == bImport.toList) = false := beqS_ne (by rw [hn]; decide)
 unfold bImport at ke
 have mimport : (nm.toList == [105, 109, 112, 111, 114, 116]) = false := by simpa using ke
 clear ke
 have ke : (nm.toList == bBegin.toList) = false := beqS_ne (by rw [hn]; decide)
 unfold bBegin at ke
 have mbegin : (nm.toList == [98, 101, 103, 105, 110]) = false := by simpa using ke
 clear ke
 have ke : (nm.toList == bInclude.toList) = false := beqS_ne (by rw [hn]; decide)
 unfold bInclude at ke
 have minclude : (nm.toList == [105, 110, 99, 108, 117, 100, 101]) = false := by simpa using ke
 clear ke
 have ke : (nm.toList == bCond.toList) = true := by rw [hn]; simp
 unfold bCond at ke
 have mcond : (nm.toList == [99, 111, 110, 100, 45, 101, 120, 112, 97, 110, 100]) = true := by simpa using ke
 clear ke
 have HVV : Hid (declD E d s = (declC E r s)) := by
  show _ = _
  rw [HV.out, ← HXN.out, hn, if_neg (by decide), if_neg (by decide), if_neg (by decide), if_neg (by decide), if_pos rfl]
 clear hn
 have HLr : Hid (∀ j, j < r.length → ∃ z, r[j]? = some z ∧ r.drop j = z :: r.drop (j + 1)) := fun j hj => ⟨_, List.getElem?_eq_getElem hj, List.drop_eq_getElem_cons hj⟩
 go_wp2_with fail
 go_loopw [23, 24, 25, 27, 232] (fun _ _ _ _ ix wr => ∃ (j : Nat), j ≤ r.length ∧ ix = .int .i64 j ∧ Hid (Below rb w2 wr ∧ WL rb fv tv lv s 0 wr ∧ declC E r s = declC E (r.drop j) s)) (fun _ _ _ _ ix _ => r.length - (intOf ix).toNat)
 case atStart => exact ⟨0, Nat.zero_le _, rfl, Below.refl _ _, H2.out, by rw [List.drop_zero]⟩
 obtain ⟨j, hj, rfl, HR⟩ := hrel
 by_cases hlt : j < r.length
 rotate_left
 ·obtain rfl : j = r.length := by omega
  have HCL : Hid (declC E r s = .ok s) := by
   show _ = _
   rw [HR.out.2.2, List.drop_length, declC]
  have hq1 : ¬ ((r.length : Int) < (r.length : Int)) := by omega
  go_wp2_with fail
  go_end0
  rw [HVV.out, HCL.out]
  exact ⟨rfl, B2.out.trans HR.out.1, s, HR.out.2.1, fun c hc => by cases hc; rfl⟩
 obtain ⟨z, hz, hdk⟩ := HLr.out j hlt
 obtain ⟨gz, b', o', za, zc, _, rfl, hA', hzk⟩ := (HR2.out wr HR.out.1).at hz
 obtain ⟨_, z0, z1, z2, z3, z4, z5, _, hzl⟩ := hA'
 have j1 : (0 : Int) ≤ (j : Int) := by omega
 have j2 : (j : Int) < (r.length : Int) := by omega
 have hbz : Below wr.heap.size wr (wr.alloc (.cells #[.int .i64 z.kind, .int .i64 z.n, .string z.name, .int .i64 z.stamp, .int .i64 z.lib, .slice za z.kids.length zc] 26)) := (Below.refl _ _).alloc (Nat.le_refl _) _
 obtain ⟨W1, hW1⟩ : ∃ W1, wr.alloc (.cells #[.int .i64 z.kind, .int .i64 z.n, .string z.name, .int .i64 z.stamp, .int .i64 z.lib, .slice za z.kids.length zc] 26) = W1 := ⟨_, rfl⟩
 have hzb : W1.heap[wr.heap.size]? = some (.cells #[.int .i64 z.kind, .int .i64 z.n, .string z.name, .int .i64 z.stamp, .int .i64 z.lib, .slice za z.kids.length zc] 26 (0, 0)) := by rw [← hW1]; exact World.alloc_heap_new wr _
 rw [hW1] at hbz
 have HW1 : Hid (WL rb fv tv lv s 0 W1 ∧ Below rb w2 W1) := ⟨HR.out.2.1.below hbz, HR.out.1.trans (hbz.mono (Nat.le_of_lt HR.out.2.1.lt))⟩
 have HZK : Hid (∀ W, Below rb W1 W → Dc (fun k => k < rb) W gz za z.kids) := fun W hb => hzk.below ((hbz.mono (Nat.le_of_lt HR.out.2.1.lt)).trans hb)
 have hzm := List.mem_of_getElem? hz
 have HOZ : Hid (okD z ∧ SizeOf.sizeOf z < SizeOf.sizeOf d) := ⟨okL_mem HOR.out.1 z hzm, HSZ.out z hzm⟩
 have HZZ : Hid (zrD z) := zrL_mem HZR.out z hzm
 have HCC : Hid (declC E r s = declB E z (fun s' => declC E (r.drop (j + 1)) s') s) := by show _ = _; rw [HR.out.2.2, hdk, declC]
 clear hzk hz hdk hbz hzm
 obtain ⟨y0, y1, y2, y3, y4, y5⟩ := six_at hzb
 by_cases hzk4 : z.kind = 4 ∧ 1 ≤ z.kids.length
 rotate_left
 ·have NZ := hidd (need_no rb 0 z za zc W1 1 HW1.out.1.e7 (Or.inl rfl) hzk4)
  have HCL : Hid (declC E r s = .no 2) := by
   show _ = _
   rw [HCC.out, declB_bad hzk4]
  unfold dv at NZ
  clear hzk4 HCC hzl
  generalize z.kids.length = zn at *
  go_wp2_with fail
  refine NZ.out.mono ?_
  rintro en w3 ⟨zb, rfl, hzz, hdz, hs3⟩
  have H3 : Hid (WL rb fv tv lv s 2 w3 ∧ Below rb w2 w3) := ⟨HW1.out.1.st hs3, HW1.out.2.trans (hs3.lowr HW1.out.1.e7)⟩
  have GD := hidd (good1 rb 2 w3 H3.out.1.e7 (by decide))
  clear hs3 NZ hdz hzz hW1 z0 z1 z2 z3 z4 z5 y0 y1 y2 y3 y4 y5 hzb
  go_wp2_with fail
  refine GD.out.mono ?_
  rintro en wm ⟨rfl, hwm⟩
  rw [hwm]
  clear hwm
  clear GD
  go_wp2_with fail
  go_end0
  rw [HVV.out, HCL.out]
  exact ⟨rfl, B2.out.trans H3.out.2, s, H3.out.1, fun c hc => by cases hc⟩
 have NZ := hidd (need_ok rb z za zc W1 1 hzk4.1 hzk4.2)
 obtain ⟨h, t, hht⟩ : ∃ h t, z.kids = h :: t := by
  match hq : z.kids, hzk4.2 with
  | x :: r, _ => exact ⟨x, r, rfl⟩
 have HCT : Hid (declC E r s = (clauseF E h).bind fun b => if b then declL E t s else declC E (r.drop (j + 1)) s) := by
  show _ = _
  rw [HCC.out, declB_ok hzk4.1 hht]
 obtain ⟨oz1, oz2⟩ := okD_list HOZ.out.1 hzk4.1
 rw [hht] at oz1 oz2
 have HOT : Hid (okL t ∧ t.length ≤ 2000 ∧ okD h) := ⟨oz2.2, by simp at oz1; omega, oz2.1⟩
 have HZQ : Hid (zrL t) := by
  have h1 := zrD_list HZZ.out hzk4.1
  rw [hht, zrL] at h1
  exact h1.2
 have HTS : Hid (∀ y ∈ t, SizeOf.sizeOf y < SizeOf.sizeOf d) := fun y hy => by
  have h5 := List.sizeOf_lt_of_mem (show y ∈ z.kids by rw [hht]; exact List.mem_cons_of_mem _ hy)
  have h6 : SizeOf.sizeOf z.kids < SizeOf.sizeOf z := by cases z; simp; omega
  have := HOZ.out.2
  omega
 obtain ⟨gh, bh, oh, ha, hcp, _, hab, hAh, hhk⟩ := (HZK.out W1 (Below.refl _ _)).at (i := 0) (d := h) (by rw [hht]; rfl)
 subst hab
 rw [Nat.zero_mul, Nat.add_zero] at hAh
 have HZT : Hid (∀ W, Below rb W1 W → Dc (fun k => k < rb) W gz (some ⟨bh, oh, none⟩) (h :: t)) := fun W hb => by rw [← hht]; exact HZK.out W hb
 have HAH : Hid (∀ W, Below rb W1 W → DAt (fun k => k < rb) W bh oh h ha hcp ∧ Dc (fun k => k < rb) W gh ha h.kids) := fun W hb => ⟨hAh.below hb, hhk.below hb⟩
 have hzl1 : 1 ≤ z.kids.length := hzk4.2
 have HZL : Hid (z.kids.length = t.length + 1 ∧ z.kids.length ≤ zc) := ⟨by rw [hht]; rfl, hzl⟩
 have HS1 := slice1 bh oh z.kids.length zc hzk4.2 hzl
 unfold dv at NZ
 clear hht hzk4 oz1 oz2 hAh hhk HCC
 generalize z.kids.length = zn at *
 rw [show zn - 1 = t.length by have := HZL.out.1; omega] at HS1
 have zi : (0 : Int) < (zn : Int) := by omega
 go_wp2_with fail
 refine NZ.out.mono ?_
 rintro en w3 ⟨rfl, hs3⟩
 have H3 : Hid (WL rb fv tv lv s 0 w3 ∧ Below rb w2 w3 ∧ Below rb W1 w3) := ⟨HW1.out.1.below hs3, HW1.out.2.trans (hs3.mono (Nat.le_of_lt HW1.out.1.lt)), hs3.mono (Nat.le_of_lt HW1.out.1.lt)⟩
 have GD := hidd (good0 rb w3 H3.out.1.e7)
 clear hs3 NZ hW1 z0 z1 z2 z3 z4 z5 y0 y1 y2 y3 y4 y5 hzb hzl hzl1
 obtain ⟨⟨_, a0, a1, a2, a3, a4, a5, _, hhl⟩, hhk⟩ := HAH.out w3 H3.out.2.2
 go_wp2_with fail
 refine GD.out.mono ?_
 rintro en wm ⟨rfl, hwm⟩
 rw [hwm]
 clear hwm
 clear GD
 by_cases hel : h.kind = 3 ∧ h.name = bElse
 ·have f1 : (h.kind == 3) = true := by simpa using hel.1
  have f2 : decide (h.kind = 3) = true := by simpa using hel.1
  have ke : (h.name.toList == bElse.toList) = true := by rw [hel.2]; simp
  unfold bElse at ke
  have f3 : (h.name.toList == [101, 108, 115, 101]) = true := by simpa using ke
  clear ke
  have HCL : Hid (declC E r s = declL E t s) := by
   show _ = _
   rw [HCT.out]
   unfold clauseF
   rw [if_pos hel]
   rfl
  have H5 : Hid (WL rb fv tv lv s 0 w3 ∧ Below rb W1 w3 ∧ Below rb w2 w3) := ⟨H3.out.1, H3.out.2.2, H3.out.2.1⟩
  have GD := hidd (good0 rb w3 H5.out.1.e7)
  clear hel hhk hhl
  go_wp2_with fail
  refine GD.out.mono ?_
  rintro en wm ⟨rfl, hwm⟩
  rw [hwm]
  clear hwm
  clear GD a0 a1 a2 a3 a4 a5
  have HLt : Hid (∀ j, j < t.length → ∃ z, t[j]? = some z ∧ t.drop j = z :: t.drop (j + 1)) := fun j hj => ⟨_, List.getElem?_eq_getElem hj, List.drop_eq_getElem_cons hj⟩
  obtain ⟨ta, hta, HTD⟩ : ∃ ta, (if zc = 1 then some (⟨bh, oh, none⟩ : Addr) else some ⟨bh, oh + 6, none⟩) = ta ∧ Hid (∀ W, Below rb W1 W → Dc (fun k => k < rb) W gz ta t) := by
   refine ⟨_, rfl, fun W hs => ?_⟩
   have h := HZT.out W hs
   by_cases hc2 : zc = 1
   ·rw [if_pos hc2]
    have := HZL.out.2
    have h0 := HZL.out.1
    exact h.tail.nilAt (List.eq_nil_of_length_eq_zero (by omega)) _
   rw [if_neg hc2]; exact h.tail
  rw [hta] at HS1
  clear hta
  have ht2 : t.length ≤ 2000 := HOT.out.2.1
  go_wp2_with fail
  go_loopw [27, 268] (fun _ ix wr => ∃ (j : Nat) (s' : LibS) (e : Int), j ≤ t.length ∧ ix = .int .i64 j ∧ Hid (Below rb W1 wr ∧ WL rb fv tv lv s' e wr ∧ (e = 0 → declL E t s = declL E (t.drop j) s') ∧ (e ≠ 0 → declL E t s = .no e))) (fun _ ix _ => t.length - (intOf ix).toNat)
  case atStart => exact ⟨0, s, 0, Nat.zero_le _, rfl, H5.out.2.1, H5.out.1, fun _ => by rw [List.drop_zero], fun h => absurd rfl h⟩
  obtain ⟨j2', s', e, hj', rfl, HR'⟩ := hrel
  by_cases hlt' : j2' < t.length
  rotate_left
  ·obtain rfl : j2' = t.length := by omega
   have HFI : Hid (Below rb w wr ∧ ∃ s', WL rb fv tv lv s' (erE (declL E t s)) wr ∧ ∀ s2, declL E t s = .ok s2 → s' = s2) := by
    refine ⟨B2.out.trans (HW1.out.2.trans HR'.out.1), s', ?_⟩
    by_cases he0 : e = 0
    ·have h1 := HR'.out.2.2.1 he0
     rw [List.drop_length, declL] at h1
     have h2 := HR'.out.2.1
     rw [he0] at h2
     rw [h1]
     exact ⟨h2, fun s2 hs2 => by cases hs2; rfl⟩
    have h1 := HR'.out.2.2.2 he0
    rw [h1]
    exact ⟨HR'.out.2.1, fun s2 hs2 => by cases hs2⟩
   have hq1 : ¬ ((t.length : Int) < (t.length : Int)) := by omega
   go_wp2_with fail
   go_end0
   rw [HVV.out, HCL.out]
   exact ⟨rfl, HFI.out.1, HFI.out.2⟩
  obtain ⟨y, hy, hdy⟩ := HLt.out j2' hlt'
  obtain ⟨gy, by_, oy, ya, yc, _, rfl, hAy, hyk⟩ := (HTD.out wr HR'.out.1).at hy
  obtain ⟨_, z0, z1, z2, z3, z4, z5, _, hyl⟩ := hAy
  have q1 : (0 : Int) ≤ (j2' : Int) := by omega
  have q2 : (j2' : Int) < (t.length : Int) := by omega
  have hby : Below wr.heap.size wr (wr.alloc (.cells #[.int .i64 y.kind, .int .i64 y.n, .string y.name, .int .i64 y.stamp, .int .i64 y.lib, .slice ya y.kids.length yc] 26)) := (Below.refl _ _).alloc (Nat.le_refl _) _
  obtain ⟨W2, hW2⟩ : ∃ W2, wr.alloc (.cells #[.int .i64 y.kind, .int .i64 y.n, .string y.name, .int .i64 y.stamp, .int .i64 y.lib, .slice ya y.kids.length yc] 26) = W2 := ⟨_, rfl⟩
  have hyb : W2.heap[wr.heap.size]? = some (.cells #[.int .i64 y.kind, .int .i64 y.n, .string y.name, .int .i64 y.stamp, .int .i64 y.lib, .slice ya y.kids.length yc] 26 (0, 0)) := by rw [← hW2]; exact World.alloc_heap_new wr _
  rw [hW2] at hby
  have HW2 : Hid (WL rb fv tv lv s' e W2 ∧ Below rb W1 W2) := ⟨HR'.out.2.1.below hby, HR'.out.1.trans (hby.mono (Nat.le_of_lt HR'.out.2.1.lt))⟩
  have hym := List.mem_of_getElem? hy
  have HYK : Dc (fun k => k < rb) W2 gy ya y.kids := hyk.below (hby.mono (Nat.le_of_lt HR'.out.2.1.lt))
  have HEV := N2.out.below (HW1.out.2.trans HW2.out.2)
  have CALL : Hid (e = 0 → Calls Tryz.prog 36 #[.pointer (some ⟨rb, 0, none⟩), dv y ya yc] W2 (TellD rb fv tv lv (declD E y s') W2)) := fun he => by
   have h := HW2.out.1
   rw [he] at h
   exact HH.out y (HTS.out y hym) (okL_mem HOT.out.1 y hym) (zrL_mem HZQ.out y hym) gy ya yc W2 s' h HYK hyl HEV
  have HDL : Hid (declL E (t.drop j2') s' = (declD E y s').bind fun s'' => declL E (t.drop (j2' + 1)) s'') := by show _ = _; rw [hdy, declL]
  have HNZ := hidd (nz_declD E y s')
  clear hyk hy hdy hby hym HYK HEV
  obtain ⟨y0, y1, y2, y3, y4, y5⟩ := six_at hyb
  unfold dv at CALL
  generalize y.kids.length = yn at *
  by_cases he0 : e = 0
  ·have HL1 : Hid (declL E t s = declL E (t.drop j2') s') := HR'.out.2.2.1 he0
   replace CALL := hidd (CALL.out he0)
   subst he0
   have GD := hidd (good0 rb W2 HW2.out.1.e7)
   go_wp2_with fail
   refine GD.out.mono ?_
   rintro en wm ⟨rfl, hwm⟩
   rw [hwm]
   clear hwm
   clear GD hW2 z0 z1 z2 z3 z4 z5
   go_wp2_with fail
   refine CALL.out.mono ?_
   rintro en w6 ⟨rfl, hb6, s6, hw6, hs6⟩
   have H6 := hidd (And.intro hb6 (And.intro hw6 hs6))
   clear hb6 hw6 hs6 CALL y0 y1 y2 y3 y4 y5 hyb
   go_wp2_with fail
   go_roundw
   case rel =>
    refine ⟨j2' + 1, s6, erE (declD E y s'), hlt', by go_num, HW2.out.2.trans H6.out.1, H6.out.2.1, fun he => ?_, fun he => ?_⟩
    ·have h1 := HL1.out
     rw [h1, HDL.out]
     cases hq : declD E y s' with
     | ok v => rw [H6.out.2.2 v hq]; rfl
     | no x => rw [hq] at he; exact absurd he (HNZ.out x hq)
    have h1 := HL1.out
    rw [h1, HDL.out]
    cases hq : declD E y s' with
    | ok v => rw [hq] at he; exact absurd rfl he
    | no x => rfl
   case measure => simp [intOf] <;> omega
  have GD := hidd (good1 rb e W2 HW2.out.1.e7 he0)
  have HNE := hidd he0
  clear he0
  go_wp2_with fail
  refine GD.out.mono ?_
  rintro en wm ⟨rfl, hwm⟩
  rw [hwm]
  clear hwm
  clear GD hW2 z0 z1 z2 z3 z4 z5 y0 y1 y2 y3 y4 y5 hyb CALL
  go_wp2_with fail
  go_roundw
  case rel => exact ⟨j2' + 1, s', e, hlt', by go_num, HW2.out.2, HW2.out.1, fun he => absurd he HNE.out, HR'.out.2.2.2⟩
  case measure => simp [intOf] <;> omega
 have HOLD := hidd (Holds_any rb tv lv E (SizeOf.sizeOf h + 1) h (Nat.lt_succ_self _) HOT.out.2.2 gh ha hcp w3 H3.out.1.e7 (DW.of hhk (Nat.le_of_lt H3.out.1.lt)) hhl (H3.out.1.en (N2.out.below H3.out.2.1)))
 have HCE : Hid (clauseF E h = holdsD E h) := if_neg hel
 have HNZ := hidd (nz_holdsD E h)
 have fk : (h.kind == 3) = false ∨ ((h.kind == 3) = true ∧ (h.name.toList == [101, 108, 115, 101]) = false) := by
  by_cases h3 : h.kind = 3
  ·refine Or.inr ⟨by simpa using h3, ?_⟩
   have ke : (h.name.toList == bElse.toList) = false := beqS_ne (fun e => hel ⟨h3, e⟩)
   unfold bElse at ke
   simpa using ke
  exact Or.inl (by simpa using h3)
 unfold dv at HOLD
 generalize h.kids.length = hn at *
 clear hel hhk hhl
 rcases fk with f1 | ⟨f1, f3⟩
 ·have f2 : decide (h.kind = 3) = false := by simpa using f1
  go_wp2_with fail
  refine HOLD.out.mono ?_
  rintro en w5 ⟨hb, rfl, hs5, hok5⟩
  obtain ⟨e3, he3⟩ : ∃ e3, e3 = erE (holdsD E h) := ⟨_, rfl⟩
  rw [← he3] at hs5
  have H5' : Hid (WL rb fv tv lv s e3 w5 ∧ Below rb W1 w5 ∧ Below rb w2 w5) := ⟨H3.out.1.st hs5, H3.out.2.2.trans (hs5.lowr H3.out.1.e7), H3.out.2.1.trans (hs5.lowr H3.out.1.e7)⟩
  clear hs5 HOLD a0 a1 a2 a3 a4 a5
  by_cases h30 : e3 = 0
  rotate_left
  ·have GD := hidd (good1 rb e3 w5 H5'.out.1.e7 h30)
   obtain ⟨x3, hx3⟩ : ∃ x3, holdsD E h = .no x3 := by
    cases hq : holdsD E h with
    | ok c => rw [hq] at he3; exact absurd he3 h30
    | no e => exact ⟨e, rfl⟩
   have HCL : Hid (declC E r s = .no x3 ∧ e3 = x3) := ⟨by rw [HCT.out, HCE.out, hx3]; rfl, by rw [he3, hx3]; rfl⟩
   clear hok5 he3 hx3 h30
   go_wp2_with fail
   refine GD.out.mono ?_
   rintro en wm ⟨rfl, hwm⟩
   rw [hwm]
   clear hwm
   clear GD
   go_wp2_with fail
   go_end0
   rw [HVV.out, HCL.out.1]
   refine ⟨rfl, B2.out.trans H5'.out.2.2, s, ?_, fun c hc => by cases hc⟩
   have h2 := H5'.out.1
   rw [HCL.out.2] at h2
   exact h2
  subst h30
  have H5 := H5'
  obtain ⟨c, hc⟩ : ∃ c, holdsD E h = .ok c := by
   cases hq : holdsD E h with
   | ok c => exact ⟨c, rfl⟩
   | no e => rw [hq] at he3; exact absurd he3.symm (HNZ.out e hq)
  have hbc := hok5 c hc
  have HCL0 : declC E r s = if hb then declL E t s else declC E (r.drop (j + 1)) s := by rw [HCT.out, HCE.out, hc, hbc]; rfl
  have GD := hidd (good0 rb w5 H5.out.1.e7)
  clear hok5 hbc hc he3 H5'
  cases hb
  ·have HCL := hidd HCL0
   clear HCL0
   replace HCL : Hid (declC E r s = declC E (r.drop (j + 1)) s) := HCL.out
   go_wp2_with fail
   refine GD.out.mono ?_
   rintro en wm ⟨rfl, hwm⟩
   rw [hwm]
   clear hwm
   clear GD
   go_wp2_with fail
   go_roundw
   case rel => exact ⟨j + 1, hlt, by go_num, H5.out.2.2, H5.out.1, HCL.out⟩
   case measure => simp [intOf] <;> omega
  have HCL : Hid (declC E r s = declL E t s) := HCL0
  clear HCL0
  go_wp2_with fail
  refine GD.out.mono ?_
  rintro en wm ⟨rfl, hwm⟩
  rw [hwm]
  clear hwm
  clear GD
  have HLt : Hid (∀ j, j < t.length → ∃ z, t[j]? = some z ∧ t.drop j = z :: t.drop (j + 1)) := fun j hj => ⟨_, List.getElem?_eq_getElem hj, List.drop_eq_getElem_cons hj⟩
  obtain ⟨ta, hta, HTD⟩ : ∃ ta, (if zc = 1 then some (⟨bh, oh, none⟩ : Addr) else some ⟨bh, oh + 6, none⟩) = ta ∧ Hid (∀ W, Below rb W1 W → Dc (fun k => k < rb) W gz ta t) := by
   refine ⟨_, rfl, fun W hs => ?_⟩
   have h := HZT.out W hs
   by_cases hc2 : zc = 1
   ·rw [if_pos hc2]
    have := HZL.out.2
    have h0 := HZL.out.1
    exact h.tail.nilAt (List.eq_nil_of_length_eq_zero (by omega)) _
   rw [if_neg hc2]; exact h.tail
  rw [hta] at HS1
  clear hta
  have ht2 : t.length ≤ 2000 := HOT.out.2.1
  go_wp2_with fail
  go_loopw [27, 268] (fun _ ix wr => ∃ (j : Nat) (s' : LibS) (e : Int), j ≤ t.length ∧ ix = .int .i64 j ∧ Hid (Below rb W1 wr ∧ WL rb fv tv lv s' e wr ∧ (e = 0 → declL E t s = declL E (t.drop j) s') ∧ (e ≠ 0 → declL E t s = .no e))) (fun _ ix _ => t.length - (intOf ix).toNat)
  case atStart => exact ⟨0, s, 0, Nat.zero_le _, rfl, H5.out.2.1, H5.out.1, fun _ => by rw [List.drop_zero], fun h => absurd rfl h⟩
  obtain ⟨j2', s', e, hj', rfl, HR'⟩ := hrel
  by_cases hlt' : j2' < t.length
  rotate_left
  ·obtain rfl : j2' = t.length := by omega
   have HFI : Hid (Below rb w wr ∧ ∃ s', WL rb fv tv lv s' (erE (declL E t s)) wr ∧ ∀ s2, declL E t s = .ok s2 → s' = s2) := by
    refine ⟨B2.out.trans (HW1.out.2.trans HR'.out.1), s', ?_⟩
    by_cases he0 : e = 0
    ·have h1 := HR'.out.2.2.1 he0
     rw [List.drop_length, declL] at h1
     have h2 := HR'.out.2.1
     rw [he0] at h2
     rw [h1]
     exact ⟨h2, fun s2 hs2 => by cases hs2; rfl⟩
    have h1 := HR'.out.2.2.2 he0
    rw [h1]
    exact ⟨HR'.out.2.1, fun s2 hs2 => by cases hs2⟩
   have hq1 : ¬ ((t.length : Int) < (t.length : Int)) := by omega
   go_wp2_with fail
   go_end0
   rw [HVV.out, HCL.out]
   exact ⟨rfl, HFI.out.1, HFI.out.2⟩
  obtain ⟨y, hy, hdy⟩ := HLt.out j2' hlt'
  obtain ⟨gy, by_, oy, ya, yc, _, rfl, hAy, hyk⟩ := (HTD.out wr HR'.out.1).at hy
  obtain ⟨_, z0, z1, z2, z3, z4, z5, _, hyl⟩ := hAy
  have q1 : (0 : Int) ≤ (j2' : Int) := by omega
  have q2 : (j2' : Int) < (t.length : Int) := by omega
  have hby : Below wr.heap.size wr (wr.alloc (.cells #[.int .i64 y.kind, .int .i64 y.n, .string y.name, .int .i64 y.stamp, .int .i64 y.lib, .slice ya y.kids.length yc] 26)) := (Below.refl _ _).alloc (Nat.le_refl _) _
  obtain ⟨W2, hW2⟩ : ∃ W2, wr.alloc (.cells #[.int .i64 y.kind, .int .i64 y.n, .string y.name, .int .i64 y.stamp, .int .i64 y.lib, .slice ya y.kids.length yc] 26) = W2 := ⟨_, rfl⟩
  have hyb : W2.heap[wr.heap.size]? = some (.cells #[.int .i64 y.kind, .int .i64 y.n, .string y.name, .int .i64 y.stamp, .int .i64 y.lib, .slice ya y.kids.length yc] 26 (0, 0)) := by rw [← hW2]; exact World.alloc_heap_new wr _
  rw [hW2] at hby
  have HW2 : Hid (WL rb fv tv lv s' e W2 ∧ Below rb W1 W2) := ⟨HR'.out.2.1.below hby, HR'.out.1.trans (hby.mono (Nat.le_of_lt HR'.out.2.1.lt))⟩
  have hym := List.mem_of_getElem? hy
  have HYK : Dc (fun k => k < rb) W2 gy ya y.kids := hyk.below (hby.mono (Nat.le_of_lt HR'.out.2.1.lt))
  have HEV := N2.out.below (HW1.out.2.trans HW2.out.2)
  have CALL : Hid (e = 0 → Calls Tryz.prog 36 #[.pointer (some ⟨rb, 0, none⟩), dv y ya yc] W2 (TellD rb fv tv lv (declD E y s') W2)) := fun he => by
   have h := HW2.out.1
   rw [he] at h
   exact HH.out y (HTS.out y hym) (okL_mem HOT.out.1 y hym) (zrL_mem HZQ.out y hym) gy ya yc W2 s' h HYK hyl HEV
  have HDL : Hid (declL E (t.drop j2') s' = (declD E y s').bind fun s'' => declL E (t.drop (j2' + 1)) s'') := by show _ = _; rw [hdy, declL]
  have HNZ := hidd (nz_declD E y s')
  clear hyk hy hdy hby hym HYK HEV
  obtain ⟨y0, y1, y2, y3, y4, y5⟩ := six_at hyb
  unfold dv at CALL
  generalize y.kids.length = yn at *
  by_cases he0 : e = 0
  ·have HL1 : Hid (declL E t s = declL E (t.drop j2') s') := HR'.out.2.2.1 he0
   replace CALL := hidd (CALL.out he0)
   subst he0
   have GD := hidd (good0 rb W2 HW2.out.1.e7)
   go_wp2_with fail
   refine GD.out.mono ?_
   rintro en wm ⟨rfl, hwm⟩
   rw [hwm]
   clear hwm
   clear GD hW2 z0 z1 z2 z3 z4 z5
   go_wp2_with fail
   refine CALL.out.mono ?_
   rintro en w6 ⟨rfl, hb6, s6, hw6, hs6⟩
   have H6 := hidd (And.intro hb6 (And.intro hw6 hs6))
   clear hb6 hw6 hs6 CALL y0 y1 y2 y3 y4 y5 hyb
   go_wp2_with fail
   go_roundw
   case rel =>
    refine ⟨j2' + 1, s6, erE (declD E y s'), hlt', by go_num, HW2.out.2.trans H6.out.1, H6.out.2.1, fun he => ?_, fun he => ?_⟩
    ·have h1 := HL1.out
     rw [h1, HDL.out]
     cases hq : declD E y s' with
     | ok v => rw [H6.out.2.2 v hq]; rfl
     | no x => rw [hq] at he; exact absurd he (HNZ.out x hq)
    have h1 := HL1.out
    rw [h1, HDL.out]
    cases hq : declD E y s' with
    | ok v => rw [hq] at he; exact absurd rfl he
    | no x => rfl
   case measure => simp [intOf] <;> omega
  have GD := hidd (good1 rb e W2 HW2.out.1.e7 he0)
  have HNE := hidd he0
  clear he0
  go_wp2_with fail
  refine GD.out.mono ?_
  rintro en wm ⟨rfl, hwm⟩
  rw [hwm]
  clear hwm
  clear GD hW2 z0 z1 z2 z3 z4 z5 y0 y1 y2 y3 y4 y5 hyb CALL
  go_wp2_with fail
  go_roundw
  case rel => exact ⟨j2' + 1, s', e, hlt', by go_num, HW2.out.2, HW2.out.1, fun he => absurd he HNE.out, HR'.out.2.2.2⟩
  case measure => simp [intOf] <;> omega
 have f2 : decide (h.kind = 3) = true := by simpa using f1
 go_wp2_with fail
 refine HOLD.out.mono ?_
 rintro en w5 ⟨hb, rfl, hs5, hok5⟩
 obtain ⟨e3, he3⟩ : ∃ e3, e3 = erE (holdsD E h) := ⟨_, rfl⟩
 rw [← he3] at hs5
 have H5' : Hid (WL rb fv tv lv s e3 w5 ∧ Below rb W1 w5 ∧ Below rb w2 w5) := ⟨H3.out.1.st hs5, H3.out.2.2.trans (hs5.lowr H3.out.1.e7), H3.out.2.1.trans (hs5.lowr H3.out.1.e7)⟩
 clear hs5 HOLD a0 a1 a2 a3 a4 a5
 by_cases h30 : e3 = 0
 rotate_left
 ·have GD := hidd (good1 rb e3 w5 H5'.out.1.e7 h30)
  obtain ⟨x3, hx3⟩ : ∃ x3, holdsD E h = .no x3 := by
   cases hq : holdsD E h with
   | ok c => rw [hq] at he3; exact absurd he3 h30
   | no e => exact ⟨e, rfl⟩
  have HCL : Hid (declC E r s = .no x3 ∧ e3 = x3) := ⟨by rw [HCT.out, HCE.out, hx3]; rfl, by rw [he3, hx3]; rfl⟩
  clear hok5 he3 hx3 h30
  go_wp2_with fail
  refine GD.out.mono ?_
  rintro en wm ⟨rfl, hwm⟩
  rw [hwm]
  clear hwm
  clear GD
  go_wp2_with fail
  go_end0
  rw [HVV.out, HCL.out.1]
  refine ⟨rfl, B2.out.trans H5'.out.2.2, s, ?_, fun c hc => by cases hc⟩
  have h2 := H5'.out.1
  rw [HCL.out.2] at h2
  exact h2
 subst h30
 have H5 := H5'
 obtain ⟨c, hc⟩ : ∃ c, holdsD E h = .ok c := by
  cases hq : holdsD E h with
  | ok c => exact ⟨c, rfl⟩
  | no e => rw [hq] at he3; exact absurd he3.symm (HNZ.out e hq)
 have hbc := hok5 c hc
 have HCL0 : declC E r s = if hb then declL E t s else declC E (r.drop (j + 1)) s := by rw [HCT.out, HCE.out, hc, hbc]; rfl
 have GD := hidd (good0 rb w5 H5.out.1.e7)
 clear hok5 hbc hc he3 H5'
 cases hb
 ·have HCL := hidd HCL0
  clear HCL0
  replace HCL : Hid (declC E r s = declC E (r.drop (j + 1)) s) := HCL.out
  go_wp2_with fail
  refine GD.out.mono ?_
  rintro en wm ⟨rfl, hwm⟩
  rw [hwm]
  clear hwm
  clear GD
  go_wp2_with fail
  go_roundw
  case rel => exact ⟨j + 1, hlt, by go_num, H5.out.2.2, H5.out.1, HCL.out⟩
  case measure => simp [intOf] <;> omega
 have HCL : Hid (declC E r s = declL E t s) := HCL0
 clear HCL0
 go_wp2_with fail
 refine GD.out.mono ?_
 rintro en wm ⟨rfl, hwm⟩
 rw [hwm]
 clear hwm
 clear GD
 have HLt : Hid (∀ j, j < t.length → ∃ z, t[j]? = some z ∧ t.drop j = z :: t.drop (j + 1)) := fun j hj => ⟨_, List.getElem?_eq_getElem hj, List.drop_eq_getElem_cons hj⟩
 obtain ⟨ta, hta, HTD⟩ : ∃ ta, (if zc = 1 then some (⟨bh, oh, none⟩ : Addr) else some ⟨bh, oh + 6, none⟩) = ta ∧ Hid (∀ W, Below rb W1 W → Dc (fun k => k < rb) W gz ta t) := by
  refine ⟨_, rfl, fun W hs => ?_⟩
  have h := HZT.out W hs
  by_cases hc2 : zc = 1
  ·rw [if_pos hc2]
   have := HZL.out.2
   have h0 := HZL.out.1
   exact h.tail.nilAt (List.eq_nil_of_length_eq_zero (by omega)) _
  rw [if_neg hc2]; exact h.tail
 rw [hta] at HS1
 clear hta
 have ht2 : t.length ≤ 2000 := HOT.out.2.1
 go_wp2_with fail
 go_loopw [27, 268] (fun _ ix wr => ∃ (j : Nat) (s' : LibS) (e : Int), j ≤ t.length ∧ ix = .int .i64 j ∧ Hid (Below rb W1 wr ∧ WL rb fv tv lv s' e wr ∧ (e = 0 → declL E t s = declL E (t.drop j) s') ∧ (e ≠ 0 → declL E t s = .no e))) (fun _ ix _ => t.length - (intOf ix).toNat)
 case atStart => exact ⟨0, s, 0, Nat.zero_le _, rfl, H5.out.2.1, H5.out.1, fun _ => by rw [List.drop_zero], fun h => absurd rfl h⟩
 obtain ⟨j2', s', e, hj', rfl, HR'⟩ := hrel
 by_cases hlt' : j2' < t.length
 rotate_left
 ·obtain rfl : j2' = t.length := by omega
  have HFI : Hid (Below rb w wr ∧ ∃ s', WL rb fv tv lv s' (erE (declL E t s)) wr ∧ ∀ s2, declL E t s = .ok s2 → s' = s2) := by
   refine ⟨B2.out.trans (HW1.out.2.trans HR'.out.1), s', ?_⟩
   by_cases he0 : e = 0
   ·have h1 := HR'.out.2.2.1 he0
    rw [List.drop_length, declL] at h1
    have h2 := HR'.out.2.1
    rw [he0] at h2
    rw [h1]
    exact ⟨h2, fun s2 hs2 => by cases hs2; rfl⟩
   have h1 := HR'.out.2.2.2 he0
   rw [h1]
   exact ⟨HR'.out.2.1, fun s2 hs2 => by cases hs2⟩
  have hq1 : ¬ ((t.length : Int) < (t.length : Int)) := by omega
  go_wp2_with fail
  go_end0
  rw [HVV.out, HCL.out]
  exact ⟨rfl, HFI.out.1, HFI.out.2⟩
 obtain ⟨y, hy, hdy⟩ := HLt.out j2' hlt'
 obtain ⟨gy, by_, oy, ya, yc, _, rfl, hAy, hyk⟩ := (HTD.out wr HR'.out.1).at hy
 obtain ⟨_, z0, z1, z2, z3, z4, z5, _, hyl⟩ := hAy
 have q1 : (0 : Int) ≤ (j2' : Int) := by omega
 have q2 : (j2' : Int) < (t.length : Int) := by omega
 have hby : Below wr.heap.size wr (wr.alloc (.cells #[.int .i64 y.kind, .int .i64 y.n, .string y.name, .int .i64 y.stamp, .int .i64 y.lib, .slice ya y.kids.length yc] 26)) := (Below.refl _ _).alloc (Nat.le_refl _) _
 obtain ⟨W2, hW2⟩ : ∃ W2, wr.alloc (.cells #[.int .i64 y.kind, .int .i64 y.n, .string y.name, .int .i64 y.stamp, .int .i64 y.lib, .slice ya y.kids.length yc] 26) = W2 := ⟨_, rfl⟩
 have hyb : W2.heap[wr.heap.size]? = some (.cells #[.int .i64 y.kind, .int .i64 y.n, .string y.name, .int .i64 y.stamp, .int .i64 y.lib, .slice ya y.kids.length yc] 26 (0, 0)) := by rw [← hW2]; exact World.alloc_heap_new wr _
 rw [hW2] at hby
 have HW2 : Hid (WL rb fv tv lv s' e W2 ∧ Below rb W1 W2) := ⟨HR'.out.2.1.below hby, HR'.out.1.trans (hby.mono (Nat.le_of_lt HR'.out.2.1.lt))⟩
 have hym := List.mem_of_getElem? hy
 have HYK : Dc (fun k => k < rb) W2 gy ya y.kids := hyk.below (hby.mono (Nat.le_of_lt HR'.out.2.1.lt))
 have HEV := N2.out.below (HW1.out.2.trans HW2.out.2)
 have CALL : Hid (e = 0 → Calls Tryz.prog 36 #[.pointer (some ⟨rb, 0, none⟩), dv y ya yc] W2 (TellD rb fv tv lv (declD E y s') W2)) := fun he => by
  have h := HW2.out.1
  rw [he] at h
  exact HH.out y (HTS.out y hym) (okL_mem HOT.out.1 y hym) (zrL_mem HZQ.out y hym) gy ya yc W2 s' h HYK hyl HEV
 have HDL : Hid (declL E (t.drop j2') s' = (declD E y s').bind fun s'' => declL E (t.drop (j2' + 1)) s'') := by show _ = _; rw [hdy, declL]
 have HNZ := hidd (nz_declD E y s')
 clear hyk hy hdy hby hym HYK HEV
 obtain ⟨y0, y1, y2, y3, y4, y5⟩ := six_at hyb
 unfold dv at CALL
 generalize y.kids.length = yn at *
 by_cases he0 : e = 0
 ·have HL1 : Hid (declL E t s = declL E (t.drop j2') s') := HR'.out.2.2.1 he0
  replace CALL := hidd (CALL.out he0)
  subst he0
  have GD := hidd (good0 rb W2 HW2.out.1.e7)
  go_wp2_with fail
  refine GD.out.mono ?_
  rintro en wm ⟨rfl, hwm⟩
  rw [hwm]
  clear hwm
  clear GD hW2 z0 z1 z2 z3 z4 z5
  go_wp2_with fail
  refine CALL.out.mono ?_
  rintro en w6 ⟨rfl, hb6, s6, hw6, hs6⟩
  have H6 := hidd (And.intro hb6 (And.intro hw6 hs6))
  clear hb6 hw6 hs6 CALL y0 y1 y2 y3 y4 y5 hyb
  go_wp2_with fail
  go_roundw
  case rel =>
   refine ⟨j2' + 1, s6, erE (declD E y s'), hlt', by go_num, HW2.out.2.trans H6.out.1, H6.out.2.1, fun he => ?_, fun he => ?_⟩
   ·have h1 := HL1.out
    rw [h1, HDL.out]
    cases hq : declD E y s' with
    | ok v => rw [H6.out.2.2 v hq]; rfl
    | no x => rw [hq] at he; exact absurd he (HNZ.out x hq)
   have h1 := HL1.out
   rw [h1, HDL.out]
   cases hq : declD E y s' with
   | ok v => rw [hq] at he; exact absurd rfl he
   | no x => rfl
  case measure => simp [intOf] <;> omega
 have GD := hidd (good1 rb e W2 HW2.out.1.e7 he0)
 have HNE := hidd he0
 clear he0
 go_wp2_with fail
 refine GD.out.mono ?_
 rintro en wm ⟨rfl, hwm⟩
 rw [hwm]
 clear hwm
 clear GD hW2 z0 z1 z2 z3 z4 z5 y0 y1 y2 y3 y4 y5 hyb CALL
 go_wp2_with fail
 go_roundw
 case rel => exact ⟨j2' + 1, s', e, hlt', by go_num, HW2.out.2, HW2.out.1, fun he => absurd he HNE.out, HR'.out.2.2.2⟩
 case measure => simp [intOf] <;> omega
end Go.Proofs.YtonafbennobgdaaGreatDoor.R3
