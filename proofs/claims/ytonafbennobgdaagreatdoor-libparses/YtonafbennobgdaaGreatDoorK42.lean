/- The document's reader: One, truths. -/
import Derived.StillTail
import Derived.Test.YtonafbennobgdaaGreatDoorK41
namespace Go.Proofs.YtonafbennobgdaaGreatDoor.R1
set_option linter.unusedVariables false
set_option linter.unusedSimpArgs false
open Go.RowKit
set_option maxRecDepth 100000
set_option maxHeartbeats 1600000
theorem byteL_none {l : List UInt8} {i : Nat} (h : l.length ≤ i) : byteL (l.drop i) = [] := by
 rw [List.drop_of_length_le h]; rfl
theorem byteL_at {l : List UInt8} {i : Nat} {c : UInt8} (h : l[i]? = some c) : byteL (l.drop i) = if letB (c.toNat : Int) then c :: byteL (l.drop (i + 1)) else [] := by
 rw [drop_cons h, byteL_cons]
theorem index_at (s : ByteArray) (k : Nat) (v : Int) (hv : v = (k : Int)) (hk : k < s.size) (w : World) : (Instr.index 9 (.string s) (.int .i64 v)).run Tryz.prog w = .ok (.int .u8 (s[k].toNat : Int)) w := by
 subst hv
 simp [Instr.index, run_underlying Tryz.underlying9, go_sem, hk]
theorem get_at (s : ByteArray) (k : Nat) (v : Int) (hv : v = (k : Int)) (hk : k < s.size) : s[v.toNat]? = some s[k] := by
 subst hv
 simp [hk]
theorem still_of_quiet {P : Program} {ops : Array Oper} {W : World} {Q : Act → Prop} : ∀ (l : List Oper) (a : Act), wpQuiet P ops (fun w' => w' = W) Q l a → wpStill P ops W Q l a
 | [], _, h => h
 | o :: rest, a, h => by
  unfold wpQuiet at h
  unfold wpStill
  by_cases hw : Region.wanted o (yielded ops a.tmps) = true
  ·rw [if_pos hw] at h ⊢
   obtain ⟨v, h1, h2⟩ := h
   have h3 := h1 W rfl
   have h4 := still_of_quiet rest _ h2
   unfold Oper.quietAt at h3
   unfold Oper.still
   generalize (execOp a.eval o).run P W = r at h3
   unfold Oper.quietUpon at h3
   unfold Oper.stillUpon
   split at h3
   ·obtain ⟨rfl, rfl⟩ := h3; exact ⟨rfl, h4⟩
   ·obtain ⟨rfl, rfl⟩ := h3; exact ⟨rfl, h4⟩
   ·obtain ⟨rfl, h5⟩ := h3; exact ⟨rfl, v, h5, h4⟩
   exact h3.elim
  rw [if_neg hw] at h ⊢
  exact still_of_quiet rest _ h
theorem wp_region_quiet_tail {P : Program} {id : Nat} {Q : Exit → Act → World → Prop} {a : Act} {w : World} {l : List Oper} (n : Nat) (hm : P.follows .mixedOrders = true) (hB : Region.lexTailB .any l.toArray n = true)
 (h : wpQuiet P l.toArray (fun w' => w' = w.drew) (fun a' => wpList P l.toArray Q (l.drop n) a' w.drew) (l.take n) a) : (Code.region id l.toArray true).wp P Q a w :=
 wp_region_still_tail n hm hB (still_of_quiet _ _ h)
def hashAt (b : List UInt8) (i n : Nat) : Rd Dat :=
 if b = [116] then .inr (datBool 1, i + 2, n + 1) else if b = [102] then .inr (datBool 0, i + 2, n + 1) else .inl (2, (i : Int))
theorem One_hash0 (rb : Nat) (s : ByteArray) (i n : Nat) (dp : Int) (w : World) (h : Wk rb s i n (0, 0) w) (hi : i < s.size) (hs : s.size ≤ 6000) (hn : n ≤ 1999) (hd : dp ≤ 40) (h35 : s[i] = 35) (hx : s.size = i + 1) :
 Calls Tryz.prog 85 #[.pointer (some ⟨rb, 0, none⟩), .int .i64 dp] w (OutW rb s (.inl (2, (i : Int))) w) := by
 have e40 : ((s[i].toNat : Int) == 40) = false := by rw [h35]; rfl
 have e39 : ((s[i].toNat : Int) == 39) = false := by rw [h35]; rfl
 have e35 : ((s[i].toNat : Int) == 35) = true := by rw [h35]; rfl
 clear h35
 have HKN : Hid (decide ((i : Int) + 1 + 1 ≤ (s.size : Int)) = false) := decide_eq_false (by omega)
 clear hx
 have HR : Hid (Wk rb s i n (0, 0) w) := h
 have c1 := h.c1
 have l1 := h.lt
 have hN : w.heap.size ≠ rb := Nat.ne_of_gt l1
 clear h
 go_enter Tryz.func85, Tryz.ntmps85
 go_wp2_with fail
 refine (rcount_ok rb s i n dp i _ (HR.out.alloc _) hn hd).mono ?_
 rintro e w1 ⟨rfl, hk1, hr1⟩
 have H1 : Hid (Hd rb s i (n + 1) w w1) := ⟨((Keep.refl rb w).alloc _).trans hk1, hr1, (Six.made w).keep hk1 hN⟩
 clear hk1 hr1 c1 HR
 go_wp2_with fail
 refine (good_yes rb s i (n + 1) _ H1.out.wk).mono ?_
 rintro e w2 ⟨rfl, rfl⟩
 have c0 := H1.out.wk.c0
 have c1 := H1.out.wk.c1
 have z1 := H1.out.wk.z 1
 go_wp2_with fail
 have hq0 := HKN.out
 go_quiet (fail)
 clear hq0
 go_wp2_with fail
 have HD : Hd rb s (i + 1) (n + 1) w ((w2.setCell ⟨rb, 1, none⟩ (.int .i64 ((i : Int) + 1))).drewN nq) := (H1.out.move hN (i + 1) _ (by omega)).drewN nq
 have HSW := HD.wk
 have HSS := HD.six
 have HSK := HD.keep
 clear HD H1 c0 c1 z1
 refine (stop_any rb s (i + 1) (n + 1) 2 i _ HSW).mono ?_
 rintro e w4 ⟨rfl, hk4, hr4⟩
 obtain ⟨x0, x1, x2, x3, x4, x5, x6, x7⟩ := HSS.keep hk4 hN
 have H4 : Hid (Keep rb w w4 ∧ Wk rb s (i + 1) (n + 1) (2, (i : Int)) w4) := ⟨HSK.trans hk4, hr4⟩
 clear hk4 hr4 HSW HSS HSK
 go_wp2_with fail
 refine bodyPost_ret (v := dv dat0 none 0) (by simp [results, Tryz.results85, go_sem, dv, dat0, x1, x2, x3, x4, x5, x6]) rfl ?_
 exact ⟨keep_six H4.out.1 (Nat.le_refl _) _ _ _ _ _ _, dat0, none, 0, rfl, i + 1, n + 1, hi, H4.out.2.six hN _ _ _ _ _ _⟩
theorem One_hash1 (rb : Nat) (s : ByteArray) (i n : Nat) (dp : Int) (w : World) (h : Wk rb s i n (0, 0) w) (hi : i < s.size) (hs : s.size ≤ 6000) (hn : n ≤ 1999) (hd : dp ≤ 40) (h35 : s[i] = 35) (hx : i + 1 < s.size) (h1 : s[i + 1] ≠ 116) (h2 : s[i + 1] ≠ 102) :
 Calls Tryz.prog 85 #[.pointer (some ⟨rb, 0, none⟩), .int .i64 dp] w (OutW rb s (.inl (2, (i : Int))) w) := by
 have e40 : ((s[i].toNat : Int) == 40) = false := by rw [h35]; rfl
 have e39 : ((s[i].toNat : Int) == 39) = false := by rw [h35]; rfl
 have e35 : ((s[i].toNat : Int) == 35) = true := by rw [h35]; rfl
 clear h35
 have HKN : Hid (decide ((i : Int) + 1 + 1 ≤ (s.size : Int)) = true) := decide_eq_true (by omega)
 have F1 : Hid (((s[i + 1].toNat : Int) == 116) = false) := by show ((s[i + 1].toNat : Int) == 116) = false; rw [show ((116 : Int)) = ((116 : UInt8).toNat : Int) from rfl, byte_is]; simpa using h1
 have F2 : Hid (((s[i + 1].toNat : Int) == 102) = false) := by show ((s[i + 1].toNat : Int) == 102) = false; rw [show ((102 : Int)) = ((102 : UInt8).toNat : Int) from rfl, byte_is]; simpa using h2
 clear h1 h2
 have HR : Hid (Wk rb s i n (0, 0) w) := h
 have c1 := h.c1
 have l1 := h.lt
 have hN : w.heap.size ≠ rb := Nat.ne_of_gt l1
 clear h
 go_enter Tryz.func85, Tryz.ntmps85
 go_wp2_with fail
 refine (rcount_ok rb s i n dp i _ (HR.out.alloc _) hn hd).mono ?_
 rintro e w1 ⟨rfl, hk1, hr1⟩
 have H1 : Hid (Hd rb s i (n + 1) w w1) := ⟨((Keep.refl rb w).alloc _).trans hk1, hr1, (Six.made w).keep hk1 hN⟩
 clear hk1 hr1 c1 HR
 go_wp2_with fail
 refine (good_yes rb s i (n + 1) _ H1.out.wk).mono ?_
 rintro e w2 ⟨rfl, rfl⟩
 have c0 := H1.out.wk.c0
 have c1 := H1.out.wk.c1
 have z1 := H1.out.wk.z 1
 go_wp2_with fail
 have hq0 := HKN.out
 have hq1 := F1.out
 have hq2 := F2.out
 have hq3 := get_at s (i + 1) ((i : Int) + 1) (by omega) hx
 have hq4 := (show (0 : Int) ≤ (i : Int) + 1 by omega)
 have hq5 := fun w => index_at s (i + 1) ((i : Int) + 1) (by omega) hx w
 go_quiet (fail)
 clear hq0 hq1 hq2 hq3 hq4 hq5
 go_wp2_with fail
 have HD : Hd rb s (i + 1) (n + 1) w ((w2.setCell ⟨rb, 1, none⟩ (.int .i64 ((i : Int) + 1))).drewN nq) := (H1.out.move hN (i + 1) _ (by omega)).drewN nq
 have HSW := HD.wk
 have HSS := HD.six
 have HSK := HD.keep
 clear HD H1 c0 c1 z1
 refine (stop_any rb s (i + 1) (n + 1) 2 i _ HSW).mono ?_
 rintro e w4 ⟨rfl, hk4, hr4⟩
 obtain ⟨x0, x1, x2, x3, x4, x5, x6, x7⟩ := HSS.keep hk4 hN
 have H4 : Hid (Keep rb w w4 ∧ Wk rb s (i + 1) (n + 1) (2, (i : Int)) w4) := ⟨HSK.trans hk4, hr4⟩
 clear hk4 hr4 HSW HSS HSK
 go_wp2_with fail
 refine bodyPost_ret (v := dv dat0 none 0) (by simp [results, Tryz.results85, go_sem, dv, dat0, x1, x2, x3, x4, x5, x6]) rfl ?_
 exact ⟨keep_six H4.out.1 (Nat.le_refl _) _ _ _ _ _ _, dat0, none, 0, rfl, i + 1, n + 1, hi, H4.out.2.six hN _ _ _ _ _ _⟩
theorem One_true_end (rb : Nat) (s : ByteArray) (i n : Nat) (dp : Int) (w : World) (h : Wk rb s i n (0, 0) w) (hi : i < s.size) (hs : s.size ≤ 6000) (hn : n ≤ 1999) (hd : dp ≤ 40) (h35 : s[i] = 35) (hx : i + 1 < s.size) (h1 : s[i + 1] = 116) (hx2 : s.size = i + 2) :
 Calls Tryz.prog 85 #[.pointer (some ⟨rb, 0, none⟩), .int .i64 dp] w (OutW rb s (.inr (datBool 1, i + 2, n + 1)) w) := by
 have e40 : ((s[i].toNat : Int) == 40) = false := by rw [h35]; rfl
 have e39 : ((s[i].toNat : Int) == 39) = false := by rw [h35]; rfl
 have e35 : ((s[i].toNat : Int) == 35) = true := by rw [h35]; rfl
 clear h35
 have HKN : Hid (decide ((i : Int) + 1 + 1 ≤ (s.size : Int)) = true) := decide_eq_true (by omega)
 have F1 : Hid (((s[i + 1].toNat : Int) == 116) = true) := by show ((s[i + 1].toNat : Int) == 116) = true; rw [h1]; rfl
 have F2 : Hid (((s[i + 1].toNat : Int) == 102) = false) := by show ((s[i + 1].toNat : Int) == 102) = false; rw [h1]; rfl
 have F3 : Hid (((i : Int) + 1 + 1 == (s.size : Int)) = true) := by show ((i : Int) + 1 + 1 == (s.size : Int)) = true; simp; omega
 clear h1 hx2
 have HR : Hid (Wk rb s i n (0, 0) w) := h
 have c1 := h.c1
 have l1 := h.lt
 have hN : w.heap.size ≠ rb := Nat.ne_of_gt l1
 clear h
 go_enter Tryz.func85, Tryz.ntmps85
 go_wp2_with fail
 refine (rcount_ok rb s i n dp i _ (HR.out.alloc _) hn hd).mono ?_
 rintro e w1 ⟨rfl, hk1, hr1⟩
 have H1 : Hid (Hd rb s i (n + 1) w w1) := ⟨((Keep.refl rb w).alloc _).trans hk1, hr1, (Six.made w).keep hk1 hN⟩
 clear hk1 hr1 c1 HR
 go_wp2_with fail
 refine (good_yes rb s i (n + 1) _ H1.out.wk).mono ?_
 rintro e w2 ⟨rfl, rfl⟩
 have c0 := H1.out.wk.c0
 have c1 := H1.out.wk.c1
 have z1 := H1.out.wk.z 1
 go_wp2_with fail
 have hq0 := HKN.out
 have hq1 := F1.out
 have hq2 := F2.out
 have hq3 := F3.out
 have hq4 := get_at s (i + 1) ((i : Int) + 1) (by omega) hx
 have hq5 := (show (0 : Int) ≤ (i : Int) + 1 by omega)
 have hq6 := fun w => index_at s (i + 1) ((i : Int) + 1) (by omega) hx w
 go_quiet (fail)
 clear hq0 hq1 hq2 hq3 hq4 hq5 hq6
 have HD : Hid (Hd rb s (i + 1) (n + 1) w ((w2.setCell ⟨rb, 1, none⟩ (.int .i64 ((i : Int) + 1))).drewN nq)) := (H1.out.move hN (i + 1) _ (by omega)).drewN nq
 clear H1 c0 c1 z1
 generalize ((w2.setCell ⟨rb, 1, none⟩ (.int .i64 ((i : Int) + 1))).drewN nq) = w3 at HD ⊢
 have c0 := HD.out.wk.c0
 have c1 := HD.out.wk.c1
 have z1 := HD.out.wk.z 1
 have HD2 : Hid (Hd rb s (i + 2) (n + 1) w (w3.setCell ⟨rb, 1, none⟩ (.int .i64 ((i : Int) + 1 + 1)))) := HD.out.move hN (i + 2) _ (by omega)
 obtain ⟨x0, x1, x2, x3, x4, x5, x6, x7⟩ := HD2.out.six
 have d0 := HD2.out.wk.c0
 have hg1 := get_at s (i + 1) ((i : Int) + 1) (by omega) hx
 have hg2 := fun w => index_at s (i + 1) ((i : Int) + 1) (by omega) hx w
 have hg3 := F1.out
 clear HD
 go_wp2_with fail
 refine bodyPost_ret (v := dv (datBool 1) none 0) (by simp [results, Tryz.results85, go_sem, dv, datBool, x1, x2, x3, x4, x5, x6]) rfl ?_
 exact ⟨keep_six HD2.out.keep (Nat.le_refl _) _ _ _ _ _ _, HD2.out.wk.six hN _ _ _ _ _ _, none, 0, 0, rfl, rfl⟩
theorem One_false_end (rb : Nat) (s : ByteArray) (i n : Nat) (dp : Int) (w : World) (h : Wk rb s i n (0, 0) w) (hi : i < s.size) (hs : s.size ≤ 6000) (hn : n ≤ 1999) (hd : dp ≤ 40) (h35 : s[i] = 35) (hx : i + 1 < s.size) (h1 : s[i + 1] = 102) (hx2 : s.size = i + 2) :
 Calls Tryz.prog 85 #[.pointer (some ⟨rb, 0, none⟩), .int .i64 dp] w (OutW rb s (.inr (datBool 0, i + 2, n + 1)) w) := by
 have e40 : ((s[i].toNat : Int) == 40) = false := by rw [h35]; rfl
 have e39 : ((s[i].toNat : Int) == 39) = false := by rw [h35]; rfl
 have e35 : ((s[i].toNat : Int) == 35) = true := by rw [h35]; rfl
 clear h35
 have HKN : Hid (decide ((i : Int) + 1 + 1 ≤ (s.size : Int)) = true) := decide_eq_true (by omega)
 have F1 : Hid (((s[i + 1].toNat : Int) == 116) = false) := by show ((s[i + 1].toNat : Int) == 116) = false; rw [h1]; rfl
 have F2 : Hid (((s[i + 1].toNat : Int) == 102) = true) := by show ((s[i + 1].toNat : Int) == 102) = true; rw [h1]; rfl
 have F3 : Hid (((i : Int) + 1 + 1 == (s.size : Int)) = true) := by show ((i : Int) + 1 + 1 == (s.size : Int)) = true; simp; omega
 clear h1 hx2
 have HR : Hid (Wk rb s i n (0, 0) w) := h
 have c1 := h.c1
 have l1 := h.lt
 have hN : w.heap.size ≠ rb := Nat.ne_of_gt l1
 clear h
 go_enter Tryz.func85, Tryz.ntmps85
 go_wp2_with fail
 refine (rcount_ok rb s i n dp i _ (HR.out.alloc _) hn hd).mono ?_
 rintro e w1 ⟨rfl, hk1, hr1⟩
 have H1 : Hid (Hd rb s i (n + 1) w w1) := ⟨((Keep.refl rb w).alloc _).trans hk1, hr1, (Six.made w).keep hk1 hN⟩
 clear hk1 hr1 c1 HR
 go_wp2_with fail
 refine (good_yes rb s i (n + 1) _ H1.out.wk).mono ?_
 rintro e w2 ⟨rfl, rfl⟩
 have c0 := H1.out.wk.c0
 have c1 := H1.out.wk.c1
 have z1 := H1.out.wk.z 1
 go_wp2_with fail
 have hq0 := HKN.out
 have hq1 := F1.out
 have hq2 := F2.out
 have hq3 := F3.out
 have hq4 := get_at s (i + 1) ((i : Int) + 1) (by omega) hx
 have hq5 := (show (0 : Int) ≤ (i : Int) + 1 by omega)
 have hq6 := fun w => index_at s (i + 1) ((i : Int) + 1) (by omega) hx w
 go_quiet (fail)
 clear hq0 hq1 hq2 hq3 hq4 hq5 hq6
 have HD : Hid (Hd rb s (i + 1) (n + 1) w ((w2.setCell ⟨rb, 1, none⟩ (.int .i64 ((i : Int) + 1))).drewN nq)) := (H1.out.move hN (i + 1) _ (by omega)).drewN nq
 clear H1 c0 c1 z1
 generalize ((w2.setCell ⟨rb, 1, none⟩ (.int .i64 ((i : Int) + 1))).drewN nq) = w3 at HD ⊢
 have c0 := HD.out.wk.c0
 have c1 := HD.out.wk.c1
 have z1 := HD.out.wk.z 1
 have HD2 : Hid (Hd rb s (i + 2) (n + 1) w (w3.setCell ⟨rb, 1, none⟩ (.int .i64 ((i : Int) + 1 + 1)))) := HD.out.move hN (i + 2) _ (by omega)
 obtain ⟨x0, x1, x2, x3, x4, x5, x6, x7⟩ := HD2.out.six
 have d0 := HD2.out.wk.c0
 have hg1 := get_at s (i + 1) ((i : Int) + 1) (by omega) hx
 have hg2 := fun w => index_at s (i + 1) ((i : Int) + 1) (by omega) hx w
 have hg3 := F1.out
 clear HD
 go_wp2_with fail
 refine bodyPost_ret (v := dv (datBool 0) none 0) (by simp [results, Tryz.results85, go_sem, dv, datBool, x1, x2, x3, x4, x5, x6]) rfl ?_
 exact ⟨keep_six HD2.out.keep (Nat.le_refl _) _ _ _ _ _ _, HD2.out.wk.six hN _ _ _ _ _ _, none, 0, 0, rfl, rfl⟩
theorem One_true (rb : Nat) (s : ByteArray) (i n : Nat) (dp : Int) (w : World) (h : Wk rb s i n (0, 0) w) (hi : i < s.size) (hs : s.size ≤ 6000) (hn : n ≤ 1999) (hd : dp ≤ 40) (h35 : s[i] = 35) (hx : i + 1 < s.size) (h1 : s[i + 1] = 116) (hx2 : i + 2 < s.size) (hl : letB (s[i + 2].toNat : Int) = false) :
 Calls Tryz.prog 85 #[.pointer (some ⟨rb, 0, none⟩), .int .i64 dp] w (OutW rb s (.inr (datBool 1, i + 2, n + 1)) w) := by
 have e40 : ((s[i].toNat : Int) == 40) = false := by rw [h35]; rfl
 have e39 : ((s[i].toNat : Int) == 39) = false := by rw [h35]; rfl
 have e35 : ((s[i].toNat : Int) == 35) = true := by rw [h35]; rfl
 clear h35
 have HKN : Hid (decide ((i : Int) + 1 + 1 ≤ (s.size : Int)) = true) := decide_eq_true (by omega)
 have F1 : Hid (((s[i + 1].toNat : Int) == 116) = true) := by show ((s[i + 1].toNat : Int) == 116) = true; rw [h1]; rfl
 have F2 : Hid (((s[i + 1].toNat : Int) == 102) = false) := by show ((s[i + 1].toNat : Int) == 102) = false; rw [h1]; rfl
 have F3 : Hid (((i : Int) + 1 + 1 == (s.size : Int)) = false) := by show ((i : Int) + 1 + 1 == (s.size : Int)) = false; simp; omega
 have LT : Hid (∀ w, Calls Tryz.prog 112 #[.int .u8 (s[i + 2].toNat : Int)] w fun e w' => e = .returned (.bool false) ∧ Below w.heap.size w w') := fun w => by
  have := letter_is s[i + 2] w
  rw [hl] at this
  exact this
 clear hl
 have HL1 : Hid ((s[i + 1].toNat : Int) = 116) := by show (s[i + 1].toNat : Int) = 116; rw [h1]; rfl
 have HG1 : Hid (s[((i : Int) + 1).toNat]? = some 116) := by rw [get_at s (i + 1) ((i : Int) + 1) (by omega) hx, h1]; exact rfl
 clear h1
 have HR : Hid (Wk rb s i n (0, 0) w) := h
 have c1 := h.c1
 have l1 := h.lt
 have hN : w.heap.size ≠ rb := Nat.ne_of_gt l1
 clear h
 go_enter Tryz.func85, Tryz.ntmps85
 go_wp2_with fail
 refine (rcount_ok rb s i n dp i _ (HR.out.alloc _) hn hd).mono ?_
 rintro e w1 ⟨rfl, hk1, hr1⟩
 have H1 : Hid (Hd rb s i (n + 1) w w1) := ⟨((Keep.refl rb w).alloc _).trans hk1, hr1, (Six.made w).keep hk1 hN⟩
 clear hk1 hr1 c1 HR
 go_wp2_with fail
 refine (good_yes rb s i (n + 1) _ H1.out.wk).mono ?_
 rintro e w2 ⟨rfl, rfl⟩
 have c0 := H1.out.wk.c0
 have c1 := H1.out.wk.c1
 have z1 := H1.out.wk.z 1
 go_wp2_with fail
 have hq0 := HKN.out
 have hq1 := F1.out
 have hq2 := F3.out
 have hq3 := F2.out
 have hq4 := get_at s (i + 1) ((i : Int) + 1) (by omega) hx
 have hq5 := fun w => index_at s (i + 1) ((i : Int) + 1) (by omega) hx w
 have hq6 := get_at s (i + 2) ((i : Int) + 1 + 1) (by omega) hx2
 have hq7 := fun w => index_at s (i + 2) ((i : Int) + 1 + 1) (by omega) hx2 w
 have hq8 : (0 : Int) ≤ (i : Int) + 1 := by omega
 refine wp_region_quiet_tail 46 (by kernel_rfl) (by kernel_rfl) ?_
 simp only [List.take_succ_cons, List.take_zero, List.drop_succ_cons, List.drop_zero]
 repeat (go_big_quiet_step (fail))
 refine wpQuiet_nil ?_
 clear hq0 hq1 hq2 hq3 hq4 hq5 hq6 hq7 hq8
 go_wp2_with fail
 refine (LT.out _).mono ?_
 rintro e w3 ⟨rfl, hb3⟩
 have HD : Hid (Hd rb s (i + 1) (n + 1) w w3) := ((H1.out.move hN (i + 1) ((i : Int) + 1) (by omega)).more (Below.drew (Below.refl _ _))).more hb3
 clear hb3 H1 c0 c1 z1 LT
 have c0 := HD.out.wk.c0
 have c1 := HD.out.wk.c1
 have z1 := HD.out.wk.z 1
 have HD2 : Hid (Hd rb s (i + 2) (n + 1) w (w3.setCell ⟨rb, 1, none⟩ (.int .i64 ((i : Int) + 1 + 1)))) := HD.out.move hN (i + 2) _ (by omega)
 obtain ⟨x0, x1, x2, x3, x4, x5, x6, x7⟩ := HD2.out.six
 have d0 := HD2.out.wk.c0
 have hg1 := get_at s (i + 1) ((i : Int) + 1) (by omega) hx
 have hg2 := fun w => index_at s (i + 1) ((i : Int) + 1) (by omega) hx w
 have hg3 := F1.out
 clear HD
 go_wp2_with fail
 refine bodyPost_ret (v := dv (datBool 1) none 0) (by simp [results, Tryz.results85, go_sem, dv, datBool, x1, x2, x3, x4, x5, x6]) rfl ?_
 exact ⟨keep_six HD2.out.keep (Nat.le_refl _) _ _ _ _ _ _, HD2.out.wk.six hN _ _ _ _ _ _, none, 0, 0, rfl, rfl⟩
theorem One_false (rb : Nat) (s : ByteArray) (i n : Nat) (dp : Int) (w : World) (h : Wk rb s i n (0, 0) w) (hi : i < s.size) (hs : s.size ≤ 6000) (hn : n ≤ 1999) (hd : dp ≤ 40) (h35 : s[i] = 35) (hx : i + 1 < s.size) (h1 : s[i + 1] = 102) (hx2 : i + 2 < s.size) (hl : letB (s[i + 2].toNat : Int) = false) :
 Calls Tryz.prog 85 #[.pointer (some ⟨rb, 0, none⟩), .int .i64 dp] w (OutW rb s (.inr (datBool 0, i + 2, n + 1)) w) := by
 have e40 : ((s[i].toNat : Int) == 40) = false := by rw [h35]; rfl
 have e39 : ((s[i].toNat : Int) == 39) = false := by rw [h35]; rfl
 have e35 : ((s[i].toNat : Int) == 35) = true := by rw [h35]; rfl
 clear h35
 have HKN : Hid (decide ((i : Int) + 1 + 1 ≤ (s.size : Int)) = true) := decide_eq_true (by omega)
 have F1 : Hid (((s[i + 1].toNat : Int) == 116) = false) := by show ((s[i + 1].toNat : Int) == 116) = false; rw [h1]; rfl
 have F2 : Hid (((s[i + 1].toNat : Int) == 102) = true) := by show ((s[i + 1].toNat : Int) == 102) = true; rw [h1]; rfl
 have F3 : Hid (((i : Int) + 1 + 1 == (s.size : Int)) = false) := by show ((i : Int) + 1 + 1 == (s.size : Int)) = false; simp; omega
 have LT : Hid (∀ w, Calls Tryz.prog 112 #[.int .u8 (s[i + 2].toNat : Int)] w fun e w' => e = .returned (.bool false) ∧ Below w.heap.size w w') := fun w => by
  have := letter_is s[i + 2] w
  rw [hl] at this
  exact this
 clear hl
 have HL1 : Hid ((s[i + 1].toNat : Int) = 102) := by show (s[i + 1].toNat : Int) = 102; rw [h1]; rfl
 have HG1 : Hid (s[((i : Int) + 1).toNat]? = some 102) := by rw [get_at s (i + 1) ((i : Int) + 1) (by omega) hx, h1]; exact rfl
 clear h1
 have HR : Hid (Wk rb s i n (0, 0) w) := h
 have c1 := h.c1
 have l1 := h.lt
 have hN : w.heap.size ≠ rb := Nat.ne_of_gt l1
 clear h
 go_enter Tryz.func85, Tryz.ntmps85
 go_wp2_with fail
 refine (rcount_ok rb s i n dp i _ (HR.out.alloc _) hn hd).mono ?_
 rintro e w1 ⟨rfl, hk1, hr1⟩
 have H1 : Hid (Hd rb s i (n + 1) w w1) := ⟨((Keep.refl rb w).alloc _).trans hk1, hr1, (Six.made w).keep hk1 hN⟩
 clear hk1 hr1 c1 HR
 go_wp2_with fail
 refine (good_yes rb s i (n + 1) _ H1.out.wk).mono ?_
 rintro e w2 ⟨rfl, rfl⟩
 have c0 := H1.out.wk.c0
 have c1 := H1.out.wk.c1
 have z1 := H1.out.wk.z 1
 go_wp2_with fail
 have hq0 := HKN.out
 have hq1 := F1.out
 have hq2 := F3.out
 have hq3 := F2.out
 have hq4 := get_at s (i + 1) ((i : Int) + 1) (by omega) hx
 have hq5 := fun w => index_at s (i + 1) ((i : Int) + 1) (by omega) hx w
 have hq6 := get_at s (i + 2) ((i : Int) + 1 + 1) (by omega) hx2
 have hq7 := fun w => index_at s (i + 2) ((i : Int) + 1 + 1) (by omega) hx2 w
 have hq8 : (0 : Int) ≤ (i : Int) + 1 := by omega
 refine wp_region_quiet_tail 46 (by kernel_rfl) (by kernel_rfl) ?_
 simp only [List.take_succ_cons, List.take_zero, List.drop_succ_cons, List.drop_zero]
 repeat (go_big_quiet_step (fail))
 refine wpQuiet_nil ?_
 clear hq0 hq1 hq2 hq3 hq4 hq5 hq6 hq7 hq8
 go_wp2_with fail
 refine (LT.out _).mono ?_
 rintro e w3 ⟨rfl, hb3⟩
 have HD : Hid (Hd rb s (i + 1) (n + 1) w w3) := ((H1.out.move hN (i + 1) ((i : Int) + 1) (by omega)).more (Below.drew (Below.refl _ _))).more hb3
 clear hb3 H1 c0 c1 z1 LT
 have c0 := HD.out.wk.c0
 have c1 := HD.out.wk.c1
 have z1 := HD.out.wk.z 1
 have HD2 : Hid (Hd rb s (i + 2) (n + 1) w (w3.setCell ⟨rb, 1, none⟩ (.int .i64 ((i : Int) + 1 + 1)))) := HD.out.move hN (i + 2) _ (by omega)
 obtain ⟨x0, x1, x2, x3, x4, x5, x6, x7⟩ := HD2.out.six
 have d0 := HD2.out.wk.c0
 have hg1 := get_at s (i + 1) ((i : Int) + 1) (by omega) hx
 have hg2 := fun w => index_at s (i + 1) ((i : Int) + 1) (by omega) hx w
 have hg3 := F1.out
 clear HD
 go_wp2_with fail
 refine bodyPost_ret (v := dv (datBool 0) none 0) (by simp [results, Tryz.results85, go_sem, dv, datBool, x1, x2, x3, x4, x5, x6]) rfl ?_
 exact ⟨keep_six HD2.out.keep (Nat.le_refl _) _ _ _ _ _ _, HD2.out.wk.six hN _ _ _ _ _ _, none, 0, 0, rfl, rfl⟩
theorem One_t_more (rb : Nat) (s : ByteArray) (i n : Nat) (dp : Int) (w : World) (h : Wk rb s i n (0, 0) w) (hi : i < s.size) (hs : s.size ≤ 6000) (hn : n ≤ 1999) (hd : dp ≤ 40) (h35 : s[i] = 35) (hx : i + 1 < s.size) (h1 : s[i + 1] = 116) (hx2 : i + 2 < s.size) (hl : letB (s[i + 2].toNat : Int) = true) :
 Calls Tryz.prog 85 #[.pointer (some ⟨rb, 0, none⟩), .int .i64 dp] w (OutW rb s (.inl (2, (i : Int))) w) := by
 have e40 : ((s[i].toNat : Int) == 40) = false := by rw [h35]; rfl
 have e39 : ((s[i].toNat : Int) == 39) = false := by rw [h35]; rfl
 have e35 : ((s[i].toNat : Int) == 35) = true := by rw [h35]; rfl
 clear h35
 have HKN : Hid (decide ((i : Int) + 1 + 1 ≤ (s.size : Int)) = true) := decide_eq_true (by omega)
 have F1 : Hid (((s[i + 1].toNat : Int) == 116) = true) := by show ((s[i + 1].toNat : Int) == 116) = true; rw [h1]; rfl
 have F2 : Hid (((s[i + 1].toNat : Int) == 102) = false) := by show ((s[i + 1].toNat : Int) == 102) = false; rw [h1]; rfl
 have F3 : Hid (((i : Int) + 1 + 1 == (s.size : Int)) = false) := by show ((i : Int) + 1 + 1 == (s.size : Int)) = false; simp; omega
 have LT : Hid (∀ w, Calls Tryz.prog 112 #[.int .u8 (s[i + 2].toNat : Int)] w fun e w' => e = .returned (.bool true) ∧ Below w.heap.size w w') := fun w => by
  have := letter_is s[i + 2] w
  rw [hl] at this
  exact this
 clear hl
 have HL1 : Hid ((s[i + 1].toNat : Int) = 116) := by show (s[i + 1].toNat : Int) = 116; rw [h1]; rfl
 have HG1 : Hid (s[((i : Int) + 1).toNat]? = some 116) := by rw [get_at s (i + 1) ((i : Int) + 1) (by omega) hx, h1]; exact rfl
 clear h1
 have HR : Hid (Wk rb s i n (0, 0) w) := h
 have c1 := h.c1
 have l1 := h.lt
 have hN : w.heap.size ≠ rb := Nat.ne_of_gt l1
 clear h
 go_enter Tryz.func85, Tryz.ntmps85
 go_wp2_with fail
 refine (rcount_ok rb s i n dp i _ (HR.out.alloc _) hn hd).mono ?_
 rintro e w1 ⟨rfl, hk1, hr1⟩
 have H1 : Hid (Hd rb s i (n + 1) w w1) := ⟨((Keep.refl rb w).alloc _).trans hk1, hr1, (Six.made w).keep hk1 hN⟩
 clear hk1 hr1 c1 HR
 go_wp2_with fail
 refine (good_yes rb s i (n + 1) _ H1.out.wk).mono ?_
 rintro e w2 ⟨rfl, rfl⟩
 have c0 := H1.out.wk.c0
 have c1 := H1.out.wk.c1
 have z1 := H1.out.wk.z 1
 go_wp2_with fail
 have hq0 := HKN.out
 have hq1 := F1.out
 have hq2 := F3.out
 have hq3 := F2.out
 have hq4 := get_at s (i + 1) ((i : Int) + 1) (by omega) hx
 have hq5 := fun w => index_at s (i + 1) ((i : Int) + 1) (by omega) hx w
 have hq6 := get_at s (i + 2) ((i : Int) + 1 + 1) (by omega) hx2
 have hq7 := fun w => index_at s (i + 2) ((i : Int) + 1 + 1) (by omega) hx2 w
 have hq8 : (0 : Int) ≤ (i : Int) + 1 := by omega
 refine wp_region_quiet_tail 46 (by kernel_rfl) (by kernel_rfl) ?_
 simp only [List.take_succ_cons, List.take_zero, List.drop_succ_cons, List.drop_zero]
 repeat (go_big_quiet_step (fail))
 refine wpQuiet_nil ?_
 clear hq0 hq1 hq2 hq3 hq4 hq5 hq6 hq7 hq8
 go_wp2_with fail
 refine (LT.out _).mono ?_
 rintro e w3 ⟨rfl, hb3⟩
 have HD : Hid (Hd rb s (i + 1) (n + 1) w w3) := ((H1.out.move hN (i + 1) ((i : Int) + 1) (by omega)).more (Below.drew (Below.refl _ _))).more hb3
 clear hb3 H1 c0 c1 z1 LT
 go_wp2_with fail
 have HSW := HD.out.wk
 have HSS := HD.out.six
 have HSK := HD.out.keep
 clear HD
 refine (stop_any rb s (i + 1) (n + 1) 2 i _ HSW).mono ?_
 rintro e w4 ⟨rfl, hk4, hr4⟩
 obtain ⟨x0, x1, x2, x3, x4, x5, x6, x7⟩ := HSS.keep hk4 hN
 have H4 : Hid (Keep rb w w4 ∧ Wk rb s (i + 1) (n + 1) (2, (i : Int)) w4) := ⟨HSK.trans hk4, hr4⟩
 clear hk4 hr4 HSW HSS HSK
 go_wp2_with fail
 refine bodyPost_ret (v := dv dat0 none 0) (by simp [results, Tryz.results85, go_sem, dv, dat0, x1, x2, x3, x4, x5, x6]) rfl ?_
 exact ⟨keep_six H4.out.1 (Nat.le_refl _) _ _ _ _ _ _, dat0, none, 0, rfl, i + 1, n + 1, hi, H4.out.2.six hN _ _ _ _ _ _⟩
theorem One_f_more (rb : Nat) (s : ByteArray) (i n : Nat) (dp : Int) (w : World) (h : Wk rb s i n (0, 0) w) (hi : i < s.size) (hs : s.size ≤ 6000) (hn : n ≤ 1999) (hd : dp ≤ 40) (h35 : s[i] = 35) (hx : i + 1 < s.size) (h1 : s[i + 1] = 102) (hx2 : i + 2 < s.size) (hl : letB (s[i + 2].toNat : Int) = true) :
 Calls Tryz.prog 85 #[.pointer (some ⟨rb, 0, none⟩), .int .i64 dp] w (OutW rb s (.inl (2, (i : Int))) w) := by
 have e40 : ((s[i].toNat : Int) == 40) = false := by rw [h35]; rfl
 have e39 : ((s[i].toNat : Int) == 39) = false := by rw [h35]; rfl
 have e35 : ((s[i].toNat : Int) == 35) = true := by rw [h35]; rfl
 clear h35
 have HKN : Hid (decide ((i : Int) + 1 + 1 ≤ (s.size : Int)) = true) := decide_eq_true (by omega)
 have F1 : Hid (((s[i + 1].toNat : Int) == 116) = false) := by show ((s[i + 1].toNat : Int) == 116) = false; rw [h1]; rfl
 have F2 : Hid (((s[i + 1].toNat : Int) == 102) = true) := by show ((s[i + 1].toNat : Int) == 102) = true; rw [h1]; rfl
 have F3 : Hid (((i : Int) + 1 + 1 == (s.size : Int)) = false) := by show ((i : Int) + 1 + 1 == (s.size : Int)) = false; simp; omega
 have LT : Hid (∀ w, Calls Tryz.prog 112 #[.int .u8 (s[i + 2].toNat : Int)] w fun e w' => e = .returned (.bool true) ∧ Below w.heap.size w w') := fun w => by
  have := letter_is s[i + 2] w
  rw [hl] at this
  exact this
 clear hl
 have HL1 : Hid ((s[i + 1].toNat : Int) = 102) := by show (s[i + 1].toNat : Int) = 102; rw [h1]; rfl
 have HG1 : Hid (s[((i : Int) + 1).toNat]? = some 102) := by rw [get_at s (i + 1) ((i : Int) + 1) (by omega) hx, h1]; exact rfl
 clear h1
 have HR : Hid (Wk rb s i n (0, 0) w) := h
 have c1 := h.c1
 have l1 := h.lt
 have hN : w.heap.size ≠ rb := Nat.ne_of_gt l1
 clear h
 go_enter Tryz.func85, Tryz.ntmps85
 go_wp2_with fail
 refine (rcount_ok rb s i n dp i _ (HR.out.alloc _) hn hd).mono ?_
 rintro e w1 ⟨rfl, hk1, hr1⟩
 have H1 : Hid (Hd rb s i (n + 1) w w1) := ⟨((Keep.refl rb w).alloc _).trans hk1, hr1, (Six.made w).keep hk1 hN⟩
 clear hk1 hr1 c1 HR
 go_wp2_with fail
 refine (good_yes rb s i (n + 1) _ H1.out.wk).mono ?_
 rintro e w2 ⟨rfl, rfl⟩
 have c0 := H1.out.wk.c0
 have c1 := H1.out.wk.c1
 have z1 := H1.out.wk.z 1
 go_wp2_with fail
 have hq0 := HKN.out
 have hq1 := F1.out
 have hq2 := F3.out
 have hq3 := F2.out
 have hq4 := get_at s (i + 1) ((i : Int) + 1) (by omega) hx
 have hq5 := fun w => index_at s (i + 1) ((i : Int) + 1) (by omega) hx w
 have hq6 := get_at s (i + 2) ((i : Int) + 1 + 1) (by omega) hx2
 have hq7 := fun w => index_at s (i + 2) ((i : Int) + 1 + 1) (by omega) hx2 w
 have hq8 : (0 : Int) ≤ (i : Int) + 1 := by omega
 refine wp_region_quiet_tail 46 (by kernel_rfl) (by kernel_rfl) ?_
 simp only [List.take_succ_cons, List.take_zero, List.drop_succ_cons, List.drop_zero]
 repeat (go_big_quiet_step (fail))
 refine wpQuiet_nil ?_
 clear hq0 hq1 hq2 hq3 hq4 hq5 hq6 hq7 hq8
 go_wp2_with fail
 refine (LT.out _).mono ?_
 rintro e w3 ⟨rfl, hb3⟩
 have HD : Hid (Hd rb s (i + 1) (n + 1) w w3) := ((H1.out.move hN (i + 1) ((i : Int) + 1) (by omega)).more (Below.drew (Below.refl _ _))).more hb3
 clear hb3 H1 c0 c1 z1 LT
 go_wp2_with fail
 have HSW := HD.out.wk
 have HSS := HD.out.six
 have HSK := HD.out.keep
 clear HD
 refine (stop_any rb s (i + 1) (n + 1) 2 i _ HSW).mono ?_
 rintro e w4 ⟨rfl, hk4, hr4⟩
 obtain ⟨x0, x1, x2, x3, x4, x5, x6, x7⟩ := HSS.keep hk4 hN
 have H4 : Hid (Keep rb w w4 ∧ Wk rb s (i + 1) (n + 1) (2, (i : Int)) w4) := ⟨HSK.trans hk4, hr4⟩
 clear hk4 hr4 HSW HSS HSK
 go_wp2_with fail
 refine bodyPost_ret (v := dv dat0 none 0) (by simp [results, Tryz.results85, go_sem, dv, dat0, x1, x2, x3, x4, x5, x6]) rfl ?_
 exact ⟨keep_six H4.out.1 (Nat.le_refl _) _ _ _ _ _ _, dat0, none, 0, rfl, i + 1, n + 1, hi, H4.out.2.six hN _ _ _ _ _ _⟩
theorem One_hash (rb : Nat) (s : ByteArray) (i n : Nat) (dp : Int) (w : World) (h : Wk rb s i n (0, 0) w) (hi : i < s.size) (hs : s.size ≤ 6000) (hn : n ≤ 1999) (hd : dp ≤ 40) (h35 : s[i] = 35) :
 Calls Tryz.prog 85 #[.pointer (some ⟨rb, 0, none⟩), .int .i64 dp] w (OutW rb s (hashAt (byteL (s.data.toList.drop (i + 1))) i n) w) := by
 have hlen : s.data.toList.length = s.size := Array.length_toList
 by_cases hx : i + 1 < s.size
 rotate_left
 ·rw [byteL_none (by omega)]
  exact One_hash0 rb s i n dp w h hi hs hn hd h35 (by omega)
 have h1 := byteL_at (at_of hx)
 by_cases ht : s[i + 1] = 116
 ·rw [ht] at h1
  rw [if_pos (by decide)] at h1
  by_cases hx2 : i + 2 < s.size
  ·have h2 := byteL_at (at_of hx2)
   by_cases hl : letB (s[i + 2].toNat : Int) = true
   ·rw [hl, if_pos rfl] at h2
    rw [h1, show i + 1 + 1 = i + 2 from rfl, h2]
    rw [show hashAt (116 :: s[i + 2] :: byteL (s.data.toList.drop (i + 2 + 1))) i n = .inl (2, (i : Int)) from by unfold hashAt; rw [if_neg (by simp), if_neg (by simp)]]
    exact One_t_more rb s i n dp w h hi hs hn hd h35 hx ht hx2 hl
   have hl' : letB (s[i + 2].toNat : Int) = false := by simpa using hl
   rw [hl', if_neg (by simp)] at h2
   rw [h1, show i + 1 + 1 = i + 2 from rfl, h2]
   exact One_true rb s i n dp w h hi hs hn hd h35 hx ht hx2 hl'
  rw [h1, show i + 1 + 1 = i + 2 from rfl, byteL_none (by omega)]
  exact One_true_end rb s i n dp w h hi hs hn hd h35 hx ht (by omega)
 by_cases hf : s[i + 1] = 102
 ·rw [hf] at h1
  rw [if_pos (by decide)] at h1
  by_cases hx2 : i + 2 < s.size
  ·have h2 := byteL_at (at_of hx2)
   by_cases hl : letB (s[i + 2].toNat : Int) = true
   ·rw [hl, if_pos rfl] at h2
    rw [h1, show i + 1 + 1 = i + 2 from rfl, h2]
    rw [show hashAt (102 :: s[i + 2] :: byteL (s.data.toList.drop (i + 2 + 1))) i n = .inl (2, (i : Int)) from by unfold hashAt; rw [if_neg (by simp), if_neg (by simp)]]
    exact One_f_more rb s i n dp w h hi hs hn hd h35 hx hf hx2 hl
   have hl' : letB (s[i + 2].toNat : Int) = false := by simpa using hl
   rw [hl', if_neg (by simp)] at h2
   rw [h1, show i + 1 + 1 = i + 2 from rfl, h2]
   exact One_false rb s i n dp w h hi hs hn hd h35 hx hf hx2 hl'
  rw [h1, show i + 1 + 1 = i + 2 from rfl, byteL_none (by omega)]
  exact One_false_end rb s i n dp w h hi hs hn hd h35 hx hf (by omega)
 have e : hashAt (byteL (s.data.toList.drop (i + 1))) i n = .inl (2, (i : Int)) := by
  rw [h1]
  unfold hashAt
  split
  ·rw [if_neg (by simp [ht]), if_neg (by simp [hf])]
  rfl
 rw [e]
 exact One_hash1 rb s i n dp w h hi hs hn hd h35 hx ht hf
def asQuote : Rd Dat → Rd Dat
 | .inl e => .inl e
 | .inr (d, j, m) => .inr (datQuote d, j, m)
theorem One_quote_much (rb : Nat) (s : ByteArray) (i n : Nat) (dp : Int) (w : World) (h : Wk rb s i n (0, 0) w) (hi : i < s.size) (hs : s.size ≤ 6000) (hn : n ≤ 1999) (hd : dp ≤ 40) (h39 : s[i] = 39) (hd0 : 0 ≤ dp) (hm : n + 1 = 2000 ∨ dp = 40) :
 Calls Tryz.prog 85 #[.pointer (some ⟨rb, 0, none⟩), .int .i64 dp] w (OutW rb s (.inl (4, (i : Int))) w) := by
 have e40 : ((s[i].toNat : Int) == 40) = false := by rw [h39]; rfl
 have e39 : ((s[i].toNat : Int) == 39) = true := by rw [h39]; rfl
 clear h39
 have CT : Hid (∀ w, Wk rb s (i + 1) (n + 1) (0, 0) w → Calls Tryz.prog 114 #[.pointer (some ⟨rb, 0, none⟩), .int .i64 (dp + 1), .int .i64 (i : Int)] w fun e w' => e = .returned (.tuple #[]) ∧ Keep rb w w' ∧ Wk rb s (i + 1) (n + 1 + 1) (4, (i : Int)) w') := fun w h => by
  rcases hm with hm | hm
  ·exact rcount_much rb s (i + 1) (n + 1) (dp + 1) i w h hm
  by_cases h2 : n + 1 = 2000
  ·exact rcount_much rb s (i + 1) (n + 1) (dp + 1) i w h h2
  rw [show dp + 1 = 41 from by omega]; exact rcount_deep rb s (i + 1) (n + 1) i w h (by omega)
 clear hm
 have HR : Hid (Wk rb s i n (0, 0) w) := h
 have c1 := h.c1
 have l1 := h.lt
 have hN : w.heap.size ≠ rb := Nat.ne_of_gt l1
 clear h
 go_enter Tryz.func85, Tryz.ntmps85
 go_wp2_with fail
 refine (rcount_ok rb s i n dp i _ (HR.out.alloc _) hn hd).mono ?_
 rintro e w1 ⟨rfl, hk1, hr1⟩
 have H1 : Hid (Hd rb s i (n + 1) w w1) := ⟨((Keep.refl rb w).alloc _).trans hk1, hr1, (Six.made w).keep hk1 hN⟩
 clear hk1 hr1 c1 HR
 go_wp2_with fail
 refine (good_yes rb s i (n + 1) _ H1.out.wk).mono ?_
 rintro e w2 ⟨rfl, rfl⟩
 have c0 := H1.out.wk.c0
 have c1 := H1.out.wk.c1
 have z1 := H1.out.wk.z 1
 go_wp2_with fail
 refine (CT.out _ (H1.out.wk.move (i + 1) _ (by omega))).mono ?_
 rintro e w3 ⟨rfl, hk3, hr3⟩
 have H2 := H1.out.move hN (i + 1) ((i : Int) + 1) (by omega)
 obtain ⟨x0, x1, x2, x3, x4, x5, x6, x7⟩ := H2.six.keep hk3 hN
 have H3 : Hid (Keep rb w w3 ∧ Wk rb s (i + 1) (n + 1 + 1) (4, (i : Int)) w3) := ⟨H2.keep.trans hk3, hr3⟩
 clear hk3 hr3 H1 H2 c0 c1 z1 CT
 go_wp2_with fail
 refine (good_no rb s (i + 1) (n + 1 + 1) (4, (i : Int)) _ H3.out.2 (by simp)).mono ?_
 rintro e w4 ⟨rfl, rfl⟩
 go_wp2_with fail
 refine bodyPost_ret (v := dv dat0 none 0) (by simp [results, Tryz.results85, go_sem, dv, dat0, x1, x2, x3, x4, x5, x6]) rfl ?_
 exact ⟨keep_six H3.out.1 (Nat.le_refl _) _ _ _ _ _ _, dat0, none, 0, rfl, i + 1, n + 1 + 1, hi, H3.out.2.six hN _ _ _ _ _ _⟩
theorem One_quote (rb : Nat) (s : ByteArray) (i n : Nat) (dp : Int) (w : World) (h : Wk rb s i n (0, 0) w) (hi : i < s.size) (hs : s.size ≤ 6000) (hn : n ≤ 1999) (hd : dp ≤ 40) (h39 : s[i] = 39) (hn2 : n + 1 ≤ 1999) (hd2 : dp ≤ 39) (hd0 : 0 ≤ dp) (r : Rd Dat) (hnm : ∀ d j m, r = .inr (d, j, m) → d.name.size ≤ 20)
 (ih : ∀ w, Wk rb s (i + 1 + skipL (s.data.toList.drop (i + 1)) false) (n + 2) (0, 0) w → Calls Tryz.prog 85 #[.pointer (some ⟨rb, 0, none⟩), .int .i64 (dp + 1)] w (OutW rb s r w)) :
 Calls Tryz.prog 85 #[.pointer (some ⟨rb, 0, none⟩), .int .i64 dp] w (OutW rb s (asQuote r) w) := by
 have e40 : ((s[i].toNat : Int) == 40) = false := by rw [h39]; rfl
 have e39 : ((s[i].toNat : Int) == 39) = true := by rw [h39]; rfl
 clear h39
 have IH : Hid (∀ w, Wk rb s (i + 1 + skipL (s.data.toList.drop (i + 1)) false) (n + 2) (0, 0) w → Calls Tryz.prog 85 #[.pointer (some ⟨rb, 0, none⟩), .int .i64 (dp + 1)] w (OutW rb s r w)) := ih
 clear ih
 have HR : Hid (Wk rb s i n (0, 0) w) := h
 have c1 := h.c1
 have l1 := h.lt
 have hN : w.heap.size ≠ rb := Nat.ne_of_gt l1
 clear h
 go_enter Tryz.func85, Tryz.ntmps85
 go_wp2_with fail
 refine (rcount_ok rb s i n dp i _ (HR.out.alloc _) hn hd).mono ?_
 rintro e w1 ⟨rfl, hk1, hr1⟩
 have H1 : Hid (Hd rb s i (n + 1) w w1) := ⟨((Keep.refl rb w).alloc _).trans hk1, hr1, (Six.made w).keep hk1 hN⟩
 clear hk1 hr1 c1 HR
 go_wp2_with fail
 refine (good_yes rb s i (n + 1) _ H1.out.wk).mono ?_
 rintro e w2 ⟨rfl, rfl⟩
 have c0 := H1.out.wk.c0
 have c1 := H1.out.wk.c1
 have z1 := H1.out.wk.z 1
 go_wp2_with fail
 refine (rcount_ok rb s (i + 1) (n + 1) (dp + 1) i _ (H1.out.wk.move (i + 1) _ (by omega)) hn2 (by omega)).mono ?_
 rintro e w3 ⟨rfl, hk3, hr3⟩
 have H3 : Hid (Hd rb s (i + 1) (n + 2) w w3) := (H1.out.move hN (i + 1) ((i : Int) + 1) (by omega)).kept hk3 hr3 hN
 clear hk3 hr3 H1 c0 c1 z1
 go_wp2_with fail
 refine (good_yes rb s (i + 1) (n + 2) _ H3.out.wk).mono ?_
 rintro e w4 ⟨rfl, rfl⟩
 go_wp2_with fail
 refine (rskip_any rb s (i + 1) (n + 2) (0, 0) _ H3.out.wk hi hs).mono ?_
 rintro e w5 ⟨rfl, hk5, hr5⟩
 have H5 : Hid (Hd rb s (i + 1 + skipL (s.data.toList.drop (i + 1)) false) (n + 2) w w5) := H3.out.kept hk5 hr5 hN
 clear hk5 hr5 H3
 go_wp2_with fail
 refine (Sym_any ⟨#[113, 117, 111, 116, 101]⟩ _).mono ?_
 rintro e w6 ⟨rfl, hb6⟩
 have H6 : Hid (Hd rb s (i + 1 + skipL (s.data.toList.drop (i + 1)) false) (n + 2) w w6) := H5.out.more hb6
 clear hb6 H5
 unfold dv
 go_wp2_with fail
 refine (IH.out _ H6.out.wk).mono ?_
 intro e w7 ho
 clear IH
 have HNM : Hid (∀ d j m, r = .inr (d, j, m) → d.name.size ≤ 20) := hnm
 clear hnm
 rcases r with x | ⟨d, j, m⟩
 ·obtain ⟨hk7, d, a, cap, rfl, j, m, hj, hr7⟩ := ho
  have SY : Hid (Six w.heap.size w7) := H6.out.six.keep hk7 hN
  have H7 : Hid (Keep rb w w7 ∧ Wk rb s j m x w7) := ⟨H6.out.keep.trans hk7, hr7⟩
  clear hk7 hr7 H6
  unfold dv
  go_wp2_with fail
  refine (List_any (some ⟨w7.heap.size, 0, none⟩) 2 2 _).mono ?_
  rintro e w8 ⟨rfl, hb8⟩
  obtain ⟨x0, x1, x2, x3, x4, x5, x6, x7⟩ := (SY.out.alloc _).after hb8
  have H8 : Hid (Keep rb w w8 ∧ Wk rb s j m x w8) := ⟨(H7.out.1.alloc _).below hb8, (H7.out.2.alloc _).below hb8⟩
  clear hb8 H7 SY
  go_wp2_with fail
  refine bodyPost_ret (v := dv (datQuote d) (some ⟨w7.heap.size, 0, none⟩) 2) (by simp [results, Tryz.results85, go_sem, dv, datQuote, datList, x1, x2, x3, x4, x5, x6]) rfl ?_
  exact ⟨keep_six H8.out.1 (Nat.le_refl _) _ _ _ _ _ _, datQuote d, _, 2, rfl, j, m, hj, H8.out.2.six hN _ _ _ _ _ _⟩
 obtain ⟨hk7, hr7, a, cap, f, rfl, hd7⟩ := ho
 have SY : Hid (Six w.heap.size w7) := H6.out.six.keep hk7 hN
 have H7 : Hid (Keep rb w w7 ∧ Wk rb s j m (0, 0) w7 ∧ Dw (NewT w6 w7) w7 f a cap d.kids) := ⟨H6.out.keep.trans hk7, hr7, hd7⟩
 have hz6 := H6.out.keep.size
 have hz7 := hk7.size
 have hN7 := H6.out.six.lt
 clear hk7 hr7 hd7 H6
 unfold dv
 go_wp2_with fail
 refine (List_any (some ⟨w7.heap.size, 0, none⟩) 2 2 _).mono ?_
 rintro e w8 ⟨rfl, hb8⟩
 obtain ⟨x0, x1, x2, x3, x4, x5, x6, x7⟩ := (SY.out.alloc _).after hb8
 have H8 : Hid (Keep rb w w8 ∧ Wk rb s j m (0, 0) w8) := ⟨(H7.out.1.alloc _).below hb8, (H7.out.2.1.alloc _).below hb8⟩
 have hz8 : w7.heap.size + 1 ≤ w8.heap.size := by have := hb8.size; simpa using this
 have HC : Hid (∀ o v, (#[.int .i64 3, .int .i64 0, .string ⟨#[113, 117, 111, 116, 101]⟩, .int .i64 0, .int .i64 0, .slice none 0 0, .int .i64 d.kind, .int .i64 d.n, .string d.name, .int .i64 d.stamp, .int .i64 d.lib, .slice a d.kids.length cap] : Array Value)[o]? = some v → w8.cell? ⟨w7.heap.size, o, none⟩ = some v) := fun o v hv => (hb8.cell (p := ⟨w7.heap.size, o, none⟩) (by simp)).trans ((World.cell?_alloc_mark w7 _ 26 (0, 0) o).trans hv)
 have HB8 : Hid (∀ k, k < w7.heap.size → w8.heap[k]? = w7.heap[k]?) := fun k hk => (hb8.block k (by simp; omega)).trans (Below.heap_alloc _ _ _ hk)
 clear hb8 SY
 go_wp2_with fail
 refine bodyPost_ret (v := dv (datQuote d) (some ⟨w7.heap.size, 0, none⟩) 2) (by simp [results, Tryz.results85, go_sem, dv, datQuote, datList, x1, x2, x3, x4, x5, x6]) rfl ?_
 have hh := six_heapT w8 w.heap.size (.int .i64 4) (.int .i64 0) (.string ⟨#[]⟩) (.int .i64 0) (.int .i64 0) (.slice (some ⟨w7.heap.size, 0, none⟩) 2 2)
 refine ⟨keep_six H8.out.1 (Nat.le_refl _) _ _ _ _ _ _, H8.out.2.six hN _ _ _ _ _ _, some ⟨w7.heap.size, 0, none⟩, 2, f + 1, rfl, ?_⟩
 generalize ((((((w8.setCell ⟨w.heap.size, 0, none⟩ (.int .i64 4)).setCell ⟨w.heap.size, 1, none⟩ (.int .i64 0)).setCell ⟨w.heap.size, 2, none⟩ (.string ⟨#[]⟩)).setCell ⟨w.heap.size, 3, none⟩ (.int .i64 0)).setCell ⟨w.heap.size, 4, none⟩ (.int .i64 0)).setCell ⟨w.heap.size, 5, none⟩ (.slice (some ⟨w7.heap.size, 0, none⟩) 2 2)) = F at hh ⊢
 have hcell : ∀ o v, (#[.int .i64 3, .int .i64 0, .string ⟨#[113, 117, 111, 116, 101]⟩, .int .i64 0, .int .i64 0, .slice none 0 0, .int .i64 d.kind, .int .i64 d.n, .string d.name, .int .i64 d.stamp, .int .i64 d.lib, .slice a d.kids.length cap] : Array Value)[o]? = some v → F.cell? ⟨w7.heap.size, o, none⟩ = some v := fun o v hv => (World.cell?_of_block (hh.1 w7.heap.size (by omega))).trans (HC.out o v hv)
 refine ⟨⟨by show (2 : Nat) ≤ 9223372036854775807; omega, Nat.le_refl 2⟩, Or.inr ⟨w7.heap.size, 0, rfl, ⟨by omega, by rw [hh.2]; omega⟩, ?_⟩⟩
 intro q d' hd'
 match q, hd' with
 | 0, hd' =>
  have e : datSym [113, 117, 111, 116, 101] = d' := Option.some.inj hd'
  subst e
  exact ⟨none, 0, hcell 0 _ rfl, hcell 1 _ rfl, hcell 2 _ rfl, hcell 3 _ rfl, hcell 4 _ rfl, hcell 5 _ rfl, by show (5 : Nat) ≤ maxLen; unfold maxLen; omega, Dw.nil _ _ _ _ _⟩
 | 1, hd' =>
  have e : d = d' := Option.some.inj hd'
  subst e
  refine ⟨a, cap, hcell 6 _ rfl, hcell 7 _ rfl, hcell 8 _ rfl, hcell 9 _ rfl, hcell 10 _ rfl, hcell 11 _ rfl, by have := HNM.out d j m rfl; unfold maxLen; omega, ?_⟩
  refine Dw.stay ?_ ?_ f _ _ _ H7.out.2.2
  ·intro k hk
   have hk1 := hk.1
   exact (hh.1 k (by omega)).trans (HB8.out k hk.2)
  intro k hk
  have hk1 := hk.1
  have hk2 := hk.2
  exact ⟨by omega, by rw [hh.2]; omega⟩
 | q + 2, hd' => simp [datQuote, datList] at hd'
end Go.Proofs.YtonafbennobgdaaGreatDoor.R1
