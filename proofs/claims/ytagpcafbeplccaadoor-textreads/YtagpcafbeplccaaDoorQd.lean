/- The document's reader: One, truths. -/
import Derived.Test.YtagpcafbeplccaaDoorQc
import Derived.StillTail
namespace Go.Proofs.YtagpcafbeplccaaDoor
set_option linter.unusedVariables false
set_option linter.unusedSimpArgs false
open Go.RowKit

theorem byteL_none {l : List UInt8} {i : Nat} (h : l.length ≤ i) : byteL (l.drop i) = [] := by
  rw [List.drop_of_length_le h]; rfl

theorem byteL_at {l : List UInt8} {i : Nat} {c : UInt8} (h : l[i]? = some c) : byteL (l.drop i) = if letB (c.toNat : Int) then c :: byteL (l.drop (i + 1)) else [] := by
  rw [drop_cons h, byteL_cons]

theorem index_at (s : ByteArray) (k : Nat) (v : Int) (hv : v = (k : Int)) (hk : k < s.size) (w : World) : (Instr.index 9 (.string s) (.int .i64 v)).run Tryd.prog w = .ok (.int .u8 (s[k].toNat : Int)) w := by
  subst hv
  simp [Instr.index, run_underlying Tryd.underlying9, go_sem, hk]

theorem get_at (s : ByteArray) (k : Nat) (v : Int) (hv : v = (k : Int)) (hk : k < s.size) : s[v.toNat]? = some s[k] := by
  subst hv
  simp [hk]

theorem index_lit (s : ByteArray) (k : Nat) (v c : Int) (hv : v = (k : Int)) (hk : k < s.size) (hc : (s[k].toNat : Int) = c) (w : World) : (Instr.index 9 (.string s) (.int .i64 v)).run Tryd.prog w = .ok (.int .u8 c) w := by
  rw [index_at s k v hv hk w, hc]

theorem still_of_quiet {P : Program} {ops : Array Oper} {W : World} {Q : Act → Prop} : ∀ (l : List Oper) (a : Act), wpQuiet P ops (fun w' => w' = W) Q l a → wpStill P ops W Q l a
  | [], _, h => h
  | o :: rest, a, h => by
    unfold wpQuiet at h
    unfold wpStill
    by_cases hw : Region.wanted o (yielded ops a.tmps) = true
    · rw [if_pos hw] at h ⊢
      obtain ⟨v, h1, h2⟩ := h
      have h3 := h1 W rfl
      have h4 := still_of_quiet rest _ h2
      unfold Oper.quietAt at h3
      unfold Oper.still
      generalize (execOp a.eval o).run P W = r at h3
      unfold Oper.quietUpon at h3
      unfold Oper.stillUpon
      split at h3
      · obtain ⟨rfl, rfl⟩ := h3; exact ⟨rfl, h4⟩
      · obtain ⟨rfl, rfl⟩ := h3; exact ⟨rfl, h4⟩
      · obtain ⟨rfl, h5⟩ := h3; exact ⟨rfl, v, h5, h4⟩
      · exact h3.elim
    · rw [if_neg hw] at h ⊢
      exact still_of_quiet rest _ h

/-- A region that draws its order, whose first operations only read and whose others wait for them all. -/
theorem wp_region_quiet_tail {P : Program} {id : Nat} {Q : Exit → Act → World → Prop} {a : Act} {w : World} {l : List Oper} (n : Nat) (hm : P.follows .mixedOrders = true) (hB : Region.lexTailB .any l.toArray n = true)
    (h : wpQuiet P l.toArray (fun w' => w' = w.drew) (fun a' => wpList P l.toArray Q (l.drop n) a' w.drew) (l.take n) a) : (Code.region id l.toArray true).wp P Q a w :=
  wp_region_still_tail n hm hB (still_of_quiet _ _ h)

/-- A truth, or none. -/
def hashAt (b : List UInt8) (i n : Nat) : Rd Dat :=
  if b = [116] then .inr (datBool 1, i + 2, n + 1) else if b = [102] then .inr (datBool 0, i + 2, n + 1) else .inl (2, (i : Int))

set_option maxRecDepth 100000 in
set_option maxHeartbeats 1600000 in
theorem One_hash0 (rb : Nat) (s : ByteArray) (i n : Nat) (dp : Int) (w : World) (h : Wk rb s i n (0, 0) w) (hi : i < s.size) (hs : s.size ≤ 6000) (hn : n ≤ 1999) (hd : dp ≤ 40) (h35 : s[i] = 35) (hx : s.size = i + 1) :
    Calls Tryd.prog 23 #[.pointer (some ⟨rb, 0, none⟩), .int .i64 dp] w (OutW rb s (.inl (2, (i : Int))) w) := by
  have e40 : ((s[i].toNat : Int) == 40) = false := by rw [h35]; rfl
  have e39 : ((s[i].toNat : Int) == 39) = false := by rw [h35]; rfl
  have e35 : ((s[i].toNat : Int) == 35) = true := by rw [h35]; rfl
  clear h35
  have HKN : Hid (decide ((i : Int) + 1 + 1 ≤ (s.size : Int)) = false) := decide_eq_false (by omega)
  clear hx
  have HR : Hid (Wk rb s i n (0, 0) w) := h
  have c1 := h.c1
  have l1 := h.lt
  have hN : w.heap.size ≠ rb := Nat.ne_of_gt l1
  clear h
  go_enter Tryd.func23, Tryd.ntmps23
  go_wp2_with fail
  refine (rcount_ok rb s i n dp i _ (HR.out.alloc _) hn hd).mono ?_
  rintro e w1 ⟨rfl, hk1, hr1⟩
  have H1 : Hid (Hd rb s i (n + 1) w w1) := ⟨((Keep.refl rb w).alloc _).trans hk1, hr1, (Six.made w).keep hk1 hN⟩
  clear hk1 hr1 c1 HR
  go_wp2_with fail
  refine (good_yes rb s i (n + 1) _ H1.out.wk).mono ?_
  rintro e w2 ⟨rfl, rfl⟩
  have c0 := H1.out.wk.c0
  have c1 := H1.out.wk.c1
  have z1 := H1.out.wk.z 1
  go_wp2_with fail
  have hq0 := HKN.out
  go_quiet (fail)
  clear hq0
  go_wp2_with fail
  have HD : Hd rb s (i + 1) (n + 1) w ((w2.setCell ⟨rb, 1, none⟩ (.int .i64 ((i : Int) + 1))).drewN nq) := (H1.out.move hN (i + 1) _ (by omega)).drewN nq
  have HSW := HD.wk
  have HSS := HD.six
  have HSK := HD.keep
  clear HD H1 c0 c1 z1
  refine (stop_any rb s (i + 1) (n + 1) 2 i _ HSW).mono ?_
  rintro e w4 ⟨rfl, hk4, hr4⟩
  obtain ⟨x0, x1, x2, x3, x4, x5, x6, x7⟩ := HSS.keep hk4 hN
  have H4 : Hid (Keep rb w w4 ∧ Wk rb s (i + 1) (n + 1) (2, (i : Int)) w4) := ⟨HSK.trans hk4, hr4⟩
  clear hk4 hr4 HSW HSS HSK
  go_wp2_with fail
  refine bodyPost_ret (v := dv dat0 none 0) (by simp [results, Tryd.results23, go_sem, dv, dat0, x1, x2, x3, x4, x5, x6]) rfl ?_
  exact ⟨keep_six H4.out.1 (Nat.le_refl _) _ _ _ _ _ _, dat0, none, 0, rfl, i + 1, n + 1, hi, H4.out.2.six hN _ _ _ _ _ _⟩

set_option maxRecDepth 100000 in
set_option maxHeartbeats 1600000 in
theorem One_hash1 (rb : Nat) (s : ByteArray) (i n : Nat) (dp : Int) (w : World) (h : Wk rb s i n (0, 0) w) (hi : i < s.size) (hs : s.size ≤ 6000) (hn : n ≤ 1999) (hd : dp ≤ 40) (h35 : s[i] = 35) (hx : i + 1 < s.size) (h1 : s[i + 1] ≠ 116) (h2 : s[i + 1] ≠ 102) :
    Calls Tryd.prog 23 #[.pointer (some ⟨rb, 0, none⟩), .int .i64 dp] w (OutW rb s (.inl (2, (i : Int))) w) := by
  have e40 : ((s[i].toNat : Int) == 40) = false := by rw [h35]; rfl
  have e39 : ((s[i].toNat : Int) == 39) = false := by rw [h35]; rfl
  have e35 : ((s[i].toNat : Int) == 35) = true := by rw [h35]; rfl
  clear h35
  have HKN : Hid (decide ((i : Int) + 1 + 1 ≤ (s.size : Int)) = true) := decide_eq_true (by omega)
  have F1 : Hid (((s[i + 1].toNat : Int) == 116) = false) := by show ((s[i + 1].toNat : Int) == 116) = false; rw [show ((116 : Int)) = ((116 : UInt8).toNat : Int) from rfl, byte_is]; simpa using h1
  have F2 : Hid (((s[i + 1].toNat : Int) == 102) = false) := by show ((s[i + 1].toNat : Int) == 102) = false; rw [show ((102 : Int)) = ((102 : UInt8).toNat : Int) from rfl, byte_is]; simpa using h2
  clear h1 h2
  have HR : Hid (Wk rb s i n (0, 0) w) := h
  have c1 := h.c1
  have l1 := h.lt
  have hN : w.heap.size ≠ rb := Nat.ne_of_gt l1
  clear h
  go_enter Tryd.func23, Tryd.ntmps23
  go_wp2_with fail
  refine (rcount_ok rb s i n dp i _ (HR.out.alloc _) hn hd).mono ?_
  rintro e w1 ⟨rfl, hk1, hr1⟩
  have H1 : Hid (Hd rb s i (n + 1) w w1) := ⟨((Keep.refl rb w).alloc _).trans hk1, hr1, (Six.made w).keep hk1 hN⟩
  clear hk1 hr1 c1 HR
  go_wp2_with fail
  refine (good_yes rb s i (n + 1) _ H1.out.wk).mono ?_
  rintro e w2 ⟨rfl, rfl⟩
  have c0 := H1.out.wk.c0
  have c1 := H1.out.wk.c1
  have z1 := H1.out.wk.z 1
  go_wp2_with fail
  have hq0 := HKN.out
  have hq1 := F1.out
  have hq2 := F2.out
  have hq3 := get_at s (i + 1) ((i : Int) + 1) (by omega) hx
  have hq4 := (show (0 : Int) ≤ (i : Int) + 1 by omega)
  have hq5 := fun w => index_at s (i + 1) ((i : Int) + 1) (by omega) hx w
  go_quiet (fail)
  clear hq0 hq1 hq2 hq3 hq4 hq5
  go_wp2_with fail
  have HD : Hd rb s (i + 1) (n + 1) w ((w2.setCell ⟨rb, 1, none⟩ (.int .i64 ((i : Int) + 1))).drewN nq) := (H1.out.move hN (i + 1) _ (by omega)).drewN nq
  have HSW := HD.wk
  have HSS := HD.six
  have HSK := HD.keep
  clear HD H1 c0 c1 z1
  refine (stop_any rb s (i + 1) (n + 1) 2 i _ HSW).mono ?_
  rintro e w4 ⟨rfl, hk4, hr4⟩
  obtain ⟨x0, x1, x2, x3, x4, x5, x6, x7⟩ := HSS.keep hk4 hN
  have H4 : Hid (Keep rb w w4 ∧ Wk rb s (i + 1) (n + 1) (2, (i : Int)) w4) := ⟨HSK.trans hk4, hr4⟩
  clear hk4 hr4 HSW HSS HSK
  go_wp2_with fail
  refine bodyPost_ret (v := dv dat0 none 0) (by simp [results, Tryd.results23, go_sem, dv, dat0, x1, x2, x3, x4, x5, x6]) rfl ?_
  exact ⟨keep_six H4.out.1 (Nat.le_refl _) _ _ _ _ _ _, dat0, none, 0, rfl, i + 1, n + 1, hi, H4.out.2.six hN _ _ _ _ _ _⟩

set_option maxRecDepth 100000 in
set_option maxHeartbeats 1600000 in
theorem One_true_end (rb : Nat) (s : ByteArray) (i n : Nat) (dp : Int) (w : World) (h : Wk rb s i n (0, 0) w) (hi : i < s.size) (hs : s.size ≤ 6000) (hn : n ≤ 1999) (hd : dp ≤ 40) (h35 : s[i] = 35) (hx : i + 1 < s.size) (h1 : s[i + 1] = 116) (hx2 : s.size = i + 2) :
    Calls Tryd.prog 23 #[.pointer (some ⟨rb, 0, none⟩), .int .i64 dp] w (OutW rb s (.inr (datBool 1, i + 2, n + 1)) w) := by
  have e40 : ((s[i].toNat : Int) == 40) = false := by rw [h35]; rfl
  have e39 : ((s[i].toNat : Int) == 39) = false := by rw [h35]; rfl
  have e35 : ((s[i].toNat : Int) == 35) = true := by rw [h35]; rfl
  clear h35
  have HKN : Hid (decide ((i : Int) + 1 + 1 ≤ (s.size : Int)) = true) := decide_eq_true (by omega)
  have F1 : Hid (((s[i + 1].toNat : Int) == 116) = true) := by show ((s[i + 1].toNat : Int) == 116) = true; rw [h1]; rfl
  have F2 : Hid (((s[i + 1].toNat : Int) == 102) = false) := by show ((s[i + 1].toNat : Int) == 102) = false; rw [h1]; rfl
  have F3 : Hid (((i : Int) + 1 + 1 == (s.size : Int)) = true) := by show ((i : Int) + 1 + 1 == (s.size : Int)) = true; simp; omega
  clear h1 hx2
  have HR : Hid (Wk rb s i n (0, 0) w) := h
  have c1 := h.c1
  have l1 := h.lt
  have hN : w.heap.size ≠ rb := Nat.ne_of_gt l1
  clear h
  go_enter Tryd.func23, Tryd.ntmps23
  go_wp2_with fail
  refine (rcount_ok rb s i n dp i _ (HR.out.alloc _) hn hd).mono ?_
  rintro e w1 ⟨rfl, hk1, hr1⟩
  have H1 : Hid (Hd rb s i (n + 1) w w1) := ⟨((Keep.refl rb w).alloc _).trans hk1, hr1, (Six.made w).keep hk1 hN⟩
  clear hk1 hr1 c1 HR
  go_wp2_with fail
  refine (good_yes rb s i (n + 1) _ H1.out.wk).mono ?_
  rintro e w2 ⟨rfl, rfl⟩
  have c0 := H1.out.wk.c0
  have c1 := H1.out.wk.c1
  have z1 := H1.out.wk.z 1
  go_wp2_with fail
  have hq0 := HKN.out
  have hq1 := F1.out
  have hq2 := F2.out
  have hq3 := F3.out
  have hq4 := get_at s (i + 1) ((i : Int) + 1) (by omega) hx
  have hq5 := (show (0 : Int) ≤ (i : Int) + 1 by omega)
  have hq6 := fun w => index_at s (i + 1) ((i : Int) + 1) (by omega) hx w
  go_quiet (fail)
  clear hq0 hq1 hq2 hq3 hq4 hq5 hq6
  have HD : Hid (Hd rb s (i + 1) (n + 1) w ((w2.setCell ⟨rb, 1, none⟩ (.int .i64 ((i : Int) + 1))).drewN nq)) := (H1.out.move hN (i + 1) _ (by omega)).drewN nq
  clear H1 c0 c1 z1
  generalize ((w2.setCell ⟨rb, 1, none⟩ (.int .i64 ((i : Int) + 1))).drewN nq) = w3 at HD ⊢
  have c0 := HD.out.wk.c0
  have c1 := HD.out.wk.c1
  have z1 := HD.out.wk.z 1
  have HD2 : Hid (Hd rb s (i + 2) (n + 1) w (w3.setCell ⟨rb, 1, none⟩ (.int .i64 ((i : Int) + 1 + 1)))) := HD.out.move hN (i + 2) _ (by omega)
  obtain ⟨x0, x1, x2, x3, x4, x5, x6, x7⟩ := HD2.out.six
  have d0 := HD2.out.wk.c0
  have hg1 := get_at s (i + 1) ((i : Int) + 1) (by omega) hx
  have hg2 := fun w => index_at s (i + 1) ((i : Int) + 1) (by omega) hx w
  have hg3 := F1.out
  clear HD
  go_wp2_with fail
  refine bodyPost_ret (v := dv (datBool 1) none 0) (by simp [results, Tryd.results23, go_sem, dv, datBool, x1, x2, x3, x4, x5, x6]) rfl ?_
  exact ⟨keep_six HD2.out.keep (Nat.le_refl _) _ _ _ _ _ _, HD2.out.wk.six hN _ _ _ _ _ _, none, 0, 0, rfl, rfl⟩

set_option maxRecDepth 100000 in
set_option maxHeartbeats 1600000 in
theorem One_false_end (rb : Nat) (s : ByteArray) (i n : Nat) (dp : Int) (w : World) (h : Wk rb s i n (0, 0) w) (hi : i < s.size) (hs : s.size ≤ 6000) (hn : n ≤ 1999) (hd : dp ≤ 40) (h35 : s[i] = 35) (hx : i + 1 < s.size) (h1 : s[i + 1] = 102) (hx2 : s.size = i + 2) :
    Calls Tryd.prog 23 #[.pointer (some ⟨rb, 0, none⟩), .int .i64 dp] w (OutW rb s (.inr (datBool 0, i + 2, n + 1)) w) := by
  have e40 : ((s[i].toNat : Int) == 40) = false := by rw [h35]; rfl
  have e39 : ((s[i].toNat : Int) == 39) = false := by rw [h35]; rfl
  have e35 : ((s[i].toNat : Int) == 35) = true := by rw [h35]; rfl
  clear h35
  have HKN : Hid (decide ((i : Int) + 1 + 1 ≤ (s.size : Int)) = true) := decide_eq_true (by omega)
  have F1 : Hid (((s[i + 1].toNat : Int) == 116) = false) := by show ((s[i + 1].toNat : Int) == 116) = false; rw [h1]; rfl
  have F2 : Hid (((s[i + 1].toNat : Int) == 102) = true) := by show ((s[i + 1].toNat : Int) == 102) = true; rw [h1]; rfl
  have F3 : Hid (((i : Int) + 1 + 1 == (s.size : Int)) = true) := by show ((i : Int) + 1 + 1 == (s.size : Int)) = true; simp; omega
  clear h1 hx2
  have HR : Hid (Wk rb s i n (0, 0) w) := h
  have c1 := h.c1
  have l1 := h.lt
  have hN : w.heap.size ≠ rb := Nat.ne_of_gt l1
  clear h
  go_enter Tryd.func23, Tryd.ntmps23
  go_wp2_with fail
  refine (rcount_ok rb s i n dp i _ (HR.out.alloc _) hn hd).mono ?_
  rintro e w1 ⟨rfl, hk1, hr1⟩
  have H1 : Hid (Hd rb s i (n + 1) w w1) := ⟨((Keep.refl rb w).alloc _).trans hk1, hr1, (Six.made w).keep hk1 hN⟩
  clear hk1 hr1 c1 HR
  go_wp2_with fail
  refine (good_yes rb s i (n + 1) _ H1.out.wk).mono ?_
  rintro e w2 ⟨rfl, rfl⟩
  have c0 := H1.out.wk.c0
  have c1 := H1.out.wk.c1
  have z1 := H1.out.wk.z 1
  go_wp2_with fail
  have hq0 := HKN.out
  have hq1 := F1.out
  have hq2 := F2.out
  have hq3 := F3.out
  have hq4 := get_at s (i + 1) ((i : Int) + 1) (by omega) hx
  have hq5 := (show (0 : Int) ≤ (i : Int) + 1 by omega)
  have hq6 := fun w => index_at s (i + 1) ((i : Int) + 1) (by omega) hx w
  go_quiet (fail)
  clear hq0 hq1 hq2 hq3 hq4 hq5 hq6
  have HD : Hid (Hd rb s (i + 1) (n + 1) w ((w2.setCell ⟨rb, 1, none⟩ (.int .i64 ((i : Int) + 1))).drewN nq)) := (H1.out.move hN (i + 1) _ (by omega)).drewN nq
  clear H1 c0 c1 z1
  generalize ((w2.setCell ⟨rb, 1, none⟩ (.int .i64 ((i : Int) + 1))).drewN nq) = w3 at HD ⊢
  have c0 := HD.out.wk.c0
  have c1 := HD.out.wk.c1
  have z1 := HD.out.wk.z 1
  have HD2 : Hid (Hd rb s (i + 2) (n + 1) w (w3.setCell ⟨rb, 1, none⟩ (.int .i64 ((i : Int) + 1 + 1)))) := HD.out.move hN (i + 2) _ (by omega)
  obtain ⟨x0, x1, x2, x3, x4, x5, x6, x7⟩ := HD2.out.six
  have d0 := HD2.out.wk.c0
  have hg1 := get_at s (i + 1) ((i : Int) + 1) (by omega) hx
  have hg2 := fun w => index_at s (i + 1) ((i : Int) + 1) (by omega) hx w
  have hg3 := F1.out
  clear HD
  go_wp2_with fail
  refine bodyPost_ret (v := dv (datBool 0) none 0) (by simp [results, Tryd.results23, go_sem, dv, datBool, x1, x2, x3, x4, x5, x6]) rfl ?_
  exact ⟨keep_six HD2.out.keep (Nat.le_refl _) _ _ _ _ _ _, HD2.out.wk.six hN _ _ _ _ _ _, none, 0, 0, rfl, rfl⟩

set_option maxRecDepth 100000 in
set_option maxHeartbeats 1600000 in
theorem One_true (rb : Nat) (s : ByteArray) (i n : Nat) (dp : Int) (w : World) (h : Wk rb s i n (0, 0) w) (hi : i < s.size) (hs : s.size ≤ 6000) (hn : n ≤ 1999) (hd : dp ≤ 40) (h35 : s[i] = 35) (hx : i + 1 < s.size) (h1 : s[i + 1] = 116) (hx2 : i + 2 < s.size) (hl : letB (s[i + 2].toNat : Int) = false) :
    Calls Tryd.prog 23 #[.pointer (some ⟨rb, 0, none⟩), .int .i64 dp] w (OutW rb s (.inr (datBool 1, i + 2, n + 1)) w) := by
  have e40 : ((s[i].toNat : Int) == 40) = false := by rw [h35]; rfl
  have e39 : ((s[i].toNat : Int) == 39) = false := by rw [h35]; rfl
  have e35 : ((s[i].toNat : Int) == 35) = true := by rw [h35]; rfl
  clear h35
  have HKN : Hid (decide ((i : Int) + 1 + 1 ≤ (s.size : Int)) = true) := decide_eq_true (by omega)
  have F1 : Hid (((s[i + 1].toNat : Int) == 116) = true) := by show ((s[i + 1].toNat : Int) == 116) = true; rw [h1]; rfl
  have F2 : Hid (((s[i + 1].toNat : Int) == 102) = false) := by show ((s[i + 1].toNat : Int) == 102) = false; rw [h1]; rfl
  have F3 : Hid (((i : Int) + 1 + 1 == (s.size : Int)) = false) := by show ((i : Int) + 1 + 1 == (s.size : Int)) = false; simp; omega
  have LT : Hid (∀ w, Calls Tryd.prog 27 #[.int .u8 (s[i + 2].toNat : Int)] w fun e w' => e = .returned (.bool false) ∧ Below w.heap.size w w') := fun w => by
    have := letter_is s[i + 2] w
    rw [hl] at this
    exact this
  clear hl
  have HL1 : Hid ((s[i + 1].toNat : Int) = 116) := by show (s[i + 1].toNat : Int) = 116; rw [h1]; rfl
  have HG1 : Hid (s[((i : Int) + 1).toNat]? = some 116) := by rw [get_at s (i + 1) ((i : Int) + 1) (by omega) hx, h1]; exact rfl
  clear h1
  have HR : Hid (Wk rb s i n (0, 0) w) := h
  have c1 := h.c1
  have l1 := h.lt
  have hN : w.heap.size ≠ rb := Nat.ne_of_gt l1
  clear h
  go_enter Tryd.func23, Tryd.ntmps23
  go_wp2_with fail
  refine (rcount_ok rb s i n dp i _ (HR.out.alloc _) hn hd).mono ?_
  rintro e w1 ⟨rfl, hk1, hr1⟩
  have H1 : Hid (Hd rb s i (n + 1) w w1) := ⟨((Keep.refl rb w).alloc _).trans hk1, hr1, (Six.made w).keep hk1 hN⟩
  clear hk1 hr1 c1 HR
  go_wp2_with fail
  refine (good_yes rb s i (n + 1) _ H1.out.wk).mono ?_
  rintro e w2 ⟨rfl, rfl⟩
  have c0 := H1.out.wk.c0
  have c1 := H1.out.wk.c1
  have z1 := H1.out.wk.z 1
  go_wp2_with fail
  have hq0 := HKN.out
  have hq1 := F1.out
  have hq2 := F3.out
  have hq3 := F2.out
  have hq4 := get_at s (i + 1) ((i : Int) + 1) (by omega) hx
  have hq5 := fun w => index_at s (i + 1) ((i : Int) + 1) (by omega) hx w
  have hq6 := get_at s (i + 2) ((i : Int) + 1 + 1) (by omega) hx2
  have hq7 := fun w => index_at s (i + 2) ((i : Int) + 1 + 1) (by omega) hx2 w
  have hq8 : (0 : Int) ≤ (i : Int) + 1 := by omega
  refine wp_region_quiet_tail 46 (by kernel_rfl) (by kernel_rfl) ?_
  simp only [List.take_succ_cons, List.take_zero, List.drop_succ_cons, List.drop_zero]
  repeat (go_big_quiet_step (fail))
  refine wpQuiet_nil ?_
  clear hq0 hq1 hq2 hq3 hq4 hq5 hq6 hq7 hq8
  go_wp2_with fail
  refine (LT.out _).mono ?_
  rintro e w3 ⟨rfl, hb3⟩
  have HD : Hid (Hd rb s (i + 1) (n + 1) w w3) := ((H1.out.move hN (i + 1) ((i : Int) + 1) (by omega)).more (Below.drew (Below.refl _ _))).more hb3
  clear hb3 H1 c0 c1 z1 LT
  have c0 := HD.out.wk.c0
  have c1 := HD.out.wk.c1
  have z1 := HD.out.wk.z 1
  have HD2 : Hid (Hd rb s (i + 2) (n + 1) w (w3.setCell ⟨rb, 1, none⟩ (.int .i64 ((i : Int) + 1 + 1)))) := HD.out.move hN (i + 2) _ (by omega)
  obtain ⟨x0, x1, x2, x3, x4, x5, x6, x7⟩ := HD2.out.six
  have d0 := HD2.out.wk.c0
  have hg1 := get_at s (i + 1) ((i : Int) + 1) (by omega) hx
  have hg2 := fun w => index_at s (i + 1) ((i : Int) + 1) (by omega) hx w
  have hg3 := F1.out
  clear HD
  go_wp2_with fail
  refine bodyPost_ret (v := dv (datBool 1) none 0) (by simp [results, Tryd.results23, go_sem, dv, datBool, x1, x2, x3, x4, x5, x6]) rfl ?_
  exact ⟨keep_six HD2.out.keep (Nat.le_refl _) _ _ _ _ _ _, HD2.out.wk.six hN _ _ _ _ _ _, none, 0, 0, rfl, rfl⟩

set_option maxRecDepth 100000 in
set_option maxHeartbeats 1600000 in
theorem One_false (rb : Nat) (s : ByteArray) (i n : Nat) (dp : Int) (w : World) (h : Wk rb s i n (0, 0) w) (hi : i < s.size) (hs : s.size ≤ 6000) (hn : n ≤ 1999) (hd : dp ≤ 40) (h35 : s[i] = 35) (hx : i + 1 < s.size) (h1 : s[i + 1] = 102) (hx2 : i + 2 < s.size) (hl : letB (s[i + 2].toNat : Int) = false) :
    Calls Tryd.prog 23 #[.pointer (some ⟨rb, 0, none⟩), .int .i64 dp] w (OutW rb s (.inr (datBool 0, i + 2, n + 1)) w) := by
  have e40 : ((s[i].toNat : Int) == 40) = false := by rw [h35]; rfl
  have e39 : ((s[i].toNat : Int) == 39) = false := by rw [h35]; rfl
  have e35 : ((s[i].toNat : Int) == 35) = true := by rw [h35]; rfl
  clear h35
  have HKN : Hid (decide ((i : Int) + 1 + 1 ≤ (s.size : Int)) = true) := decide_eq_true (by omega)
  have F1 : Hid (((s[i + 1].toNat : Int) == 116) = false) := by show ((s[i + 1].toNat : Int) == 116) = false; rw [h1]; rfl
  have F2 : Hid (((s[i + 1].toNat : Int) == 102) = true) := by show ((s[i + 1].toNat : Int) == 102) = true; rw [h1]; rfl
  have F3 : Hid (((i : Int) + 1 + 1 == (s.size : Int)) = false) := by show ((i : Int) + 1 + 1 == (s.size : Int)) = false; simp; omega
  have LT : Hid (∀ w, Calls Tryd.prog 27 #[.int .u8 (s[i + 2].toNat : Int)] w fun e w' => e = .returned (.bool false) ∧ Below w.heap.size w w') := fun w => by
    have := letter_is s[i + 2] w
    rw [hl] at this
    exact this
  clear hl
  have HL1 : Hid ((s[i + 1].toNat : Int) = 102) := by show (s[i + 1].toNat : Int) = 102; rw [h1]; rfl
  have HG1 : Hid (s[((i : Int) + 1).toNat]? = some 102) := by rw [get_at s (i + 1) ((i : Int) + 1) (by omega) hx, h1]; exact rfl
  clear h1
  have HR : Hid (Wk rb s i n (0, 0) w) := h
  have c1 := h.c1
  have l1 := h.lt
  have hN : w.heap.size ≠ rb := Nat.ne_of_gt l1
  clear h
  go_enter Tryd.func23, Tryd.ntmps23
  go_wp2_with fail
  refine (rcount_ok rb s i n dp i _ (HR.out.alloc _) hn hd).mono ?_
  rintro e w1 ⟨rfl, hk1, hr1⟩
  have H1 : Hid (Hd rb s i (n + 1) w w1) := ⟨((Keep.refl rb w).alloc _).trans hk1, hr1, (Six.made w).keep hk1 hN⟩
  clear hk1 hr1 c1 HR
  go_wp2_with fail
  refine (good_yes rb s i (n + 1) _ H1.out.wk).mono ?_
  rintro e w2 ⟨rfl, rfl⟩
  have c0 := H1.out.wk.c0
  have c1 := H1.out.wk.c1
  have z1 := H1.out.wk.z 1
  go_wp2_with fail
  have hq0 := HKN.out
  have hq1 := F1.out
  have hq2 := F3.out
  have hq3 := F2.out
  have hq4 := get_at s (i + 1) ((i : Int) + 1) (by omega) hx
  have hq5 := fun w => index_at s (i + 1) ((i : Int) + 1) (by omega) hx w
  have hq6 := get_at s (i + 2) ((i : Int) + 1 + 1) (by omega) hx2
  have hq7 := fun w => index_at s (i + 2) ((i : Int) + 1 + 1) (by omega) hx2 w
  have hq8 : (0 : Int) ≤ (i : Int) + 1 := by omega
  refine wp_region_quiet_tail 46 (by kernel_rfl) (by kernel_rfl) ?_
  simp only [List.take_succ_cons, List.take_zero, List.drop_succ_cons, List.drop_zero]
  repeat (go_big_quiet_step (fail))
  refine wpQuiet_nil ?_
  clear hq0 hq1 hq2 hq3 hq4 hq5 hq6 hq7 hq8
  go_wp2_with fail
  refine (LT.out _).mono ?_
  rintro e w3 ⟨rfl, hb3⟩
  have HD : Hid (Hd rb s (i + 1) (n + 1) w w3) := ((H1.out.move hN (i + 1) ((i : Int) + 1) (by omega)).more (Below.drew (Below.refl _ _))).more hb3
  clear hb3 H1 c0 c1 z1 LT
  have c0 := HD.out.wk.c0
  have c1 := HD.out.wk.c1
  have z1 := HD.out.wk.z 1
  have HD2 : Hid (Hd rb s (i + 2) (n + 1) w (w3.setCell ⟨rb, 1, none⟩ (.int .i64 ((i : Int) + 1 + 1)))) := HD.out.move hN (i + 2) _ (by omega)
  obtain ⟨x0, x1, x2, x3, x4, x5, x6, x7⟩ := HD2.out.six
  have d0 := HD2.out.wk.c0
  have hg1 := get_at s (i + 1) ((i : Int) + 1) (by omega) hx
  have hg2 := fun w => index_at s (i + 1) ((i : Int) + 1) (by omega) hx w
  have hg3 := F1.out
  clear HD
  go_wp2_with fail
  refine bodyPost_ret (v := dv (datBool 0) none 0) (by simp [results, Tryd.results23, go_sem, dv, datBool, x1, x2, x3, x4, x5, x6]) rfl ?_
  exact ⟨keep_six HD2.out.keep (Nat.le_refl _) _ _ _ _ _ _, HD2.out.wk.six hN _ _ _ _ _ _, none, 0, 0, rfl, rfl⟩

set_option maxRecDepth 100000 in
set_option maxHeartbeats 1600000 in
theorem One_t_more (rb : Nat) (s : ByteArray) (i n : Nat) (dp : Int) (w : World) (h : Wk rb s i n (0, 0) w) (hi : i < s.size) (hs : s.size ≤ 6000) (hn : n ≤ 1999) (hd : dp ≤ 40) (h35 : s[i] = 35) (hx : i + 1 < s.size) (h1 : s[i + 1] = 116) (hx2 : i + 2 < s.size) (hl : letB (s[i + 2].toNat : Int) = true) :
    Calls Tryd.prog 23 #[.pointer (some ⟨rb, 0, none⟩), .int .i64 dp] w (OutW rb s (.inl (2, (i : Int))) w) := by
  have e40 : ((s[i].toNat : Int) == 40) = false := by rw [h35]; rfl
  have e39 : ((s[i].toNat : Int) == 39) = false := by rw [h35]; rfl
  have e35 : ((s[i].toNat : Int) == 35) = true := by rw [h35]; rfl
  clear h35
  have HKN : Hid (decide ((i : Int) + 1 + 1 ≤ (s.size : Int)) = true) := decide_eq_true (by omega)
  have F1 : Hid (((s[i + 1].toNat : Int) == 116) = true) := by show ((s[i + 1].toNat : Int) == 116) = true; rw [h1]; rfl
  have F2 : Hid (((s[i + 1].toNat : Int) == 102) = false) := by show ((s[i + 1].toNat : Int) == 102) = false; rw [h1]; rfl
  have F3 : Hid (((i : Int) + 1 + 1 == (s.size : Int)) = false) := by show ((i : Int) + 1 + 1 == (s.size : Int)) = false; simp; omega
  have LT : Hid (∀ w, Calls Tryd.prog 27 #[.int .u8 (s[i + 2].toNat : Int)] w fun e w' => e = .returned (.bool true) ∧ Below w.heap.size w w') := fun w => by
    have := letter_is s[i + 2] w
    rw [hl] at this
    exact this
  clear hl
  have HL1 : Hid ((s[i + 1].toNat : Int) = 116) := by show (s[i + 1].toNat : Int) = 116; rw [h1]; rfl
  have HG1 : Hid (s[((i : Int) + 1).toNat]? = some 116) := by rw [get_at s (i + 1) ((i : Int) + 1) (by omega) hx, h1]; exact rfl
  clear h1
  have HR : Hid (Wk rb s i n (0, 0) w) := h
  have c1 := h.c1
  have l1 := h.lt
  have hN : w.heap.size ≠ rb := Nat.ne_of_gt l1
  clear h
  go_enter Tryd.func23, Tryd.ntmps23
  go_wp2_with fail
  refine (rcount_ok rb s i n dp i _ (HR.out.alloc _) hn hd).mono ?_
  rintro e w1 ⟨rfl, hk1, hr1⟩
  have H1 : Hid (Hd rb s i (n + 1) w w1) := ⟨((Keep.refl rb w).alloc _).trans hk1, hr1, (Six.made w).keep hk1 hN⟩
  clear hk1 hr1 c1 HR
  go_wp2_with fail
  refine (good_yes rb s i (n + 1) _ H1.out.wk).mono ?_
  rintro e w2 ⟨rfl, rfl⟩
  have c0 := H1.out.wk.c0
  have c1 := H1.out.wk.c1
  have z1 := H1.out.wk.z 1
  go_wp2_with fail
  have hq0 := HKN.out
  have hq1 := F1.out
  have hq2 := F3.out
  have hq3 := F2.out
  have hq4 := get_at s (i + 1) ((i : Int) + 1) (by omega) hx
  have hq5 := fun w => index_at s (i + 1) ((i : Int) + 1) (by omega) hx w
  have hq6 := get_at s (i + 2) ((i : Int) + 1 + 1) (by omega) hx2
  have hq7 := fun w => index_at s (i + 2) ((i : Int) + 1 + 1) (by omega) hx2 w
  have hq8 : (0 : Int) ≤ (i : Int) + 1 := by omega
  refine wp_region_quiet_tail 46 (by kernel_rfl) (by kernel_rfl) ?_
  simp only [List.take_succ_cons, List.take_zero, List.drop_succ_cons, List.drop_zero]
  repeat (go_big_quiet_step (fail))
  refine wpQuiet_nil ?_
  clear hq0 hq1 hq2 hq3 hq4 hq5 hq6 hq7 hq8
  go_wp2_with fail
  refine (LT.out _).mono ?_
  rintro e w3 ⟨rfl, hb3⟩
  have HD : Hid (Hd rb s (i + 1) (n + 1) w w3) := ((H1.out.move hN (i + 1) ((i : Int) + 1) (by omega)).more (Below.drew (Below.refl _ _))).more hb3
  clear hb3 H1 c0 c1 z1 LT
  go_wp2_with fail
  have HSW := HD.out.wk
  have HSS := HD.out.six
  have HSK := HD.out.keep
  clear HD
  refine (stop_any rb s (i + 1) (n + 1) 2 i _ HSW).mono ?_
  rintro e w4 ⟨rfl, hk4, hr4⟩
  obtain ⟨x0, x1, x2, x3, x4, x5, x6, x7⟩ := HSS.keep hk4 hN
  have H4 : Hid (Keep rb w w4 ∧ Wk rb s (i + 1) (n + 1) (2, (i : Int)) w4) := ⟨HSK.trans hk4, hr4⟩
  clear hk4 hr4 HSW HSS HSK
  go_wp2_with fail
  refine bodyPost_ret (v := dv dat0 none 0) (by simp [results, Tryd.results23, go_sem, dv, dat0, x1, x2, x3, x4, x5, x6]) rfl ?_
  exact ⟨keep_six H4.out.1 (Nat.le_refl _) _ _ _ _ _ _, dat0, none, 0, rfl, i + 1, n + 1, hi, H4.out.2.six hN _ _ _ _ _ _⟩

set_option maxRecDepth 100000 in
set_option maxHeartbeats 1600000 in
theorem One_f_more (rb : Nat) (s : ByteArray) (i n : Nat) (dp : Int) (w : World) (h : Wk rb s i n (0, 0) w) (hi : i < s.size) (hs : s.size ≤ 6000) (hn : n ≤ 1999) (hd : dp ≤ 40) (h35 : s[i] = 35) (hx : i + 1 < s.size) (h1 : s[i + 1] = 102) (hx2 : i + 2 < s.size) (hl : letB (s[i + 2].toNat : Int) = true) :
    Calls Tryd.prog 23 #[.pointer (some ⟨rb, 0, none⟩), .int .i64 dp] w (OutW rb s (.inl (2, (i : Int))) w) := by
  have e40 : ((s[i].toNat : Int) == 40) = false := by rw [h35]; rfl
  have e39 : ((s[i].toNat : Int) == 39) = false := by rw [h35]; rfl
  have e35 : ((s[i].toNat : Int) == 35) = true := by rw [h35]; rfl
  clear h35
  have HKN : Hid (decide ((i : Int) + 1 + 1 ≤ (s.size : Int)) = true) := decide_eq_true (by omega)
  have F1 : Hid (((s[i + 1].toNat : Int) == 116) = false) := by show ((s[i + 1].toNat : Int) == 116) = false; rw [h1]; rfl
  have F2 : Hid (((s[i + 1].toNat : Int) == 102) = true) := by show ((s[i + 1].toNat : Int) == 102) = true; rw [h1]; rfl
  have F3 : Hid (((i : Int) + 1 + 1 == (s.size : Int)) = false) := by show ((i : Int) + 1 + 1 == (s.size : Int)) = false; simp; omega
  have LT : Hid (∀ w, Calls Tryd.prog 27 #[.int .u8 (s[i + 2].toNat : Int)] w fun e w' => e = .returned (.bool true) ∧ Below w.heap.size w w') := fun w => by
    have := letter_is s[i + 2] w
    rw [hl] at this
    exact this
  clear hl
  have HL1 : Hid ((s[i + 1].toNat : Int) = 102) := by show (s[i + 1].toNat : Int) = 102; rw [h1]; rfl
  have HG1 : Hid (s[((i : Int) + 1).toNat]? = some 102) := by rw [get_at s (i + 1) ((i : Int) + 1) (by omega) hx, h1]; exact rfl
  clear h1
  have HR : Hid (Wk rb s i n (0, 0) w) := h
  have c1 := h.c1
  have l1 := h.lt
  have hN : w.heap.size ≠ rb := Nat.ne_of_gt l1
  clear h
  go_enter Tryd.func23, Tryd.ntmps23
  go_wp2_with fail
  refine (rcount_ok rb s i n dp i _ (HR.out.alloc _) hn hd).mono ?_
  rintro e w1 ⟨rfl, hk1, hr1⟩
  have H1 : Hid (Hd rb s i (n + 1) w w1) := ⟨((Keep.refl rb w).alloc _).trans hk1, hr1, (Six.made w).keep hk1 hN⟩
  clear hk1 hr1 c1 HR
  go_wp2_with fail
  refine (good_yes rb s i (n + 1) _ H1.out.wk).mono ?_
  rintro e w2 ⟨rfl, rfl⟩
  have c0 := H1.out.wk.c0
  have c1 := H1.out.wk.c1
  have z1 := H1.out.wk.z 1
  go_wp2_with fail
  have hq0 := HKN.out
  have hq1 := F1.out
  have hq2 := F3.out
  have hq3 := F2.out
  have hq4 := get_at s (i + 1) ((i : Int) + 1) (by omega) hx
  have hq5 := fun w => index_at s (i + 1) ((i : Int) + 1) (by omega) hx w
  have hq6 := get_at s (i + 2) ((i : Int) + 1 + 1) (by omega) hx2
  have hq7 := fun w => index_at s (i + 2) ((i : Int) + 1 + 1) (by omega) hx2 w
  have hq8 : (0 : Int) ≤ (i : Int) + 1 := by omega
  refine wp_region_quiet_tail 46 (by kernel_rfl) (by kernel_rfl) ?_
  simp only [List.take_succ_cons, List.take_zero, List.drop_succ_cons, List.drop_zero]
  repeat (go_big_quiet_step (fail))
  refine wpQuiet_nil ?_
  clear hq0 hq1 hq2 hq3 hq4 hq5 hq6 hq7 hq8
  go_wp2_with fail
  refine (LT.out _).mono ?_
  rintro e w3 ⟨rfl, hb3⟩
  have HD : Hid (Hd rb s (i + 1) (n + 1) w w3) := ((H1.out.move hN (i + 1) ((i : Int) + 1) (by omega)).more (Below.drew (Below.refl _ _))).more hb3
  clear hb3 H1 c0 c1 z1 LT
  go_wp2_with fail
  have HSW := HD.out.wk
  have HSS := HD.out.six
  have HSK := HD.out.keep
  clear HD
  refine (stop_any rb s (i + 1) (n + 1) 2 i _ HSW).mono ?_
  rintro e w4 ⟨rfl, hk4, hr4⟩
  obtain ⟨x0, x1, x2, x3, x4, x5, x6, x7⟩ := HSS.keep hk4 hN
  have H4 : Hid (Keep rb w w4 ∧ Wk rb s (i + 1) (n + 1) (2, (i : Int)) w4) := ⟨HSK.trans hk4, hr4⟩
  clear hk4 hr4 HSW HSS HSK
  go_wp2_with fail
  refine bodyPost_ret (v := dv dat0 none 0) (by simp [results, Tryd.results23, go_sem, dv, dat0, x1, x2, x3, x4, x5, x6]) rfl ?_
  exact ⟨keep_six H4.out.1 (Nat.le_refl _) _ _ _ _ _ _, dat0, none, 0, rfl, i + 1, n + 1, hi, H4.out.2.six hN _ _ _ _ _ _⟩

theorem One_hash (rb : Nat) (s : ByteArray) (i n : Nat) (dp : Int) (w : World) (h : Wk rb s i n (0, 0) w) (hi : i < s.size) (hs : s.size ≤ 6000) (hn : n ≤ 1999) (hd : dp ≤ 40) (h35 : s[i] = 35) :
    Calls Tryd.prog 23 #[.pointer (some ⟨rb, 0, none⟩), .int .i64 dp] w (OutW rb s (hashAt (byteL (s.data.toList.drop (i + 1))) i n) w) := by
  have hlen : s.data.toList.length = s.size := Array.length_toList
  by_cases hx : i + 1 < s.size
  · have h1 := byteL_at (at_of hx)
    by_cases ht : s[i + 1] = 116
    · rw [ht] at h1
      rw [if_pos (by decide)] at h1
      by_cases hx2 : i + 2 < s.size
      · have h2 := byteL_at (at_of hx2)
        by_cases hl : letB (s[i + 2].toNat : Int) = true
        · rw [hl, if_pos rfl] at h2
          rw [h1, show i + 1 + 1 = i + 2 from rfl, h2]
          rw [show hashAt (116 :: s[i + 2] :: byteL (s.data.toList.drop (i + 2 + 1))) i n = .inl (2, (i : Int)) from by unfold hashAt; rw [if_neg (by simp), if_neg (by simp)]]
          exact One_t_more rb s i n dp w h hi hs hn hd h35 hx ht hx2 hl
        · have hl' : letB (s[i + 2].toNat : Int) = false := by simpa using hl
          rw [hl', if_neg (by simp)] at h2
          rw [h1, show i + 1 + 1 = i + 2 from rfl, h2]
          exact One_true rb s i n dp w h hi hs hn hd h35 hx ht hx2 hl'
      · rw [h1, show i + 1 + 1 = i + 2 from rfl, byteL_none (by omega)]
        exact One_true_end rb s i n dp w h hi hs hn hd h35 hx ht (by omega)
    · by_cases hf : s[i + 1] = 102
      · rw [hf] at h1
        rw [if_pos (by decide)] at h1
        by_cases hx2 : i + 2 < s.size
        · have h2 := byteL_at (at_of hx2)
          by_cases hl : letB (s[i + 2].toNat : Int) = true
          · rw [hl, if_pos rfl] at h2
            rw [h1, show i + 1 + 1 = i + 2 from rfl, h2]
            rw [show hashAt (102 :: s[i + 2] :: byteL (s.data.toList.drop (i + 2 + 1))) i n = .inl (2, (i : Int)) from by unfold hashAt; rw [if_neg (by simp), if_neg (by simp)]]
            exact One_f_more rb s i n dp w h hi hs hn hd h35 hx hf hx2 hl
          · have hl' : letB (s[i + 2].toNat : Int) = false := by simpa using hl
            rw [hl', if_neg (by simp)] at h2
            rw [h1, show i + 1 + 1 = i + 2 from rfl, h2]
            exact One_false rb s i n dp w h hi hs hn hd h35 hx hf hx2 hl'
        · rw [h1, show i + 1 + 1 = i + 2 from rfl, byteL_none (by omega)]
          exact One_false_end rb s i n dp w h hi hs hn hd h35 hx hf (by omega)
      · have e : hashAt (byteL (s.data.toList.drop (i + 1))) i n = .inl (2, (i : Int)) := by
          rw [h1]
          unfold hashAt
          split
          · rw [if_neg (by simp [ht]), if_neg (by simp [hf])]
          · rfl
        rw [e]
        exact One_hash1 rb s i n dp w h hi hs hn hd h35 hx ht hf
  · rw [byteL_none (by omega)]
    exact One_hash0 rb s i n dp w h hi hs hn hd h35 (by omega)

end Go.Proofs.YtagpcafbeplccaaDoor
