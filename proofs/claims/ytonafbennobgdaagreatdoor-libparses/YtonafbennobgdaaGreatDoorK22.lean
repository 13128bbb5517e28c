/- A reader's quotes, behind which something is wrong. -/
import Derived.RegionDies
import Derived.Test.YtonafbennobgdaaGreatDoorK21
namespace Go.Proofs.YtonafbennobgdaaGreatDoor
set_option linter.unusedVariables false
set_option linter.unusedSimpArgs false
section
open Go.RowKit
set_option maxRecDepth 100000 in
set_option maxHeartbeats 1600000 in
theorem quote_bad (rb : Nat) (s : ByteArray) (i n : Nat) (dp : Int) (w : World) (h : Rdr rb s i n w) (hi : i < s.size) (hs : s.size ≤ 6000) (hn : n ≤ 1999) (hd0 : 1 ≤ dp) (hd : dp ≤ 39) (x : Int × Int)
 (ih : ∀ (w : World), Rdr rb s (i + 1 + skipL (s.data.toList.drop (i + 1)) false) (n + 1) w → Calls Tryz.prog 73 #[.pointer (some ⟨rb, 0, none⟩), .int .i64 (dp + 1)] w (Out rb s (.inl x) w)) :
 Calls Tryz.prog 99 #[.pointer (some ⟨rb, 0, none⟩), .int .i64 dp] w (Out rb s (.inl x) w) := by
 have IH : Hid (∀ (w : World), Rdr rb s (i + 1 + skipL (s.data.toList.drop (i + 1)) false) (n + 1) w → Calls Tryz.prog 73 #[.pointer (some ⟨rb, 0, none⟩), .int .i64 (dp + 1)] w (Out rb s (.inl x) w)) := ih
 have HR : Hid (Rdr rb s i n w) := h
 have l1 := h.lt
 clear h ih
 go_enter Tryz.func99, Tryz.ntmps99
 go_wp2_with fail
 refine (count_ok rb s i n (dp + 1) _ (HR.out.alloc _) hn (by omega)).mono ?_
 rintro e w1 ⟨rfl, hk1, hr1⟩
 have c1 := hr1.c1
 have z1 := hr1.z1
 have H1 : Hid (Keep rb w w1 ∧ Rdr rb s i (n + 1) w1) := ⟨((Keep.refl _ _).alloc _).trans hk1, hr1⟩
 clear hk1 hr1 HR
 go_wp2_with fail
 refine (skip_any rb s (i + 1) (n + 1) _ (H1.out.2.move' (i + 1) _ (by omega)) (by omega) hs).mono ?_
 rintro e w2 ⟨rfl, hk2, hr2⟩
 have H2 : Hid (Keep rb w w2 ∧ Rdr rb s (i + 1 + skipL (s.data.toList.drop (i + 1)) false) (n + 1) w2) := ⟨(H1.out.1.setCell ⟨rb, 1, none⟩ rfl _).trans hk2, hr2⟩
 clear hk2 hr2 H1 c1 z1
 go_wp2_with fail
 have hwr : IntKind.i64.wrap (dp + 1) = dp + 1 := by rw [IntKind.wrap_i64]; omega
 go_region_dies
 all_goals
  refine (IH.out _ (by exact (H2.out.2.alloc _).drew)).mono ?_
  rintro e w3 ⟨rfl, hk3⟩
  have H3 : Keep rb w w3 := ((H2.out.1.alloc _).drew).trans hk3
  clear hk3
  go_wp2_with fail
  exact ⟨rfl, rfl, H3⟩
end
section
open Go.RowKit
set_option maxRecDepth 100000
set_option maxHeartbeats 3200000
theorem datum_over (rb : Nat) (s : ByteArray) (i n : Nat) (dp : Int) (w : World) (h : Rdr rb s i n w)
 (hc : ∀ w, Rdr rb s i n w → Calls Tryz.prog 96 #[.pointer (some ⟨rb, 0, none⟩), .int .i64 dp] w fun e w' => e = .panicked (thrown (4, (i : Int))) ∧ Keep rb w w') :
 Calls Tryz.prog 73 #[.pointer (some ⟨rb, 0, none⟩), .int .i64 dp] w (Out rb s (.inl (4, (i : Int))) w) := by
 have HC : Hid (∀ w, Rdr rb s i n w → Calls Tryz.prog 96 #[.pointer (some ⟨rb, 0, none⟩), .int .i64 dp] w fun e w' => e = .panicked (thrown (4, (i : Int))) ∧ Keep rb w w') := hc
 have HR : Hid (Rdr rb s i n w) := h
 clear h hc
 go_enter Tryz.func73, Tryz.ntmps73
 go_wp2_with fail
 refine (HC.out _ (HR.out.alloc _)).mono ?_
 rintro e w1 ⟨rfl, hk1⟩
 have hk : Keep rb w w1 := ((Keep.refl _ _).alloc _).trans hk1
 clear hk1
 go_wp2_with fail
 exact ⟨rfl, rfl, hk⟩
theorem datum_end (rb : Nat) (s : ByteArray) (n : Nat) (dp : Int) (w : World) (h : Rdr rb s s.size n w) (hn : n ≤ 1999) (hd : dp ≤ 40) :
 Calls Tryz.prog 73 #[.pointer (some ⟨rb, 0, none⟩), .int .i64 dp] w (Out rb s (.inl (2, (s.size : Int))) w) := by
 have HR : Hid (Rdr rb s s.size n w) := h
 clear h
 go_enter Tryz.func73, Tryz.ntmps73
 go_wp2_with fail
 refine (count_ok rb s s.size n dp _ (HR.out.alloc _) hn hd).mono ?_
 rintro e w1 ⟨rfl, hk1, hr1⟩
 have H1 : Hid (Keep rb w w1 ∧ Rdr rb s s.size (n + 1) w1) := ⟨((Keep.refl _ _).alloc _).trans hk1, hr1⟩
 have en := ended_any rb s s.size (n + 1) w1 hr1
 rw [show ((s.size : Int) == (s.size : Int)) = true from by simp] at en
 have EN : Hid (Calls Tryz.prog 72 #[.pointer (some ⟨rb, 0, none⟩)] w1 fun e w' => e = .returned (.bool true) ∧ Below w1.heap.size w1 w') := en
 clear hk1 hr1 en
 go_wp2_with fail
 refine EN.out.mono ?_
 rintro e w2 ⟨rfl, hb2⟩
 have H2 : Hid (Keep rb w w2 ∧ Rdr rb s s.size (n + 1) w2) := ⟨H1.out.1.below hb2, H1.out.2.below hb2⟩
 clear hb2 EN H1
 go_wp2_with fail
 refine (fault_any rb s s.size (n + 1) 2 _ H2.out.2).mono ?_
 rintro e w3 ⟨rfl, hb3⟩
 have hk : Keep rb w w3 := H2.out.1.below hb3
 clear hb3
 go_wp2_with fail
 exact ⟨rfl, rfl, hk⟩
structure Look (rb : Nat) (s : ByteArray) (i n : Nat) (w w2 : World) : Prop where
 keep : Keep rb w w2
 rdr : Rdr rb s i n w2
 six : Six w.heap.size w2
theorem Out.over {rb : Nat} {s : ByteArray} {w w2 : World} {x : Int × Int} {e : Ending} {w3 : World} (hk : Keep rb w w2) (h : Out rb s (.inl x) w2 e w3) : Out rb s (.inl x) w e w3 := ⟨h.1, hk.trans h.2⟩
theorem datum_open (rb : Nat) (s : ByteArray) (i n : Nat) (dp : Int) (w : World) (h : Rdr rb s i n w) (hi : i < s.size) (hs : s.size ≤ 6000) (hn : n ≤ 1999) (hd0 : 1 ≤ dp) (hd : dp ≤ 40) (r : Rd Dat) (b1 : ((s[i].toNat : Int) == 40) = true)
 (hc : ∀ w, Rdr rb s i (n + 1) w → Calls Tryz.prog 98 #[.pointer (some ⟨rb, 0, none⟩), .int .i64 dp] w (Out rb s r w)) :
 Calls Tryz.prog 73 #[.pointer (some ⟨rb, 0, none⟩), .int .i64 dp] w (Out rb s r w) := by
 have HC : Hid (∀ w, Rdr rb s i (n + 1) w → Calls Tryz.prog 98 #[.pointer (some ⟨rb, 0, none⟩), .int .i64 dp] w (Out rb s r w)) := hc
 have l1 := h.lt
 have HR : Hid (Rdr rb s i n w) := h
 clear h hc
 go_enter Tryz.func73, Tryz.ntmps73
 go_wp2_with fail
 refine (count_ok rb s i n dp _ (HR.out.alloc _) hn hd).mono ?_
 rintro e w1 ⟨rfl, hk1, hr1⟩
 have H1 : Hid (Look rb s i (n + 1) w w1) := ⟨((Keep.refl _ _).alloc _).trans hk1, hr1, (Six.made w).keep hk1 (Nat.ne_of_gt l1)⟩
 have en := ended_any rb s i (n + 1) w1 hr1
 rw [show ((i : Int) == (s.size : Int)) = false from by simp; omega] at en
 have EN : Hid (Calls Tryz.prog 72 #[.pointer (some ⟨rb, 0, none⟩)] w1 fun e w' => e = .returned (.bool false) ∧ Below w1.heap.size w1 w') := en
 clear hk1 hr1 en
 go_wp2_with fail
 refine EN.out.mono ?_
 rintro e w2 ⟨rfl, hb2⟩
 have hl2 : Look rb s i (n + 1) w w2 := ⟨H1.out.keep.below hb2, H1.out.rdr.below hb2, H1.out.six.after hb2⟩
 have c0 := hl2.rdr.c0
 have c1 := hl2.rdr.c1
 have H2 : Hid (Look rb s i (n + 1) w w2) := hl2
 clear hb2 EN H1 hl2
 go_wp2_with fail
 go_quiet (fail)
 go_wp2_with fail
 refine (HC.out _ (H2.out.rdr.drewN _)).mono ?_
 intro e w3 hout
 clear c0 c1
 cases r with
 | inl x =>
  have H3 : Hid (Out rb s (.inl x) w e w3) := Out.over (H2.out.keep.drewN _) hout
  obtain ⟨rfl, _⟩ := hout
  go_wp2_with fail
  exact ⟨rfl, H3.out⟩
 | inr y =>
  obtain ⟨d, j, m⟩ := y
  obtain ⟨hk3, hr3, a', cap', f', rfl, hdw⟩ := hout
  have hz2 := H2.out.six.lt
  have hz3 : w2.heap.size ≤ w3.heap.size := hk3.size
  have H3 : Hid (Keep rb w w3 ∧ Rdr rb s j m w3 ∧ Dw (fun b => w2.heap.size ≤ b ∧ b < w3.heap.size) w3 f' a' cap' d.kids) := ⟨(H2.out.keep.drewN _).trans hk3, hr3, Dw.stay (fun _ _ => rfl) (fun b hb => hb) f' _ _ _ hdw⟩
  obtain ⟨x0, x1, x2, x3, x4, x5, x6, x7⟩ := (H2.out.six.after (below_drewN (Below.refl _ _) _)).keep hk3 (Nat.ne_of_gt l1)
  clear hk3 hr3 hdw
  unfold dv
  go_wp2_with fail
  refine bodyPost_ret (v := dv d a' cap') (by simp [results, Tryz.results73, go_sem, dv, x1, x2, x3, x4, x5, x6]) rfl ?_
  have hh := six_heapT w3 w.heap.size (.int .i64 d.kind) (.int .i64 d.n) (.string d.name) (.int .i64 d.stamp) (.int .i64 d.lib) (.slice a' d.kids.length cap')
  refine ⟨keep_six H3.out.1 (Nat.le_refl _) _ _ _ _ _ _, H3.out.2.1.six (Nat.ne_of_gt l1) _ _ _ _ _ _, a', cap', f', rfl, ?_⟩
  refine Dw.stay ?_ ?_ f' _ _ _ H3.out.2.2
  ·intro b hb
   exact hh.1 b (by have := hb.1; omega)
  intro b hb
  refine ⟨by have := hb.1; omega, ?_⟩
  rw [hh.2]
  exact hb.2
theorem datum_tick (rb : Nat) (s : ByteArray) (i n : Nat) (dp : Int) (w : World) (h : Rdr rb s i n w) (hi : i < s.size) (hs : s.size ≤ 6000) (hn : n ≤ 1999) (hd0 : 1 ≤ dp) (hd : dp ≤ 40) (r : Rd Dat) (b1 : ((s[i].toNat : Int) == 40) = false) (b2 : ((s[i].toNat : Int) == 39) = true)
 (hc : ∀ w, Rdr rb s i (n + 1) w → Calls Tryz.prog 99 #[.pointer (some ⟨rb, 0, none⟩), .int .i64 dp] w (Out rb s r w)) :
 Calls Tryz.prog 73 #[.pointer (some ⟨rb, 0, none⟩), .int .i64 dp] w (Out rb s r w) := by
 have HC : Hid (∀ w, Rdr rb s i (n + 1) w → Calls Tryz.prog 99 #[.pointer (some ⟨rb, 0, none⟩), .int .i64 dp] w (Out rb s r w)) := hc
 have l1 := h.lt
 have HR : Hid (Rdr rb s i n w) := h
 clear h hc
 go_enter Tryz.func73, Tryz.ntmps73
 go_wp2_with fail
 refine (count_ok rb s i n dp _ (HR.out.alloc _) hn hd).mono ?_
 rintro e w1 ⟨rfl, hk1, hr1⟩
 have H1 : Hid (Look rb s i (n + 1) w w1) := ⟨((Keep.refl _ _).alloc _).trans hk1, hr1, (Six.made w).keep hk1 (Nat.ne_of_gt l1)⟩
 have en := ended_any rb s i (n + 1) w1 hr1
 rw [show ((i : Int) == (s.size : Int)) = false from by simp; omega] at en
 have EN : Hid (Calls Tryz.prog 72 #[.pointer (some ⟨rb, 0, none⟩)] w1 fun e w' => e = .returned (.bool false) ∧ Below w1.heap.size w1 w') := en
 clear hk1 hr1 en
 go_wp2_with fail
 refine EN.out.mono ?_
 rintro e w2 ⟨rfl, hb2⟩
 have hl2 : Look rb s i (n + 1) w w2 := ⟨H1.out.keep.below hb2, H1.out.rdr.below hb2, H1.out.six.after hb2⟩
 have c0 := hl2.rdr.c0
 have c1 := hl2.rdr.c1
 have H2 : Hid (Look rb s i (n + 1) w w2) := hl2
 clear hb2 EN H1 hl2
 go_wp2_with fail
 go_quiet (fail)
 go_wp2_with fail
 refine (HC.out _ (H2.out.rdr.drewN _)).mono ?_
 intro e w3 hout
 clear c0 c1
 cases r with
 | inl x =>
  have H3 : Hid (Out rb s (.inl x) w e w3) := Out.over (H2.out.keep.drewN _) hout
  obtain ⟨rfl, _⟩ := hout
  go_wp2_with fail
  exact ⟨rfl, H3.out⟩
 | inr y =>
  obtain ⟨d, j, m⟩ := y
  obtain ⟨hk3, hr3, a', cap', f', rfl, hdw⟩ := hout
  have hz2 := H2.out.six.lt
  have hz3 : w2.heap.size ≤ w3.heap.size := hk3.size
  have H3 : Hid (Keep rb w w3 ∧ Rdr rb s j m w3 ∧ Dw (fun b => w2.heap.size ≤ b ∧ b < w3.heap.size) w3 f' a' cap' d.kids) := ⟨(H2.out.keep.drewN _).trans hk3, hr3, Dw.stay (fun _ _ => rfl) (fun b hb => hb) f' _ _ _ hdw⟩
  obtain ⟨x0, x1, x2, x3, x4, x5, x6, x7⟩ := (H2.out.six.after (below_drewN (Below.refl _ _) _)).keep hk3 (Nat.ne_of_gt l1)
  clear hk3 hr3 hdw
  unfold dv
  go_wp2_with fail
  refine bodyPost_ret (v := dv d a' cap') (by simp [results, Tryz.results73, go_sem, dv, x1, x2, x3, x4, x5, x6]) rfl ?_
  have hh := six_heapT w3 w.heap.size (.int .i64 d.kind) (.int .i64 d.n) (.string d.name) (.int .i64 d.stamp) (.int .i64 d.lib) (.slice a' d.kids.length cap')
  refine ⟨keep_six H3.out.1 (Nat.le_refl _) _ _ _ _ _ _, H3.out.2.1.six (Nat.ne_of_gt l1) _ _ _ _ _ _, a', cap', f', rfl, ?_⟩
  refine Dw.stay ?_ ?_ f' _ _ _ H3.out.2.2
  ·intro b hb
   exact hh.1 b (by have := hb.1; omega)
  intro b hb
  refine ⟨by have := hb.1; omega, ?_⟩
  rw [hh.2]
  exact hb.2
theorem datum_hash (rb : Nat) (s : ByteArray) (i n : Nat) (dp : Int) (w : World) (h : Rdr rb s i n w) (hi : i < s.size) (hs : s.size ≤ 6000) (hn : n ≤ 1999) (hd0 : 1 ≤ dp) (hd : dp ≤ 40) (r : Rd Dat) (b1 : ((s[i].toNat : Int) == 40) = false) (b2 : ((s[i].toNat : Int) == 39) = false) (b3 : ((s[i].toNat : Int) == 35) = true)
 (hc : ∀ w, Rdr rb s i (n + 1) w → Calls Tryz.prog 100 #[.pointer (some ⟨rb, 0, none⟩)] w (Out rb s r w)) :
 Calls Tryz.prog 73 #[.pointer (some ⟨rb, 0, none⟩), .int .i64 dp] w (Out rb s r w) := by
 have HC : Hid (∀ w, Rdr rb s i (n + 1) w → Calls Tryz.prog 100 #[.pointer (some ⟨rb, 0, none⟩)] w (Out rb s r w)) := hc
 have l1 := h.lt
 have HR : Hid (Rdr rb s i n w) := h
 clear h hc
 go_enter Tryz.func73, Tryz.ntmps73
 go_wp2_with fail
 refine (count_ok rb s i n dp _ (HR.out.alloc _) hn hd).mono ?_
 rintro e w1 ⟨rfl, hk1, hr1⟩
 have H1 : Hid (Look rb s i (n + 1) w w1) := ⟨((Keep.refl _ _).alloc _).trans hk1, hr1, (Six.made w).keep hk1 (Nat.ne_of_gt l1)⟩
 have en := ended_any rb s i (n + 1) w1 hr1
 rw [show ((i : Int) == (s.size : Int)) = false from by simp; omega] at en
 have EN : Hid (Calls Tryz.prog 72 #[.pointer (some ⟨rb, 0, none⟩)] w1 fun e w' => e = .returned (.bool false) ∧ Below w1.heap.size w1 w') := en
 clear hk1 hr1 en
 go_wp2_with fail
 refine EN.out.mono ?_
 rintro e w2 ⟨rfl, hb2⟩
 have hl2 : Look rb s i (n + 1) w w2 := ⟨H1.out.keep.below hb2, H1.out.rdr.below hb2, H1.out.six.after hb2⟩
 have c0 := hl2.rdr.c0
 have c1 := hl2.rdr.c1
 have H2 : Hid (Look rb s i (n + 1) w w2) := hl2
 clear hb2 EN H1 hl2
 go_wp2_with fail
 go_quiet (fail)
 go_wp2_with fail
 refine (HC.out _ (H2.out.rdr.drewN _)).mono ?_
 intro e w3 hout
 clear c0 c1
 cases r with
 | inl x =>
  have H3 : Hid (Out rb s (.inl x) w e w3) := Out.over (H2.out.keep.drewN _) hout
  obtain ⟨rfl, _⟩ := hout
  go_wp2_with fail
  exact ⟨rfl, H3.out⟩
 | inr y =>
  obtain ⟨d, j, m⟩ := y
  obtain ⟨hk3, hr3, a', cap', f', rfl, hdw⟩ := hout
  have hz2 := H2.out.six.lt
  have hz3 : w2.heap.size ≤ w3.heap.size := hk3.size
  have H3 : Hid (Keep rb w w3 ∧ Rdr rb s j m w3 ∧ Dw (fun b => w2.heap.size ≤ b ∧ b < w3.heap.size) w3 f' a' cap' d.kids) := ⟨(H2.out.keep.drewN _).trans hk3, hr3, Dw.stay (fun _ _ => rfl) (fun b hb => hb) f' _ _ _ hdw⟩
  obtain ⟨x0, x1, x2, x3, x4, x5, x6, x7⟩ := (H2.out.six.after (below_drewN (Below.refl _ _) _)).keep hk3 (Nat.ne_of_gt l1)
  clear hk3 hr3 hdw
  unfold dv
  go_wp2_with fail
  refine bodyPost_ret (v := dv d a' cap') (by simp [results, Tryz.results73, go_sem, dv, x1, x2, x3, x4, x5, x6]) rfl ?_
  have hh := six_heapT w3 w.heap.size (.int .i64 d.kind) (.int .i64 d.n) (.string d.name) (.int .i64 d.stamp) (.int .i64 d.lib) (.slice a' d.kids.length cap')
  refine ⟨keep_six H3.out.1 (Nat.le_refl _) _ _ _ _ _ _, H3.out.2.1.six (Nat.ne_of_gt l1) _ _ _ _ _ _, a', cap', f', rfl, ?_⟩
  refine Dw.stay ?_ ?_ f' _ _ _ H3.out.2.2
  ·intro b hb
   exact hh.1 b (by have := hb.1; omega)
  intro b hb
  refine ⟨by have := hb.1; omega, ?_⟩
  rw [hh.2]
  exact hb.2
theorem datum_word (rb : Nat) (s : ByteArray) (i n : Nat) (dp : Int) (w : World) (h : Rdr rb s i n w) (hi : i < s.size) (hs : s.size ≤ 6000) (hn : n ≤ 1999) (hd0 : 1 ≤ dp) (hd : dp ≤ 40) (r : Rd Dat) (b1 : ((s[i].toNat : Int) == 40) = false) (b2 : ((s[i].toNat : Int) == 39) = false) (b3 : ((s[i].toNat : Int) == 35) = false) (b4 : letB (s[i].toNat : Int) = true)
 (hc : ∀ w, Rdr rb s i (n + 1) w → Calls Tryz.prog 101 #[.pointer (some ⟨rb, 0, none⟩)] w (Out rb s r w)) :
 Calls Tryz.prog 73 #[.pointer (some ⟨rb, 0, none⟩), .int .i64 dp] w (Out rb s r w) := by
 have HC : Hid (∀ w, Rdr rb s i (n + 1) w → Calls Tryz.prog 101 #[.pointer (some ⟨rb, 0, none⟩)] w (Out rb s r w)) := hc
 have l1 := h.lt
 have HR : Hid (Rdr rb s i n w) := h
 clear h hc
 have hbd := s[i].toNat_lt
 have LC : Hid (∀ w, Calls Tryz.prog 74 #[.int .u8 (s[i].toNat : Int)] w fun e w' => e = .returned (.bool true) ∧ w' = w) := fun w => by
  have := letter_any (s[i].toNat : Int) (by omega) (by omega) w
  rwa [b4] at this
 clear b4
 go_enter Tryz.func73, Tryz.ntmps73
 go_wp2_with fail
 refine (count_ok rb s i n dp _ (HR.out.alloc _) hn hd).mono ?_
 rintro e w1 ⟨rfl, hk1, hr1⟩
 have H1 : Hid (Look rb s i (n + 1) w w1) := ⟨((Keep.refl _ _).alloc _).trans hk1, hr1, (Six.made w).keep hk1 (Nat.ne_of_gt l1)⟩
 have en := ended_any rb s i (n + 1) w1 hr1
 rw [show ((i : Int) == (s.size : Int)) = false from by simp; omega] at en
 have EN : Hid (Calls Tryz.prog 72 #[.pointer (some ⟨rb, 0, none⟩)] w1 fun e w' => e = .returned (.bool false) ∧ Below w1.heap.size w1 w') := en
 clear hk1 hr1 en
 go_wp2_with fail
 refine EN.out.mono ?_
 rintro e w2 ⟨rfl, hb2⟩
 have hl2 : Look rb s i (n + 1) w w2 := ⟨H1.out.keep.below hb2, H1.out.rdr.below hb2, H1.out.six.after hb2⟩
 have c0 := hl2.rdr.c0
 have c1 := hl2.rdr.c1
 have H2 : Hid (Look rb s i (n + 1) w w2) := hl2
 clear hb2 EN H1 hl2
 go_wp2_with fail
 go_quiet (fail)
 go_wp2_with fail
 refine (LC.out _).mono ?_
 rintro e w' ⟨rfl, rfl⟩
 go_wp2_with fail
 refine (HC.out _ (H2.out.rdr.drewN _)).mono ?_
 intro e w3 hout
 clear c0 c1
 cases r with
 | inl x =>
  have H3 : Hid (Out rb s (.inl x) w e w3) := Out.over (H2.out.keep.drewN _) hout
  obtain ⟨rfl, _⟩ := hout
  go_wp2_with fail
  exact ⟨rfl, H3.out⟩
 | inr y =>
  obtain ⟨d, j, m⟩ := y
  obtain ⟨hk3, hr3, a', cap', f', rfl, hdw⟩ := hout
  have hz2 := H2.out.six.lt
  have hz3 : w2.heap.size ≤ w3.heap.size := hk3.size
  have H3 : Hid (Keep rb w w3 ∧ Rdr rb s j m w3 ∧ Dw (fun b => w2.heap.size ≤ b ∧ b < w3.heap.size) w3 f' a' cap' d.kids) := ⟨(H2.out.keep.drewN _).trans hk3, hr3, Dw.stay (fun _ _ => rfl) (fun b hb => hb) f' _ _ _ hdw⟩
  obtain ⟨x0, x1, x2, x3, x4, x5, x6, x7⟩ := (H2.out.six.after (below_drewN (Below.refl _ _) _)).keep hk3 (Nat.ne_of_gt l1)
  clear hk3 hr3 hdw
  unfold dv
  go_wp2_with fail
  refine bodyPost_ret (v := dv d a' cap') (by simp [results, Tryz.results73, go_sem, dv, x1, x2, x3, x4, x5, x6]) rfl ?_
  have hh := six_heapT w3 w.heap.size (.int .i64 d.kind) (.int .i64 d.n) (.string d.name) (.int .i64 d.stamp) (.int .i64 d.lib) (.slice a' d.kids.length cap')
  refine ⟨keep_six H3.out.1 (Nat.le_refl _) _ _ _ _ _ _, H3.out.2.1.six (Nat.ne_of_gt l1) _ _ _ _ _ _, a', cap', f', rfl, ?_⟩
  refine Dw.stay ?_ ?_ f' _ _ _ H3.out.2.2
  ·intro b hb
   exact hh.1 b (by have := hb.1; omega)
  intro b hb
  refine ⟨by have := hb.1; omega, ?_⟩
  rw [hh.2]
  exact hb.2
theorem datum_none (rb : Nat) (s : ByteArray) (i n : Nat) (dp : Int) (w : World) (h : Rdr rb s i n w) (hi : i < s.size) (hs : s.size ≤ 6000) (hn : n ≤ 1999) (hd0 : 1 ≤ dp) (hd : dp ≤ 40) (b1 : ((s[i].toNat : Int) == 40) = false) (b2 : ((s[i].toNat : Int) == 39) = false) (b3 : ((s[i].toNat : Int) == 35) = false) (b4 : letB (s[i].toNat : Int) = false) :
 Calls Tryz.prog 73 #[.pointer (some ⟨rb, 0, none⟩), .int .i64 dp] w (Out rb s (.inl (2, (i : Int))) w) := by
 have l1 := h.lt
 have HR : Hid (Rdr rb s i n w) := h
 clear h
 have hbd := s[i].toNat_lt
 have LC : Hid (∀ w, Calls Tryz.prog 74 #[.int .u8 (s[i].toNat : Int)] w fun e w' => e = .returned (.bool false) ∧ w' = w) := fun w => by
  have := letter_any (s[i].toNat : Int) (by omega) (by omega) w
  rwa [b4] at this
 clear b4
 go_enter Tryz.func73, Tryz.ntmps73
 go_wp2_with fail
 refine (count_ok rb s i n dp _ (HR.out.alloc _) hn hd).mono ?_
 rintro e w1 ⟨rfl, hk1, hr1⟩
 have H1 : Hid (Look rb s i (n + 1) w w1) := ⟨((Keep.refl _ _).alloc _).trans hk1, hr1, (Six.made w).keep hk1 (Nat.ne_of_gt l1)⟩
 have en := ended_any rb s i (n + 1) w1 hr1
 rw [show ((i : Int) == (s.size : Int)) = false from by simp; omega] at en
 have EN : Hid (Calls Tryz.prog 72 #[.pointer (some ⟨rb, 0, none⟩)] w1 fun e w' => e = .returned (.bool false) ∧ Below w1.heap.size w1 w') := en
 clear hk1 hr1 en
 go_wp2_with fail
 refine EN.out.mono ?_
 rintro e w2 ⟨rfl, hb2⟩
 have hl2 : Look rb s i (n + 1) w w2 := ⟨H1.out.keep.below hb2, H1.out.rdr.below hb2, H1.out.six.after hb2⟩
 have c0 := hl2.rdr.c0
 have c1 := hl2.rdr.c1
 have H2 : Hid (Look rb s i (n + 1) w w2) := hl2
 clear hb2 EN H1 hl2
 go_wp2_with fail
 go_quiet (fail)
 go_wp2_with fail
 refine (LC.out _).mono ?_
 rintro e w' ⟨rfl, rfl⟩
 go_wp2_with fail
 refine (fault_any rb s i (n + 1) 2 _ (H2.out.rdr.drewN _)).mono ?_
 rintro e w3 ⟨rfl, hb3⟩
 have hk : Keep rb w w3 := (H2.out.keep.drewN _).below hb3
 clear hb3
 go_wp2_with fail
 exact ⟨rfl, rfl, hk⟩
end
section
open Go.RowKit
theorem byte_eq (c k : UInt8) : ((c.toNat : Int) == (k.toNat : Int)) = decide (c = k) := by
 by_cases e : c = k
 ·subst e; simp
 have : ¬ c.toNat = k.toNat := fun h => e (UInt8.toNat_inj.1 h)
 simp [e]
 omega
theorem datum_read (rb : Nat) (s : ByteArray) (hs : s.size ≤ 6000) : ∀ (f : Nat), f ≤ 40 → ∀ (i n : Nat) (w : World), Rdr rb s i n w → i ≤ s.size → n ≤ 2000 →
 Calls Tryz.prog 73 #[.pointer (some ⟨rb, 0, none⟩), .int .i64 (41 - (f : Int))] w (Out rb s (one s.data.toList f i n) w)
 | 0, _, i, n, w, h, hi, hn => by
  show Calls Tryz.prog 73 #[.pointer (some ⟨rb, 0, none⟩), .int .i64 41] w (Out rb s (.inl (4, (i : Int))) w)
  refine datum_over rb s i n 41 w h (fun w h => ?_)
  by_cases h2 : n = 2000
  ·exact count_much rb s i n 41 w h h2
  exact count_deep rb s i n w h (by omega)
 | f + 1, hf, i, n, w, h, hi, hn => by
  have hd0 : 1 ≤ 41 - ((f + 1 : Nat) : Int) := by omega
  have hd : 41 - ((f + 1 : Nat) : Int) ≤ 40 := by omega
  have hlen : s.data.toList.length = s.size := Array.length_toList
  have IH : ∀ (i n : Nat) (w : World), Rdr rb s i n w → i ≤ s.size → n ≤ 2000 → Calls Tryz.prog 73 #[.pointer (some ⟨rb, 0, none⟩), .int .i64 (41 - ((f + 1 : Nat) : Int) + 1)] w (Out rb s (one s.data.toList f i n) w) := by
   intro i n w h hi hn
   have := datum_read rb s hs f (by omega) i n w h hi hn
   rw [show 41 - ((f + 1 : Nat) : Int) + 1 = 41 - (f : Int) from by omega]
   exact this
  generalize hdp : 41 - ((f + 1 : Nat) : Int) = dp at hd0 hd IH
  unfold one
  by_cases h2 : 2000 < n + 1
  ·rw [if_pos h2]
   exact datum_over rb s i n dp w h (fun w h => count_much rb s i n dp w h (by omega))
  rw [if_neg h2]
  by_cases hlt : i < s.size
  rotate_left
  ·obtain rfl : i = s.size := by omega
   rw [List.getElem?_eq_none (by omega)]
   exact datum_end rb s n dp w h (by omega) hd
  rw [at_of hlt]
  simp only
  by_cases c40 : s[i] = 40
  ·rw [if_pos c40]
   have b1 : ((s[i].toNat : Int) == 40) = true := (byte_eq s[i] 40).trans (by simp [c40])
   have := datum_open rb s i n dp w h hlt hs (by omega) hd0 hd (asList (items (one s.data.toList f) s.data.toList (s.data.toList.length + 1) (i + 1) (n + 1))) b1 (fun w h => list_read rb s f i (n + 1) dp w h hlt hs (by omega) hd0 hd IH)
   generalize items (one s.data.toList f) s.data.toList (s.data.toList.length + 1) (i + 1) (n + 1) = r at this ⊢
   cases r with
   | inl e => exact this
   | inr y => exact this
  rw [if_neg c40]
  have b1 : ((s[i].toNat : Int) == 40) = false := (byte_eq s[i] 40).trans (by simp [c40])
  by_cases c39 : s[i] = 39
  ·rw [if_pos c39]
   have b2 : ((s[i].toNat : Int) == 39) = true := (byte_eq s[i] 39).trans (by simp [c39])
   by_cases hq : f = 0 ∨ 2000 < n + 2
   ·rw [if_pos hq]
    refine datum_tick rb s i n dp w h hlt hs (by omega) hd0 hd (.inl (4, (i : Int))) b1 b2 (fun w h => ?_)
    refine quote_much rb s i (n + 1) dp w h hd0 hd (fun w h => ?_)
    by_cases h3 : n + 1 = 2000
    ·exact count_much rb s i (n + 1) (dp + 1) w h h3
    have hd41 : dp + 1 = 41 := by omega
    rw [hd41]
    exact count_deep rb s i (n + 1) w h (by omega)
   rw [if_neg hq]
   have hsk := skip_le s.data.toList (i + 1) (by omega)
   rw [hlen] at hsk
   have ih1 : ∀ w, Rdr rb s (i + 1 + skipL (s.data.toList.drop (i + 1)) false) (n + 1 + 1) w → Calls Tryz.prog 73 #[.pointer (some ⟨rb, 0, none⟩), .int .i64 (dp + 1)] w (Out rb s (one s.data.toList f (i + 1 + skipL (s.data.toList.drop (i + 1)) false) (n + 2)) w) := fun w h => IH _ _ w h hsk (by omega)
   cases ho : one s.data.toList f (i + 1 + skipL (s.data.toList.drop (i + 1)) false) (n + 2) with
   | inl x =>
    rw [ho] at ih1
    exact datum_tick rb s i n dp w h hlt hs (by omega) hd0 hd (.inl x) b1 b2 (fun w h => quote_bad rb s i (n + 1) dp w h hlt hs (by omega) hd0 (by omega) x ih1)
   | inr y =>
    obtain ⟨d, j, m⟩ := y
    rw [ho] at ih1
    have hw := one_went s.data.toList f _ _ d j m (by rw [hlen]; exact hsk) (by omega) ho
    exact datum_tick rb s i n dp w h hlt hs (by omega) hd0 hd (.inr (datQuote d, j, m)) b1 b2 (fun w h => quote_read rb s i (n + 1) dp w h hlt hs (by omega) hd0 (by omega) d j m hw.name ih1)
  rw [if_neg c39]
  have b2 : ((s[i].toNat : Int) == 39) = false := (byte_eq s[i] 39).trans (by simp [c39])
  by_cases c35 : s[i] = 35
  ·rw [if_pos c35]
   have b3 : ((s[i].toNat : Int) == 35) = true := (byte_eq s[i] 35).trans (by simp [c35])
   exact datum_hash rb s i n dp w h hlt hs (by omega) hd0 hd (truthAt (byteL (s.data.toList.drop (i + 1))) i (n + 1)) b1 b2 b3 (fun w h => truth_read rb s i (n + 1) w h hlt hs)
  rw [if_neg c35]
  have b3 : ((s[i].toNat : Int) == 35) = false := (byte_eq s[i] 35).trans (by simp [c35])
  cases b4 : letB (s[i].toNat : Int) with
  | true => exact datum_word rb s i n dp w h hlt hs (by omega) hd0 hd (wordAt (byteL (s.data.toList.drop i)) i (n + 1)) b1 b2 b3 b4 (fun w h => word_any rb s i (n + 1) w h hlt hs)
  | false => exact datum_none rb s i n dp w h hlt hs (by omega) hd0 hd b1 b2 b3 b4
end
section
open Go.RowKit
section
variable {l : List UInt8} {k j m p : Nat}
theorem alls_end (hp : p = j + skipL (l.drop j) false) (h : l.length ≤ p) : ∃ j' m', alls l k j m = .inr ([], j', m') := by
 cases k with
 | zero => exact ⟨_, _, rfl⟩
 | succ k =>
  subst hp
  unfold alls
  simp only
  rw [if_pos h]
  exact ⟨_, _, rfl⟩
theorem alls_bad {x : Int × Int} (hp : p = j + skipL (l.drop j) false) (h : p < l.length) (hg : one l 40 p m = .inl x) : alls l (k + 1) j m = .inl x := by
 subst hp
 unfold alls
 simp only
 rw [if_neg (by omega), hg]
theorem alls_step {d : Dat} {j' m' : Nat} (hp : p = j + skipL (l.drop j) false) (h : p < l.length) (hg : one l 40 p m = .inr (d, j', m')) : alls l (k + 1) j m = pre [d] (alls l k j' m') := by
 subst hp
 conv => lhs; unfold alls
 simp only
 rw [if_neg (by omega), hg]
 simp only
 cases alls l k j' m' with
 | inl e => rfl
 | inr x => rfl
end
def OutA (rb : Nat) (r : Rd (List Dat)) (w : World) (e : Ending) (w' : World) : Prop :=
 match r with
 | .inl x => e = .panicked (thrown x) ∧ Keep rb w w'
 | .inr (ds, _, _) => Keep rb w w' ∧ ∃ a cap f, e = .returned (.slice a ds.length cap) ∧ Dw (NewT w w') w' f a cap ds
structure Als (l : List UInt8) (s : ByteArray) (rb : Nat) (w : World) (g : Nat) (v : Value) (wr : World) (es : List (Dat × Option Addr × Nat)) (j k m p : Nat) : Prop where
 pos : p = j + skipL (l.drop j) false
 ple : p ≤ s.size
 jle : j ≤ l.length
 mle : m ≤ 2000
 few : es.length ≤ m
 fuel : l.length + 1 ≤ j + k
 ghost : g = s.size - p
 keep : Keep rb w wr
 rdr : Rdr rb s p m wr
 row : Row w.heap.size v es wr
 same : alls l (l.length + 1) 0 0 = pre (es.map (·.1)) (alls l k j m)
end
end Go.Proofs.YtonafbennobgdaaGreatDoor
