/- A reader's quotes, behind which something is wrong. A reader's data. -/
import Derived.RegionDies
import Derived.Test.YtonafbennobgdaaGreatDoorK28
namespace Go.Proofs.YtonafbennobgdaaGreatDoor
section
set_option linter.unusedVariables false
set_option linter.unusedSimpArgs false
open Go.RowKit

set_option maxRecDepth 100000 in
set_option maxHeartbeats 1600000 in
theorem quote_bad (rb : Nat) (s : ByteArray) (i n : Nat) (dp : Int) (w : World) (h : Rdr rb s i n w) (hi : i < s.size) (hs : s.size ≤ 6000) (hn : n ≤ 1999) (hd0 : 1 ≤ dp) (hd : dp ≤ 39) (x : Int × Int)
    (ih : ∀ (w : World), Rdr rb s (i + 1 + skipL (s.data.toList.drop (i + 1)) false) (n + 1) w → Calls Tryz.prog 73 #[.pointer (some ⟨rb, 0, none⟩), .int .i64 (dp + 1)] w (Out rb s (.inl x) w)) :
    Calls Tryz.prog 99 #[.pointer (some ⟨rb, 0, none⟩), .int .i64 dp] w (Out rb s (.inl x) w) := by
  have IH : Hid (∀ (w : World), Rdr rb s (i + 1 + skipL (s.data.toList.drop (i + 1)) false) (n + 1) w → Calls Tryz.prog 73 #[.pointer (some ⟨rb, 0, none⟩), .int .i64 (dp + 1)] w (Out rb s (.inl x) w)) := ih
  have HR : Hid (Rdr rb s i n w) := h
  have l1 := h.lt
  clear h ih
  go_enter Tryz.func99, Tryz.ntmps99
  go_wp2_with fail
  refine (count_ok rb s i n (dp + 1) _ (HR.out.alloc _) hn (by omega)).mono ?_
  rintro e w1 ⟨rfl, hk1, hr1⟩
  have c1 := hr1.c1
  have z1 := hr1.z1
  have H1 : Hid (Keep rb w w1 ∧ Rdr rb s i (n + 1) w1) := ⟨((Keep.refl _ _).alloc _).trans hk1, hr1⟩
  clear hk1 hr1 HR
  go_wp2_with fail
  refine (skip_any rb s (i + 1) (n + 1) _ (H1.out.2.move' (i + 1) _ (by omega)) (by omega) hs).mono ?_
  rintro e w2 ⟨rfl, hk2, hr2⟩
  have H2 : Hid (Keep rb w w2 ∧ Rdr rb s (i + 1 + skipL (s.data.toList.drop (i + 1)) false) (n + 1) w2) := ⟨(H1.out.1.setCell ⟨rb, 1, none⟩ rfl _).trans hk2, hr2⟩
  clear hk2 hr2 H1 c1 z1
  go_wp2_with fail
  have hwr : IntKind.i64.wrap (dp + 1) = dp + 1 := by rw [IntKind.wrap_i64]; omega
  go_region_dies
  all_goals
    refine (IH.out _ (by exact (H2.out.2.alloc _).drew)).mono ?_
    rintro e w3 ⟨rfl, hk3⟩
    have H3 : Keep rb w w3 := ((H2.out.1.alloc _).drew).trans hk3
    clear hk3
    go_wp2_with fail
    exact ⟨rfl, rfl, H3⟩
end
section
set_option linter.unusedVariables false
set_option linter.unusedSimpArgs false
open Go.RowKit

set_option maxRecDepth 100000 in
set_option maxHeartbeats 1600000 in
/-- Too much. -/
theorem datum_over (rb : Nat) (s : ByteArray) (i n : Nat) (dp : Int) (w : World) (h : Rdr rb s i n w)
    (hc : ∀ w, Rdr rb s i n w → Calls Tryz.prog 96 #[.pointer (some ⟨rb, 0, none⟩), .int .i64 dp] w fun e w' => e = .panicked (thrown (4, (i : Int))) ∧ Keep rb w w') :
    Calls Tryz.prog 73 #[.pointer (some ⟨rb, 0, none⟩), .int .i64 dp] w (Out rb s (.inl (4, (i : Int))) w) := by
  have HC : Hid (∀ w, Rdr rb s i n w → Calls Tryz.prog 96 #[.pointer (some ⟨rb, 0, none⟩), .int .i64 dp] w fun e w' => e = .panicked (thrown (4, (i : Int))) ∧ Keep rb w w') := hc
  have HR : Hid (Rdr rb s i n w) := h
  clear h hc
  go_enter Tryz.func73, Tryz.ntmps73
  go_wp2_with fail
  refine (HC.out _ (HR.out.alloc _)).mono ?_
  rintro e w1 ⟨rfl, hk1⟩
  have hk : Keep rb w w1 := ((Keep.refl _ _).alloc _).trans hk1
  clear hk1
  go_wp2_with fail
  exact ⟨rfl, rfl, hk⟩

set_option maxRecDepth 100000 in
set_option maxHeartbeats 1600000 in
/-- At the end of the text. -/
theorem datum_end (rb : Nat) (s : ByteArray) (n : Nat) (dp : Int) (w : World) (h : Rdr rb s s.size n w) (hn : n ≤ 1999) (hd : dp ≤ 40) :
    Calls Tryz.prog 73 #[.pointer (some ⟨rb, 0, none⟩), .int .i64 dp] w (Out rb s (.inl (2, (s.size : Int))) w) := by
  have HR : Hid (Rdr rb s s.size n w) := h
  clear h
  go_enter Tryz.func73, Tryz.ntmps73
  go_wp2_with fail
  refine (count_ok rb s s.size n dp _ (HR.out.alloc _) hn hd).mono ?_
  rintro e w1 ⟨rfl, hk1, hr1⟩
  have H1 : Hid (Keep rb w w1 ∧ Rdr rb s s.size (n + 1) w1) := ⟨((Keep.refl _ _).alloc _).trans hk1, hr1⟩
  have en := ended_any rb s s.size (n + 1) w1 hr1
  rw [show ((s.size : Int) == (s.size : Int)) = true from by simp] at en
  have EN : Hid (Calls Tryz.prog 72 #[.pointer (some ⟨rb, 0, none⟩)] w1 fun e w' => e = .returned (.bool true) ∧ Below w1.heap.size w1 w') := en
  clear hk1 hr1 en
  go_wp2_with fail
  refine EN.out.mono ?_
  rintro e w2 ⟨rfl, hb2⟩
  have H2 : Hid (Keep rb w w2 ∧ Rdr rb s s.size (n + 1) w2) := ⟨H1.out.1.below hb2, H1.out.2.below hb2⟩
  clear hb2 EN H1
  go_wp2_with fail
  refine (fault_any rb s s.size (n + 1) 2 _ H2.out.2).mono ?_
  rintro e w3 ⟨rfl, hb3⟩
  have hk : Keep rb w w3 := H2.out.1.below hb3
  clear hb3
  go_wp2_with fail
  exact ⟨rfl, rfl, hk⟩

/-- What is known where a reader's datum has looked at its byte. -/
structure Look (rb : Nat) (s : ByteArray) (i n : Nat) (w w2 : World) : Prop where
  keep : Keep rb w w2
  rdr : Rdr rb s i n w2
  six : Six w.heap.size w2

theorem Out.over {rb : Nat} {s : ByteArray} {w w2 : World} {x : Int × Int} {e : Ending} {w3 : World} (hk : Keep rb w w2) (h : Out rb s (.inl x) w2 e w3) : Out rb s (.inl x) w e w3 := ⟨h.1, hk.trans h.2⟩

set_option maxRecDepth 100000 in
set_option maxHeartbeats 3200000 in
/-- A list. -/
theorem datum_open (rb : Nat) (s : ByteArray) (i n : Nat) (dp : Int) (w : World) (h : Rdr rb s i n w) (hi : i < s.size) (hs : s.size ≤ 6000) (hn : n ≤ 1999) (hd0 : 1 ≤ dp) (hd : dp ≤ 40) (r : Rd Dat) (b1 : ((s[i].toNat : Int) == 40) = true)
    (hc : ∀ w, Rdr rb s i (n + 1) w → Calls Tryz.prog 98 #[.pointer (some ⟨rb, 0, none⟩), .int .i64 dp] w (Out rb s r w)) :
    Calls Tryz.prog 73 #[.pointer (some ⟨rb, 0, none⟩), .int .i64 dp] w (Out rb s r w) := by
  have HC : Hid (∀ w, Rdr rb s i (n + 1) w → Calls Tryz.prog 98 #[.pointer (some ⟨rb, 0, none⟩), .int .i64 dp] w (Out rb s r w)) := hc
  have l1 := h.lt
  have HR : Hid (Rdr rb s i n w) := h
  clear h hc
  go_enter Tryz.func73, Tryz.ntmps73
  go_wp2_with fail
  refine (count_ok rb s i n dp _ (HR.out.alloc _) hn hd).mono ?_
  rintro e w1 ⟨rfl, hk1, hr1⟩
  have H1 : Hid (Look rb s i (n + 1) w w1) := ⟨((Keep.refl _ _).alloc _).trans hk1, hr1, (Six.made w).keep hk1 (Nat.ne_of_gt l1)⟩
  have en := ended_any rb s i (n + 1) w1 hr1
  rw [show ((i : Int) == (s.size : Int)) = false from by simp; omega] at en
  have EN : Hid (Calls Tryz.prog 72 #[.pointer (some ⟨rb, 0, none⟩)] w1 fun e w' => e = .returned (.bool false) ∧ Below w1.heap.size w1 w') := en
  clear hk1 hr1 en
  go_wp2_with fail
  refine EN.out.mono ?_
  rintro e w2 ⟨rfl, hb2⟩
  have hl2 : Look rb s i (n + 1) w w2 := ⟨H1.out.keep.below hb2, H1.out.rdr.below hb2, H1.out.six.after hb2⟩
  have c0 := hl2.rdr.c0
  have c1 := hl2.rdr.c1
  have H2 : Hid (Look rb s i (n + 1) w w2) := hl2
  clear hb2 EN H1 hl2
  go_wp2_with fail
  go_quiet (fail)
  go_wp2_with fail
  refine (HC.out _ (H2.out.rdr.drewN _)).mono ?_
  intro e w3 hout
  clear c0 c1
  cases r with
  | inl x =>
    have H3 : Hid (Out rb s (.inl x) w e w3) := Out.over (H2.out.keep.drewN _) hout
    obtain ⟨rfl, _⟩ := hout
    go_wp2_with fail
    exact ⟨rfl, H3.out⟩
  | inr y =>
    obtain ⟨d, j, m⟩ := y
    obtain ⟨hk3, hr3, a', cap', f', rfl, hdw⟩ := hout
    have hz2 := H2.out.six.lt
    have hz3 : w2.heap.size ≤ w3.heap.size := hk3.size
    have H3 : Hid (Keep rb w w3 ∧ Rdr rb s j m w3 ∧ Dw (fun b => w2.heap.size ≤ b ∧ b < w3.heap.size) w3 f' a' cap' d.kids) := ⟨(H2.out.keep.drewN _).trans hk3, hr3, Dw.stay (fun _ _ => rfl) (fun b hb => hb) f' _ _ _ hdw⟩
    obtain ⟨x0, x1, x2, x3, x4, x5, x6, x7⟩ := (H2.out.six.after (below_drewN (Below.refl _ _) _)).keep hk3 (Nat.ne_of_gt l1)
    clear hk3 hr3 hdw
    unfold dv
    go_wp2_with fail
    refine bodyPost_ret (v := dv d a' cap') (by simp [results, Tryz.results73, go_sem, dv, x1, x2, x3, x4, x5, x6]) rfl ?_
    have hh := six_heapT w3 w.heap.size (.int .i64 d.kind) (.int .i64 d.n) (.string d.name) (.int .i64 d.stamp) (.int .i64 d.lib) (.slice a' d.kids.length cap')
    refine ⟨keep_six H3.out.1 (Nat.le_refl _) _ _ _ _ _ _, H3.out.2.1.six (Nat.ne_of_gt l1) _ _ _ _ _ _, a', cap', f', rfl, ?_⟩
    refine Dw.stay ?_ ?_ f' _ _ _ H3.out.2.2
    · intro b hb
      exact hh.1 b (by have := hb.1; omega)
    · intro b hb
      refine ⟨by have := hb.1; omega, ?_⟩
      rw [hh.2]
      exact hb.2

set_option maxRecDepth 100000 in
set_option maxHeartbeats 3200000 in
/-- A quote. -/
theorem datum_tick (rb : Nat) (s : ByteArray) (i n : Nat) (dp : Int) (w : World) (h : Rdr rb s i n w) (hi : i < s.size) (hs : s.size ≤ 6000) (hn : n ≤ 1999) (hd0 : 1 ≤ dp) (hd : dp ≤ 40) (r : Rd Dat) (b1 : ((s[i].toNat : Int) == 40) = false) (b2 : ((s[i].toNat : Int) == 39) = true)
    (hc : ∀ w, Rdr rb s i (n + 1) w → Calls Tryz.prog 99 #[.pointer (some ⟨rb, 0, none⟩), .int .i64 dp] w (Out rb s r w)) :
    Calls Tryz.prog 73 #[.pointer (some ⟨rb, 0, none⟩), .int .i64 dp] w (Out rb s r w) := by
  have HC : Hid (∀ w, Rdr rb s i (n + 1) w → Calls Tryz.prog 99 #[.pointer (some ⟨rb, 0, none⟩), .int .i64 dp] w (Out rb s r w)) := hc
  have l1 := h.lt
  have HR : Hid (Rdr rb s i n w) := h
  clear h hc
  go_enter Tryz.func73, Tryz.ntmps73
  go_wp2_with fail
  refine (count_ok rb s i n dp _ (HR.out.alloc _) hn hd).mono ?_
  rintro e w1 ⟨rfl, hk1, hr1⟩
  have H1 : Hid (Look rb s i (n + 1) w w1) := ⟨((Keep.refl _ _).alloc _).trans hk1, hr1, (Six.made w).keep hk1 (Nat.ne_of_gt l1)⟩
  have en := ended_any rb s i (n + 1) w1 hr1
  rw [show ((i : Int) == (s.size : Int)) = false from by simp; omega] at en
  have EN : Hid (Calls Tryz.prog 72 #[.pointer (some ⟨rb, 0, none⟩)] w1 fun e w' => e = .returned (.bool false) ∧ Below w1.heap.size w1 w') := en
  clear hk1 hr1 en
  go_wp2_with fail
  refine EN.out.mono ?_
  rintro e w2 ⟨rfl, hb2⟩
  have hl2 : Look rb s i (n + 1) w w2 := ⟨H1.out.keep.below hb2, H1.out.rdr.below hb2, H1.out.six.after hb2⟩
  have c0 := hl2.rdr.c0
  have c1 := hl2.rdr.c1
  have H2 : Hid (Look rb s i (n + 1) w w2) := hl2
  clear hb2 EN H1 hl2
  go_wp2_with fail
  go_quiet (fail)
  go_wp2_with fail
  refine (HC.out _ (H2.out.rdr.drewN _)).mono ?_
  intro e w3 hout
  clear c0 c1
  cases r with
  | inl x =>
    have H3 : Hid (Out rb s (.inl x) w e w3) := Out.over (H2.out.keep.drewN _) hout
    obtain ⟨rfl, _⟩ := hout
    go_wp2_with fail
    exact ⟨rfl, H3.out⟩
  | inr y =>
    obtain ⟨d, j, m⟩ := y
    obtain ⟨hk3, hr3, a', cap', f', rfl, hdw⟩ := hout
    have hz2 := H2.out.six.lt
    have hz3 : w2.heap.size ≤ w3.heap.size := hk3.size
    have H3 : Hid (Keep rb w w3 ∧ Rdr rb s j m w3 ∧ Dw (fun b => w2.heap.size ≤ b ∧ b < w3.heap.size) w3 f' a' cap' d.kids) := ⟨(H2.out.keep.drewN _).trans hk3, hr3, Dw.stay (fun _ _ => rfl) (fun b hb => hb) f' _ _ _ hdw⟩
    obtain ⟨x0, x1, x2, x3, x4, x5, x6, x7⟩ := (H2.out.six.after (below_drewN (Below.refl _ _) _)).keep hk3 (Nat.ne_of_gt l1)
    clear hk3 hr3 hdw
    unfold dv
    go_wp2_with fail
    refine bodyPost_ret (v := dv d a' cap') (by simp [results, Tryz.results73, go_sem, dv, x1, x2, x3, x4, x5, x6]) rfl ?_
    have hh := six_heapT w3 w.heap.size (.int .i64 d.kind) (.int .i64 d.n) (.string d.name) (.int .i64 d.stamp) (.int .i64 d.lib) (.slice a' d.kids.length cap')
    refine ⟨keep_six H3.out.1 (Nat.le_refl _) _ _ _ _ _ _, H3.out.2.1.six (Nat.ne_of_gt l1) _ _ _ _ _ _, a', cap', f', rfl, ?_⟩
    refine Dw.stay ?_ ?_ f' _ _ _ H3.out.2.2
    · intro b hb
      exact hh.1 b (by have := hb.1; omega)
    · intro b hb
      refine ⟨by have := hb.1; omega, ?_⟩
      rw [hh.2]
      exact hb.2

set_option maxRecDepth 100000 in
set_option maxHeartbeats 3200000 in
/-- A truth. -/
theorem datum_hash (rb : Nat) (s : ByteArray) (i n : Nat) (dp : Int) (w : World) (h : Rdr rb s i n w) (hi : i < s.size) (hs : s.size ≤ 6000) (hn : n ≤ 1999) (hd0 : 1 ≤ dp) (hd : dp ≤ 40) (r : Rd Dat) (b1 : ((s[i].toNat : Int) == 40) = false) (b2 : ((s[i].toNat : Int) == 39) = false) (b3 : ((s[i].toNat : Int) == 35) = true)
    (hc : ∀ w, Rdr rb s i (n + 1) w → Calls Tryz.prog 100 #[.pointer (some ⟨rb, 0, none⟩)] w (Out rb s r w)) :
    Calls Tryz.prog 73 #[.pointer (some ⟨rb, 0, none⟩), .int .i64 dp] w (Out rb s r w) := by
  have HC : Hid (∀ w, Rdr rb s i (n + 1) w → Calls Tryz.prog 100 #[.pointer (some ⟨rb, 0, none⟩)] w (Out rb s r w)) := hc
  have l1 := h.lt
  have HR : Hid (Rdr rb s i n w) := h
  clear h hc
  go_enter Tryz.func73, Tryz.ntmps73
  go_wp2_with fail
  refine (count_ok rb s i n dp _ (HR.out.alloc _) hn hd).mono ?_
  rintro e w1 ⟨rfl, hk1, hr1⟩
  have H1 : Hid (Look rb s i (n + 1) w w1) := ⟨((Keep.refl _ _).alloc _).trans hk1, hr1, (Six.made w).keep hk1 (Nat.ne_of_gt l1)⟩
  have en := ended_any rb s i (n + 1) w1 hr1
  rw [show ((i : Int) == (s.size : Int)) = false from by simp; omega] at en
  have EN : Hid (Calls Tryz.prog 72 #[.pointer (some ⟨rb, 0, none⟩)] w1 fun e w' => e = .returned (.bool false) ∧ Below w1.heap.size w1 w') := en
  clear hk1 hr1 en
  go_wp2_with fail
  refine EN.out.mono ?_
  rintro e w2 ⟨rfl, hb2⟩
  have hl2 : Look rb s i (n + 1) w w2 := ⟨H1.out.keep.below hb2, H1.out.rdr.below hb2, H1.out.six.after hb2⟩
  have c0 := hl2.rdr.c0
  have c1 := hl2.rdr.c1
  have H2 : Hid (Look rb s i (n + 1) w w2) := hl2
  clear hb2 EN H1 hl2
  go_wp2_with fail
  go_quiet (fail)
  go_wp2_with fail
  refine (HC.out _ (H2.out.rdr.drewN _)).mono ?_
  intro e w3 hout
  clear c0 c1
  cases r with
  | inl x =>
    have H3 : Hid (Out rb s (.inl x) w e w3) := Out.over (H2.out.keep.drewN _) hout
    obtain ⟨rfl, _⟩ := hout
    go_wp2_with fail
    exact ⟨rfl, H3.out⟩
  | inr y =>
    obtain ⟨d, j, m⟩ := y
    obtain ⟨hk3, hr3, a', cap', f', rfl, hdw⟩ := hout
    have hz2 := H2.out.six.lt
    have hz3 : w2.heap.size ≤ w3.heap.size := hk3.size
    have H3 : Hid (Keep rb w w3 ∧ Rdr rb s j m w3 ∧ Dw (fun b => w2.heap.size ≤ b ∧ b < w3.heap.size) w3 f' a' cap' d.kids) := ⟨(H2.out.keep.drewN _).trans hk3, hr3, Dw.stay (fun _ _ => rfl) (fun b hb => hb) f' _ _ _ hdw⟩
    obtain ⟨x0, x1, x2, x3, x4, x5, x6, x7⟩ := (H2.out.six.after (below_drewN (Below.refl _ _) _)).keep hk3 (Nat.ne_of_gt l1)
    clear hk3 hr3 hdw
    unfold dv
    go_wp2_with fail
    refine bodyPost_ret (v := dv d a' cap') (by simp [results, Tryz.results73, go_sem, dv, x1, x2, x3, x4, x5, x6]) rfl ?_
    have hh := six_heapT w3 w.heap.size (.int .i64 d.kind) (.int .i64 d.n) (.string d.name) (.int .i64 d.stamp) (.int .i64 d.lib) (.slice a' d.kids.length cap')
    refine ⟨keep_six H3.out.1 (Nat.le_refl _) _ _ _ _ _ _, H3.out.2.1.six (Nat.ne_of_gt l1) _ _ _ _ _ _, a', cap', f', rfl, ?_⟩
    refine Dw.stay ?_ ?_ f' _ _ _ H3.out.2.2
    · intro b hb
      exact hh.1 b (by have := hb.1; omega)
    · intro b hb
      refine ⟨by have := hb.1; omega, ?_⟩
      rw [hh.2]
      exact hb.2

set_option maxRecDepth 100000 in
set_option maxHeartbeats 3200000 in
/-- A word. -/
theorem datum_word (rb : Nat) (s : ByteArray) (i n : Nat) (dp : Int) (w : World) (h : Rdr rb s i n w) (hi : i < s.size) (hs : s.size ≤ 6000) (hn : n ≤ 1999) (hd0 : 1 ≤ dp) (hd : dp ≤ 40) (r : Rd Dat) (b1 : ((s[i].toNat : Int) == 40) = false) (b2 : ((s[i].toNat : Int) == 39) = false) (b3 : ((s[i].toNat : Int) == 35) = false) (b4 : letB (s[i].toNat : Int) = true)
    (hc : ∀ w, Rdr rb s i (n + 1) w → Calls Tryz.prog 101 #[.pointer (some ⟨rb, 0, none⟩)] w (Out rb s r w)) :
    Calls Tryz.prog 73 #[.pointer (some ⟨rb, 0, none⟩), .int .i64 dp] w (Out rb s r w) := by
  have HC : Hid (∀ w, Rdr rb s i (n + 1) w → Calls Tryz.prog 101 #[.pointer (some ⟨rb, 0, none⟩)] w (Out rb s r w)) := hc
  have l1 := h.lt
  have HR : Hid (Rdr rb s i n w) := h
  clear h hc
  have hbd := s[i].toNat_lt
  have LC : Hid (∀ w, Calls Tryz.prog 74 #[.int .u8 (s[i].toNat : Int)] w fun e w' => e = .returned (.bool true) ∧ w' = w) := fun w => by
    have := letter_any (s[i].toNat : Int) (by omega) (by omega) w
    rwa [b4] at this
  clear b4
  go_enter Tryz.func73, Tryz.ntmps73
  go_wp2_with fail
  refine (count_ok rb s i n dp _ (HR.out.alloc _) hn hd).mono ?_
  rintro e w1 ⟨rfl, hk1, hr1⟩
  have H1 : Hid (Look rb s i (n + 1) w w1) := ⟨((Keep.refl _ _).alloc _).trans hk1, hr1, (Six.made w).keep hk1 (Nat.ne_of_gt l1)⟩
  have en := ended_any rb s i (n + 1) w1 hr1
  rw [show ((i : Int) == (s.size : Int)) = false from by simp; omega] at en
  have EN : Hid (Calls Tryz.prog 72 #[.pointer (some ⟨rb, 0, none⟩)] w1 fun e w' => e = .returned (.bool false) ∧ Below w1.heap.size w1 w') := en
  clear hk1 hr1 en
  go_wp2_with fail
  refine EN.out.mono ?_
  rintro e w2 ⟨rfl, hb2⟩
  have hl2 : Look rb s i (n + 1) w w2 := ⟨H1.out.keep.below hb2, H1.out.rdr.below hb2, H1.out.six.after hb2⟩
  have c0 := hl2.rdr.c0
  have c1 := hl2.rdr.c1
  have H2 : Hid (Look rb s i (n + 1) w w2) := hl2
  clear hb2 EN H1 hl2
  go_wp2_with fail
  go_quiet (fail)
  go_wp2_with fail
  refine (LC.out _).mono ?_
  rintro e w' ⟨rfl, rfl⟩
  go_wp2_with fail
  refine (HC.out _ (H2.out.rdr.drewN _)).mono ?_
  intro e w3 hout
  clear c0 c1
  cases r with
  | inl x =>
    have H3 : Hid (Out rb s (.inl x) w e w3) := Out.over (H2.out.keep.drewN _) hout
    obtain ⟨rfl, _⟩ := hout
    go_wp2_with fail
    exact ⟨rfl, H3.out⟩
  | inr y =>
    obtain ⟨d, j, m⟩ := y
    obtain ⟨hk3, hr3, a', cap', f', rfl, hdw⟩ := hout
    have hz2 := H2.out.six.lt
    have hz3 : w2.heap.size ≤ w3.heap.size := hk3.size
    have H3 : Hid (Keep rb w w3 ∧ Rdr rb s j m w3 ∧ Dw (fun b => w2.heap.size ≤ b ∧ b < w3.heap.size) w3 f' a' cap' d.kids) := ⟨(H2.out.keep.drewN _).trans hk3, hr3, Dw.stay (fun _ _ => rfl) (fun b hb => hb) f' _ _ _ hdw⟩
    obtain ⟨x0, x1, x2, x3, x4, x5, x6, x7⟩ := (H2.out.six.after (below_drewN (Below.refl _ _) _)).keep hk3 (Nat.ne_of_gt l1)
    clear hk3 hr3 hdw
    unfold dv
    go_wp2_with fail
    refine bodyPost_ret (v := dv d a' cap') (by simp [results, Tryz.results73, go_sem, dv, x1, x2, x3, x4, x5, x6]) rfl ?_
    have hh := six_heapT w3 w.heap.size (.int .i64 d.kind) (.int .i64 d.n) (.string d.name) (.int .i64 d.stamp) (.int .i64 d.lib) (.slice a' d.kids.length cap')
    refine ⟨keep_six H3.out.1 (Nat.le_refl _) _ _ _ _ _ _, H3.out.2.1.six (Nat.ne_of_gt l1) _ _ _ _ _ _, a', cap', f', rfl, ?_⟩
    refine Dw.stay ?_ ?_ f' _ _ _ H3.out.2.2
    · intro b hb
      exact hh.1 b (by have := hb.1; omega)
    · intro b hb
      refine ⟨by have := hb.1; omega, ?_⟩
      rw [hh.2]
      exact hb.2

set_option maxRecDepth 100000 in
set_option maxHeartbeats 3200000 in
/-- No datum begins. -/
theorem datum_none (rb : Nat) (s : ByteArray) (i n : Nat) (dp : Int) (w : World) (h : Rdr rb s i n w) (hi : i < s.size) (hs : s.size ≤ 6000) (hn : n ≤ 1999) (hd0 : 1 ≤ dp) (hd : dp ≤ 40) (b1 : ((s[i].toNat : Int) == 40) = false) (b2 : ((s[i].toNat : Int) == 39) = false) (b3 : ((s[i].toNat : Int) == 35) = false) (b4 : letB (s[i].toNat : Int) = false) :
    Calls Tryz.prog 73 #[.pointer (some ⟨rb, 0, none⟩), .int .i64 dp] w (Out rb s (.inl (2, (i : Int))) w) := by
  have l1 := h.lt
  have HR : Hid (Rdr rb s i n w) := h
  clear h
  have hbd := s[i].toNat_lt
  have LC : Hid (∀ w, Calls Tryz.prog 74 #[.int .u8 (s[i].toNat : Int)] w fun e w' => e = .returned (.bool false) ∧ w' = w) := fun w => by
    have := letter_any (s[i].toNat : Int) (by omega) (by omega) w
    rwa [b4] at this
  clear b4
  go_enter Tryz.func73, Tryz.ntmps73
  go_wp2_with fail
  refine (count_ok rb s i n dp _ (HR.out.alloc _) hn hd).mono ?_
  rintro e w1 ⟨rfl, hk1, hr1⟩
  have H1 : Hid (Look rb s i (n + 1) w w1) := ⟨((Keep.refl _ _).alloc _).trans hk1, hr1, (Six.made w).keep hk1 (Nat.ne_of_gt l1)⟩
  have en := ended_any rb s i (n + 1) w1 hr1
  rw [show ((i : Int) == (s.size : Int)) = false from by simp; omega] at en
  have EN : Hid (Calls Tryz.prog 72 #[.pointer (some ⟨rb, 0, none⟩)] w1 fun e w' => e = .returned (.bool false) ∧ Below w1.heap.size w1 w') := en
  clear hk1 hr1 en
  go_wp2_with fail
  refine EN.out.mono ?_
  rintro e w2 ⟨rfl, hb2⟩
  have hl2 : Look rb s i (n + 1) w w2 := ⟨H1.out.keep.below hb2, H1.out.rdr.below hb2, H1.out.six.after hb2⟩
  have c0 := hl2.rdr.c0
  have c1 := hl2.rdr.c1
  have H2 : Hid (Look rb s i (n + 1) w w2) := hl2
  clear hb2 EN H1 hl2
  go_wp2_with fail
  go_quiet (fail)
  go_wp2_with fail
  refine (LC.out _).mono ?_
  rintro e w' ⟨rfl, rfl⟩
  go_wp2_with fail
  refine (fault_any rb s i (n + 1) 2 _ (H2.out.rdr.drewN _)).mono ?_
  rintro e w3 ⟨rfl, hb3⟩
  have hk : Keep rb w w3 := (H2.out.keep.drewN _).below hb3
  clear hb3
  go_wp2_with fail
  exact ⟨rfl, rfl, hk⟩
end
end Go.Proofs.YtonafbennobgdaaGreatDoor
