/- The document's reader: One, where it ends at once; truths. -/
import Derived.Test.YtagpcafbeplccaaDoorQb
namespace Go.Proofs.YtagpcafbeplccaaDoor
set_option linter.unusedVariables false
set_option linter.unusedSimpArgs false
open Go.RowKit

/-- What the document's One leaves. -/
def OutW (rb : Nat) (s : ByteArray) (r : Rd Dat) (w : World) (e : Ending) (w' : World) : Prop :=
  match r with
  | .inl x => Keep rb w w' ∧ ∃ (d : Dat) (a : Option Addr) (cap : Nat), e = .returned (dv d a cap) ∧ ∃ j m, j ≤ s.size ∧ Wk rb s j m x w'
  | .inr (d, j, m) => Keep rb w w' ∧ Wk rb s j m (0, 0) w' ∧ ∃ a cap f, e = .returned (dv d a cap) ∧ Dw (New w w') w' f a d.kids

theorem letter_is (c : UInt8) (w : World) : Calls Tryd.prog 27 #[.int .u8 (c.toNat : Int)] w fun e w' => e = .returned (.bool (letB (c.toNat : Int))) ∧ Below w.heap.size w w' := by
  have := c.toNat_lt
  exact Letter_any (c.toNat : Int) (by omega) (by omega) w

def dat0 : Dat := ⟨0, 0, ⟨#[]⟩, 0, 0, []⟩

theorem good_yes (rb : Nat) (s : ByteArray) (i n : Nat) (w : World) (h : Wk rb s i n (0, 0) w) : Calls Tryd.prog 22 #[.pointer (some ⟨rb, 0, none⟩)] w fun e w' => e = .returned (.bool true) ∧ w' = w := good_any rb s i n (0, 0) w h

theorem good_no (rb : Nat) (s : ByteArray) (i n : Nat) (x : Int × Int) (w : World) (h : Wk rb s i n x w) (hx : x.1 ≠ 0) : Calls Tryd.prog 22 #[.pointer (some ⟨rb, 0, none⟩)] w fun e w' => e = .returned (.bool false) ∧ w' = w := by
  have := good_any rb s i n x w h
  rw [show (x.1 == 0) = false from by simpa using hx] at this
  exact this

theorem Wk.six {rb N : Nat} {s : ByteArray} {i n : Nat} {x : Int × Int} {w : World} (h : Wk rb s i n x w) (hN : N ≠ rb) (v0 v1 v2 v3 v4 v5 : Value) :
    Wk rb s i n x ((((((w.setCell ⟨N, 0, none⟩ v0).setCell ⟨N, 1, none⟩ v1).setCell ⟨N, 2, none⟩ v2).setCell ⟨N, 3, none⟩ v3).setCell ⟨N, 4, none⟩ v4).setCell ⟨N, 5, none⟩ v5) :=
  (((((h.put ⟨N, 0, none⟩ hN _).put ⟨N, 1, none⟩ hN _).put ⟨N, 2, none⟩ hN _).put ⟨N, 3, none⟩ hN _).put ⟨N, 4, none⟩ hN _).put ⟨N, 5, none⟩ hN _

/-- What stands behind One's first count. -/
structure Hd (rb : Nat) (s : ByteArray) (i n : Nat) (w w2 : World) : Prop where
  keep : Keep rb w w2
  wk : Wk rb s i n (0, 0) w2
  six : Six w.heap.size w2

theorem Hd.more {rb : Nat} {s : ByteArray} {i n : Nat} {w w2 w3 : World} (h : Hd rb s i n w w2) (hb : Below w2.heap.size w2 w3) : Hd rb s i n w w3 := ⟨h.keep.below hb, h.wk.below hb, h.six.after hb⟩
theorem Hd.kept {rb : Nat} {s : ByteArray} {i n j m : Nat} {w w2 w3 : World} (h : Hd rb s i n w w2) (hk : Keep rb w2 w3) (hw : Wk rb s j m (0, 0) w3) (hN : w.heap.size ≠ rb) : Hd rb s j m w w3 := ⟨h.keep.trans hk, hw, h.six.keep hk hN⟩
theorem Hd.drewN {rb : Nat} {s : ByteArray} {i n : Nat} {w w2 : World} (h : Hd rb s i n w w2) (k : Nat) : Hd rb s i n w (w2.drewN k) := h.more (below_drewN (Below.refl _ _) k)
theorem Hd.move {rb : Nat} {s : ByteArray} {i n : Nat} {w w2 : World} (h : Hd rb s i n w w2) (hN : w.heap.size ≠ rb) (j : Nat) (v : Int) (hv : v = (j : Int)) : Hd rb s j n w (w2.setCell ⟨rb, 1, none⟩ (.int .i64 v)) :=
  h.kept ((Keep.refl rb w2).setCell ⟨rb, 1, none⟩ rfl _) (h.wk.move j v hv) hN

set_option maxRecDepth 100000 in
set_option maxHeartbeats 1600000 in
theorem One_much (rb : Nat) (s : ByteArray) (i n : Nat) (dp : Int) (w : World) (h : Wk rb s i n (0, 0) w) (hi : i ≤ s.size) (hn : n = 2000 ∨ (n ≤ 1999 ∧ dp = 41)) :
    Calls Tryd.prog 23 #[.pointer (some ⟨rb, 0, none⟩), .int .i64 dp] w (OutW rb s (.inl (4, (i : Int))) w) := by
  have CT : Hid (∀ w, Wk rb s i n (0, 0) w → Calls Tryd.prog 39 #[.pointer (some ⟨rb, 0, none⟩), .int .i64 dp, .int .i64 (i : Int)] w fun e w' => e = .returned (.tuple #[]) ∧ Keep rb w w' ∧ Wk rb s i (n + 1) (4, (i : Int)) w') := fun w h => by
    rcases hn with hn | ⟨hn, hd⟩
    · exact rcount_much rb s i n dp i w h hn
    · rw [hd]; exact rcount_deep rb s i n i w h hn
  have HR : Hid (Wk rb s i n (0, 0) w) := h
  have c1 := h.c1
  have l1 := h.lt
  clear h hn
  go_enter Tryd.func23, Tryd.ntmps23
  go_wp2_with fail
  refine (CT.out _ (HR.out.alloc _)).mono ?_
  rintro e w1 ⟨rfl, hk1, hr1⟩
  have hsix : Six w.heap.size w1 := (Six.made w).keep hk1 (Nat.ne_of_gt l1)
  obtain ⟨x0, x1, x2, x3, x4, x5, x6, x7⟩ := hsix
  have H1 : Hid (Keep rb w w1 ∧ Wk rb s i (n + 1) (4, (i : Int)) w1) := ⟨((Keep.refl rb w).alloc _).trans hk1, hr1⟩
  clear hk1 hr1 c1 HR CT
  go_wp2_with fail
  refine (good_no rb s i (n + 1) (4, (i : Int)) _ H1.out.2 (by simp)).mono ?_
  rintro e w2 ⟨rfl, rfl⟩
  go_wp2_with fail
  refine bodyPost_ret (v := dv dat0 none 0) (by simp [results, Tryd.results23, go_sem, dv, dat0, x1, x2, x3, x4, x5, x6]) rfl ?_
  exact ⟨keep_six H1.out.1 (Nat.le_refl _) _ _ _ _ _ _, dat0, none, 0, rfl, i, n + 1, hi, H1.out.2.six (Nat.ne_of_gt l1) _ _ _ _ _ _⟩

set_option maxRecDepth 100000 in
set_option maxHeartbeats 1600000 in
theorem One_end (rb : Nat) (s : ByteArray) (i n : Nat) (dp : Int) (w : World) (h : Wk rb s i n (0, 0) w) (hi : i = s.size) (hs : s.size ≤ 6000) (hn : n ≤ 1999) (hd : dp ≤ 40) :
    Calls Tryd.prog 23 #[.pointer (some ⟨rb, 0, none⟩), .int .i64 dp] w (OutW rb s (.inl (2, (i : Int))) w) := by
  subst hi
  have HR : Hid (Wk rb s s.size n (0, 0) w) := h
  have c1 := h.c1
  have l1 := h.lt
  have hN : w.heap.size ≠ rb := Nat.ne_of_gt l1
  clear h
  go_enter Tryd.func23, Tryd.ntmps23
  go_wp2_with fail
  refine (rcount_ok rb s s.size n dp s.size _ (HR.out.alloc _) hn hd).mono ?_
  rintro e w1 ⟨rfl, hk1, hr1⟩
  have H1 : Hid (Hd rb s s.size (n + 1) w w1) := ⟨((Keep.refl rb w).alloc _).trans hk1, hr1, (Six.made w).keep hk1 hN⟩
  clear hk1 hr1 c1 HR
  go_wp2_with fail
  refine (good_yes rb s s.size (n + 1) _ H1.out.wk).mono ?_
  rintro e w2 ⟨rfl, rfl⟩
  have c0 := H1.out.wk.c0
  have c1 := H1.out.wk.c1
  have z1 := H1.out.wk.z 1
  go_wp2_with fail
  refine (stop_any rb s s.size (n + 1) 2 s.size _ H1.out.wk).mono ?_
  rintro e w3 ⟨rfl, hk3, hr3⟩
  obtain ⟨x0, x1, x2, x3, x4, x5, x6, x7⟩ := H1.out.six.keep hk3 hN
  have H3 : Hid (Keep rb w w3 ∧ Wk rb s s.size (n + 1) (2, (s.size : Int)) w3) := ⟨H1.out.keep.trans hk3, hr3⟩
  clear hk3 hr3 H1 c0 c1 z1
  go_wp2_with fail
  refine bodyPost_ret (v := dv dat0 none 0) (by simp [results, Tryd.results23, go_sem, dv, dat0, x1, x2, x3, x4, x5, x6]) rfl ?_
  exact ⟨keep_six H3.out.1 (Nat.le_refl _) _ _ _ _ _ _, dat0, none, 0, rfl, s.size, n + 1, Nat.le_refl _, H3.out.2.six hN _ _ _ _ _ _⟩

set_option maxRecDepth 100000 in
set_option maxHeartbeats 1600000 in
theorem One_bad (rb : Nat) (s : ByteArray) (i n : Nat) (dp : Int) (w : World) (h : Wk rb s i n (0, 0) w) (hi : i < s.size) (hs : s.size ≤ 6000) (hn : n ≤ 1999) (hd : dp ≤ 40) (h40 : s[i] ≠ 40) (h39 : s[i] ≠ 39) (h35 : s[i] ≠ 35) (hl : letB (s[i].toNat : Int) = false) :
    Calls Tryd.prog 23 #[.pointer (some ⟨rb, 0, none⟩), .int .i64 dp] w (OutW rb s (.inl (2, (i : Int))) w) := by
  have e40 : ((s[i].toNat : Int) == 40) = false := by rw [show ((40 : Int)) = ((40 : UInt8).toNat : Int) from rfl, byte_is]; simpa using h40
  have e39 : ((s[i].toNat : Int) == 39) = false := by rw [show ((39 : Int)) = ((39 : UInt8).toNat : Int) from rfl, byte_is]; simpa using h39
  have e35 : ((s[i].toNat : Int) == 35) = false := by rw [show ((35 : Int)) = ((35 : UInt8).toNat : Int) from rfl, byte_is]; simpa using h35
  have LT : Hid (∀ w, Calls Tryd.prog 27 #[.int .u8 (s[i].toNat : Int)] w fun e w' => e = .returned (.bool false) ∧ Below w.heap.size w w') := fun w => by
    have := letter_is s[i] w
    rw [hl] at this
    exact this
  clear h40 h39 h35 hl
  have HR : Hid (Wk rb s i n (0, 0) w) := h
  have c1 := h.c1
  have l1 := h.lt
  have hN : w.heap.size ≠ rb := Nat.ne_of_gt l1
  clear h
  go_enter Tryd.func23, Tryd.ntmps23
  go_wp2_with fail
  refine (rcount_ok rb s i n dp i _ (HR.out.alloc _) hn hd).mono ?_
  rintro e w1 ⟨rfl, hk1, hr1⟩
  have H1 : Hid (Hd rb s i (n + 1) w w1) := ⟨((Keep.refl rb w).alloc _).trans hk1, hr1, (Six.made w).keep hk1 hN⟩
  clear hk1 hr1 c1 HR
  go_wp2_with fail
  refine (good_yes rb s i (n + 1) _ H1.out.wk).mono ?_
  rintro e w2 ⟨rfl, rfl⟩
  have c0 := H1.out.wk.c0
  have c1 := H1.out.wk.c1
  have z1 := H1.out.wk.z 1
  go_wp2_with fail
  refine (LT.out _).mono ?_
  rintro e w3 ⟨rfl, hb3⟩
  have H3 : Hid (Hd rb s (i + 1) (n + 1) w w3) := (H1.out.move hN (i + 1) _ (by omega)).more hb3
  clear hb3 H1 c0 c1 z1 LT
  go_wp2_with fail
  refine (stop_any rb s (i + 1) (n + 1) 2 i _ H3.out.wk).mono ?_
  rintro e w4 ⟨rfl, hk4, hr4⟩
  obtain ⟨x0, x1, x2, x3, x4, x5, x6, x7⟩ := H3.out.six.keep hk4 hN
  have H4 : Hid (Keep rb w w4 ∧ Wk rb s (i + 1) (n + 1) (2, (i : Int)) w4) := ⟨H3.out.keep.trans hk4, hr4⟩
  clear hk4 hr4 H3
  go_wp2_with fail
  refine bodyPost_ret (v := dv dat0 none 0) (by simp [results, Tryd.results23, go_sem, dv, dat0, x1, x2, x3, x4, x5, x6]) rfl ?_
  exact ⟨keep_six H4.out.1 (Nat.le_refl _) _ _ _ _ _ _, dat0, none, 0, rfl, i + 1, n + 1, hi, H4.out.2.six hN _ _ _ _ _ _⟩

end Go.Proofs.YtagpcafbeplccaaDoor
