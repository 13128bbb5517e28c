/- The document's answer to what is wrong with data. -/
import Derived.Test.YtonafbennobgdaaGreatDoorK05
import Derived.Test.YtonafbennobgdaaGreatDoorK06
namespace Go.Proofs.YtonafbennobgdaaGreatDoor.R1
set_option linter.unusedVariables false
set_option linter.unusedSimpArgs false
open Go.RowKit
set_option maxRecDepth 100000
set_option maxHeartbeats 1600000
theorem Shape_deep (d : Dat) (a : Option Addr) (cap cb n : Nat) (w : World) (hn : n ≤ 2000) (hc : Ctr cb n w) :
 Calls Tryz.prog 57 #[dv d a cap, .int .i64 41, .pointer (some ⟨cb, 0, none⟩)] w (Told cb (4, n + 1) w) := by
 have c1 := hc.cell
 have f1 := hc.thaw
 have l1 := hc.lt
 have HC : Hid (Ctr cb n w) := hc
 clear hc
 obtain ⟨k, n', nm, st, lb, ks⟩ := d
 unfold dv
 by_cases h : (2000 : Int) < n + 1
 ·go_enter Tryz.func57, Tryz.ntmps57
  go_wp2_with fail
  go_ret
  exact ⟨rfl, ((Keep.refl _ _).setCell _ rfl _).alloc _, (HC.out.set (n + 1)).alloc _⟩
 go_enter Tryz.func57, Tryz.ntmps57
 go_wp2_with fail
 go_ret
 exact ⟨rfl, ((Keep.refl _ _).setCell _ rfl _).alloc _, (HC.out.set (n + 1)).alloc _⟩
theorem Shape_much (d : Dat) (a : Option Addr) (cap cb n : Nat) (dp : Int) (w : World) (hn : n = 2000) (hc : Ctr cb n w) :
 Calls Tryz.prog 57 #[dv d a cap, .int .i64 dp, .pointer (some ⟨cb, 0, none⟩)] w (Told cb (4, n + 1) w) := by
 have c1 := hc.cell
 have f1 := hc.thaw
 have l1 := hc.lt
 have HC : Hid (Ctr cb n w) := hc
 clear hc
 subst hn
 obtain ⟨k, n', nm, st, lb, ks⟩ := d
 unfold dv
 go_enter Tryz.func57, Tryz.ntmps57
 go_wp2_with fail
 go_ret
 exact ⟨rfl, ((Keep.refl _ _).setCell _ rfl _).alloc _, (HC.out.set (2000 + 1)).alloc _⟩
theorem Shape_num_lo (k n' st lb : Int) (nm : ByteArray) (ks : List Dat) (a : Option Addr) (cap cb n : Nat) (dp : Int) (w : World) (hs : nm.size ≤ maxLen) (hn : n ≤ 1999) (hd : dp ≤ 40) (hc : Ctr cb n w) (hk : k = 1) (hx : n' < -1000000000000000) :
 Calls Tryz.prog 57 #[dv ⟨k, n', nm, st, lb, ks⟩ a cap, .int .i64 dp, .pointer (some ⟨cb, 0, none⟩)] w (Told cb (3, n + 1) w) := by
 have c1 := hc.cell
 have f1 := hc.thaw
 have l1 := hc.lt
 have HC : Hid (Ctr cb n w) := hc
 clear hc
 unfold dv
 simp only
 subst hk
 go_enter Tryz.func57, Tryz.ntmps57
 go_wp2_with fail
 go_ret
 exact ⟨rfl, ((Keep.refl _ _).setCell _ rfl _).alloc _, (HC.out.set (n + 1)).alloc _⟩
theorem Shape_num_hi (k n' st lb : Int) (nm : ByteArray) (ks : List Dat) (a : Option Addr) (cap cb n : Nat) (dp : Int) (w : World) (hs : nm.size ≤ maxLen) (hn : n ≤ 1999) (hd : dp ≤ 40) (hc : Ctr cb n w) (hk : k = 1) (hx : 1000000000000000 < n') (hy : ¬ n' < -1000000000000000) :
 Calls Tryz.prog 57 #[dv ⟨k, n', nm, st, lb, ks⟩ a cap, .int .i64 dp, .pointer (some ⟨cb, 0, none⟩)] w (Told cb (3, n + 1) w) := by
 have c1 := hc.cell
 have f1 := hc.thaw
 have l1 := hc.lt
 have HC : Hid (Ctr cb n w) := hc
 clear hc
 unfold dv
 simp only
 subst hk
 go_enter Tryz.func57, Tryz.ntmps57
 go_wp2_with fail
 go_ret
 exact ⟨rfl, ((Keep.refl _ _).setCell _ rfl _).alloc _, (HC.out.set (n + 1)).alloc _⟩
theorem Shape_num (k n' st lb : Int) (nm : ByteArray) (ks : List Dat) (a : Option Addr) (cap cb n : Nat) (dp : Int) (w : World) (hs : nm.size ≤ maxLen) (hn : n ≤ 1999) (hd : dp ≤ 40) (hc : Ctr cb n w) (hk : k = 1) (hx : ¬ 1000000000000000 < n') (hy : ¬ n' < -1000000000000000) :
 Calls Tryz.prog 57 #[dv ⟨k, n', nm, st, lb, ks⟩ a cap, .int .i64 dp, .pointer (some ⟨cb, 0, none⟩)] w (Told cb (0, n + 1) w) := by
 have c1 := hc.cell
 have f1 := hc.thaw
 have l1 := hc.lt
 have HC : Hid (Ctr cb n w) := hc
 clear hc
 unfold dv
 simp only
 subst hk
 go_enter Tryz.func57, Tryz.ntmps57
 go_wp2_with fail
 go_ret
 exact ⟨rfl, ((Keep.refl _ _).setCell _ rfl _).alloc _, (HC.out.set (n + 1)).alloc _⟩
theorem Shape_bool_lo (k n' st lb : Int) (nm : ByteArray) (ks : List Dat) (a : Option Addr) (cap cb n : Nat) (dp : Int) (w : World) (hs : nm.size ≤ maxLen) (hn : n ≤ 1999) (hd : dp ≤ 40) (hc : Ctr cb n w) (hk : k = 2) (hx : n' < 0) :
 Calls Tryz.prog 57 #[dv ⟨k, n', nm, st, lb, ks⟩ a cap, .int .i64 dp, .pointer (some ⟨cb, 0, none⟩)] w (Told cb (3, n + 1) w) := by
 have c1 := hc.cell
 have f1 := hc.thaw
 have l1 := hc.lt
 have HC : Hid (Ctr cb n w) := hc
 clear hc
 unfold dv
 simp only
 subst hk
 go_enter Tryz.func57, Tryz.ntmps57
 go_wp2_with fail
 go_ret
 exact ⟨rfl, ((Keep.refl _ _).setCell _ rfl _).alloc _, (HC.out.set (n + 1)).alloc _⟩
theorem Shape_bool_hi (k n' st lb : Int) (nm : ByteArray) (ks : List Dat) (a : Option Addr) (cap cb n : Nat) (dp : Int) (w : World) (hs : nm.size ≤ maxLen) (hn : n ≤ 1999) (hd : dp ≤ 40) (hc : Ctr cb n w) (hk : k = 2) (hx : 1 < n') (hy : ¬ n' < 0) :
 Calls Tryz.prog 57 #[dv ⟨k, n', nm, st, lb, ks⟩ a cap, .int .i64 dp, .pointer (some ⟨cb, 0, none⟩)] w (Told cb (3, n + 1) w) := by
 have c1 := hc.cell
 have f1 := hc.thaw
 have l1 := hc.lt
 have HC : Hid (Ctr cb n w) := hc
 clear hc
 unfold dv
 simp only
 subst hk
 go_enter Tryz.func57, Tryz.ntmps57
 go_wp2_with fail
 go_ret
 exact ⟨rfl, ((Keep.refl _ _).setCell _ rfl _).alloc _, (HC.out.set (n + 1)).alloc _⟩
theorem Shape_bool (k n' st lb : Int) (nm : ByteArray) (ks : List Dat) (a : Option Addr) (cap cb n : Nat) (dp : Int) (w : World) (hs : nm.size ≤ maxLen) (hn : n ≤ 1999) (hd : dp ≤ 40) (hc : Ctr cb n w) (hk : k = 2) (hx : ¬ 1 < n') (hy : ¬ n' < 0) :
 Calls Tryz.prog 57 #[dv ⟨k, n', nm, st, lb, ks⟩ a cap, .int .i64 dp, .pointer (some ⟨cb, 0, none⟩)] w (Told cb (0, n + 1) w) := by
 have c1 := hc.cell
 have f1 := hc.thaw
 have l1 := hc.lt
 have HC : Hid (Ctr cb n w) := hc
 clear hc
 unfold dv
 simp only
 subst hk
 go_enter Tryz.func57, Tryz.ntmps57
 go_wp2_with fail
 go_ret
 exact ⟨rfl, ((Keep.refl _ _).setCell _ rfl _).alloc _, (HC.out.set (n + 1)).alloc _⟩
theorem Shape_sym_no (k n' st lb : Int) (nm : ByteArray) (ks : List Dat) (a : Option Addr) (cap cb n : Nat) (dp : Int) (w : World) (hs : nm.size ≤ maxLen) (hn : n ≤ 1999) (hd : dp ≤ 40) (hc : Ctr cb n w) (hk : k = 3) (hnm : namedB nm = false) :
 Calls Tryz.prog 57 #[dv ⟨k, n', nm, st, lb, ks⟩ a cap, .int .i64 dp, .pointer (some ⟨cb, 0, none⟩)] w (Told cb (7, n + 1) w) := by
 have c1 := hc.cell
 have f1 := hc.thaw
 have l1 := hc.lt
 have HC : Hid (Ctr cb n w) := hc
 clear hc
 unfold dv
 simp only
 subst hk
 have NA : Hid (∀ w, Calls Tryz.prog 82 #[.string nm] w fun e w' => e = .returned (.bool false) ∧ Below w.heap.size w w') := fun w => by
  have := refNamed_any nm hs w
  rwa [hnm] at this
 clear hnm
 go_enter Tryz.func57, Tryz.ntmps57
 go_wp2_with fail
 refine (NA.out _).mono ?_
 rintro e w1 ⟨rfl, hb1⟩
 have q3 : w1.cell? ⟨w.heap.size, 3, none⟩ = some (.int .i64 st) := box_cell hb1 (by simp [World.setCell]) 3
 have q4 : w1.cell? ⟨w.heap.size, 4, none⟩ = some (.int .i64 lb) := box_cell hb1 (by simp [World.setCell]) 4
 have hk1 : Keep cb w w1 := (((Keep.refl _ _).setCell _ rfl _).alloc _).below hb1
 have hc1 : Ctr cb (n + 1) w1 := ((HC.out.set (n + 1)).alloc _).below hb1
 clear hb1 NA
 go_wp2_with fail
 go_ret
 exact ⟨rfl, hk1, hc1⟩
theorem Shape_sym_st (k n' st lb : Int) (nm : ByteArray) (ks : List Dat) (a : Option Addr) (cap cb n : Nat) (dp : Int) (w : World) (hs : nm.size ≤ maxLen) (hn : n ≤ 1999) (hd : dp ≤ 40) (hc : Ctr cb n w) (hk : k = 3) (hnm : namedB nm = true) (hx : st ≠ 0) :
 Calls Tryz.prog 57 #[dv ⟨k, n', nm, st, lb, ks⟩ a cap, .int .i64 dp, .pointer (some ⟨cb, 0, none⟩)] w (Told cb (8, n + 1) w) := by
 have c1 := hc.cell
 have f1 := hc.thaw
 have l1 := hc.lt
 have HC : Hid (Ctr cb n w) := hc
 clear hc
 unfold dv
 simp only
 subst hk
 have hx' : (st != 0) = true := by simpa using hx
 have NA : Hid (∀ w, Calls Tryz.prog 82 #[.string nm] w fun e w' => e = .returned (.bool true) ∧ Below w.heap.size w w') := fun w => by
  have := refNamed_any nm hs w
  rwa [hnm] at this
 clear hnm
 go_enter Tryz.func57, Tryz.ntmps57
 go_wp2_with fail
 refine (NA.out _).mono ?_
 rintro e w1 ⟨rfl, hb1⟩
 have q3 : w1.cell? ⟨w.heap.size, 3, none⟩ = some (.int .i64 st) := box_cell hb1 (by simp [World.setCell]) 3
 have q4 : w1.cell? ⟨w.heap.size, 4, none⟩ = some (.int .i64 lb) := box_cell hb1 (by simp [World.setCell]) 4
 have hk1 : Keep cb w w1 := (((Keep.refl _ _).setCell _ rfl _).alloc _).below hb1
 have hc1 : Ctr cb (n + 1) w1 := ((HC.out.set (n + 1)).alloc _).below hb1
 clear hb1 NA
 go_wp2_with fail
 go_ret
 exact ⟨rfl, hk1, hc1⟩
theorem Shape_sym_lb (k n' st lb : Int) (nm : ByteArray) (ks : List Dat) (a : Option Addr) (cap cb n : Nat) (dp : Int) (w : World) (hs : nm.size ≤ maxLen) (hn : n ≤ 1999) (hd : dp ≤ 40) (hc : Ctr cb n w) (hk : k = 3) (hnm : namedB nm = true) (hx : st = 0) (hy : lb ≠ 0) :
 Calls Tryz.prog 57 #[dv ⟨k, n', nm, st, lb, ks⟩ a cap, .int .i64 dp, .pointer (some ⟨cb, 0, none⟩)] w (Told cb (8, n + 1) w) := by
 have c1 := hc.cell
 have f1 := hc.thaw
 have l1 := hc.lt
 have HC : Hid (Ctr cb n w) := hc
 clear hc
 unfold dv
 simp only
 subst hk hx
 have hy' : (lb != 0) = true := by simpa using hy
 have NA : Hid (∀ w, Calls Tryz.prog 82 #[.string nm] w fun e w' => e = .returned (.bool true) ∧ Below w.heap.size w w') := fun w => by
  have := refNamed_any nm hs w
  rwa [hnm] at this
 clear hnm
 go_enter Tryz.func57, Tryz.ntmps57
 go_wp2_with fail
 refine (NA.out _).mono ?_
 rintro e w1 ⟨rfl, hb1⟩
 have q3 : w1.cell? ⟨w.heap.size, 3, none⟩ = some (.int .i64 0) := box_cell hb1 (by simp [World.setCell]) 3
 have q4 : w1.cell? ⟨w.heap.size, 4, none⟩ = some (.int .i64 lb) := box_cell hb1 (by simp [World.setCell]) 4
 have hk1 : Keep cb w w1 := (((Keep.refl _ _).setCell _ rfl _).alloc _).below hb1
 have hc1 : Ctr cb (n + 1) w1 := ((HC.out.set (n + 1)).alloc _).below hb1
 clear hb1 NA
 go_wp2_with fail
 go_ret
 exact ⟨rfl, hk1, hc1⟩
theorem Shape_sym (k n' st lb : Int) (nm : ByteArray) (ks : List Dat) (a : Option Addr) (cap cb n : Nat) (dp : Int) (w : World) (hs : nm.size ≤ maxLen) (hn : n ≤ 1999) (hd : dp ≤ 40) (hc : Ctr cb n w) (hk : k = 3) (hnm : namedB nm = true) (hx : st = 0) (hy : lb = 0) :
 Calls Tryz.prog 57 #[dv ⟨k, n', nm, st, lb, ks⟩ a cap, .int .i64 dp, .pointer (some ⟨cb, 0, none⟩)] w (Told cb (0, n + 1) w) := by
 have c1 := hc.cell
 have f1 := hc.thaw
 have l1 := hc.lt
 have HC : Hid (Ctr cb n w) := hc
 clear hc
 unfold dv
 simp only
 subst hk hx hy
 have NA : Hid (∀ w, Calls Tryz.prog 82 #[.string nm] w fun e w' => e = .returned (.bool true) ∧ Below w.heap.size w w') := fun w => by
  have := refNamed_any nm hs w
  rwa [hnm] at this
 clear hnm
 go_enter Tryz.func57, Tryz.ntmps57
 go_wp2_with fail
 refine (NA.out _).mono ?_
 rintro e w1 ⟨rfl, hb1⟩
 have q3 : w1.cell? ⟨w.heap.size, 3, none⟩ = some (.int .i64 0) := box_cell hb1 (by simp [World.setCell]) 3
 have q4 : w1.cell? ⟨w.heap.size, 4, none⟩ = some (.int .i64 0) := box_cell hb1 (by simp [World.setCell]) 4
 have hk1 : Keep cb w w1 := (((Keep.refl _ _).setCell _ rfl _).alloc _).below hb1
 have hc1 : Ctr cb (n + 1) w1 := ((HC.out.set (n + 1)).alloc _).below hb1
 clear hb1 NA
 go_wp2_with fail
 go_ret
 exact ⟨rfl, hk1, hc1⟩
theorem Shape_kind (k n' st lb : Int) (nm : ByteArray) (ks : List Dat) (a : Option Addr) (cap cb n : Nat) (dp : Int) (w : World) (hs : nm.size ≤ maxLen) (hn : n ≤ 1999) (hd : dp ≤ 40) (hc : Ctr cb n w) (k1 : k ≠ 1) (k2 : k ≠ 2) (k3 : k ≠ 3) (k4 : k ≠ 4) :
 Calls Tryz.prog 57 #[dv ⟨k, n', nm, st, lb, ks⟩ a cap, .int .i64 dp, .pointer (some ⟨cb, 0, none⟩)] w (Told cb (1, n + 1) w) := by
 have c1 := hc.cell
 have f1 := hc.thaw
 have l1 := hc.lt
 have HC : Hid (Ctr cb n w) := hc
 clear hc
 unfold dv
 simp only
 have k1' : (k == 1) = false := by simpa using k1
 have k2' : (k == 2) = false := by simpa using k2
 have k3' : (k == 3) = false := by simpa using k3
 have k4' : (k == 4) = false := by simpa using k4
 clear k1 k2 k3 k4
 go_enter Tryz.func57, Tryz.ntmps57
 go_wp2_with fail
 go_ret
 exact ⟨rfl, ((Keep.refl _ _).setCell _ rfl _).alloc _, (HC.out.set (n + 1)).alloc _⟩
theorem Shape_list (B f g : Nat) (d : Dat) (a : Option Addr) (cap cb n : Nat) (dp : Int) (w : World) (hl : Lies B w g a d.kids) (hn : n ≤ 1999) (hd0 : 1 ≤ dp) (hd : dp ≤ 40) (hB : B ≤ cb) (hc : Ctr cb n w) (hk : d.kind = 4)
 (ih : ∀ (g : Nat) (d : Dat) (a : Option Addr) (cap n : Nat) (w : World), Lies B w g a d.kids → d.name.size ≤ maxLen → n ≤ 2000 → Ctr cb n w → Calls Tryz.prog 57 #[dv d a cap, .int .i64 (dp + 1), .pointer (some ⟨cb, 0, none⟩)] w (Told cb (chk f d n) w)) :
 Calls Tryz.prog 57 #[dv d a cap, .int .i64 dp, .pointer (some ⟨cb, 0, none⟩)] w (Told cb (chkL (chk f) d.kids (n + 1)) w) := by
 have IH : Hid (∀ (g : Nat) (d : Dat) (a : Option Addr) (cap n : Nat) (w : World), Lies B w g a d.kids → d.name.size ≤ maxLen → n ≤ 2000 → Ctr cb n w → Calls Tryz.prog 57 #[dv d a cap, .int .i64 (dp + 1), .pointer (some ⟨cb, 0, none⟩)] w (Told cb (chk f d n) w)) := ih
 have hlen := hl.len
 have HL : Hid (Lies B w g a d.kids) := hl
 have c1 := hc.cell
 have f1 := hc.thaw
 have l1 := hc.lt
 have HC : Hid (Ctr cb n w) := hc
 clear hc hl ih
 obtain ⟨k, n', nm, st, lb, ks⟩ := d
 unfold dv
 simp only at hk hlen HL ⊢
 subst hk
 go_enter Tryz.func57, Tryz.ntmps57
 go_wp2_with fail
 go_loopw [65] (fun i wr => ∃ j m : Nat, j ≤ ks.length ∧ m ≤ 2000 ∧ i = .int .i64 j ∧ Keep cb w wr ∧ Ctr cb m wr ∧ chkL (chk f) ks (n + 1) = chkL (chk f) (ks.drop j) m) (fun i _ => ks.length - (intOf i).toNat)
 case atStart => exact ⟨0, n + 1, Nat.zero_le _, by omega, rfl, ((Keep.refl _ _).setCell _ rfl _).alloc _, (HC.out.set (n + 1)).alloc _, rfl⟩
 clear c1 f1
 obtain ⟨j, m, hj, hm, rfl, hkr, hcr, he⟩ := hrel
 have HEQ : Hid (chkL (chk f) ks (n + 1) = chkL (chk f) (ks.drop j) m) := he
 clear he
 by_cases hlt : j < ks.length
 rotate_left
 ·obtain rfl : j = ks.length := by omega
  rw [List.drop_length] at HEQ
  clear IH HL HC
  have HK2 : Hid (Keep cb w wr ∧ Ctr cb m wr) := ⟨hkr, hcr⟩
  clear hkr hcr
  go_wp2_with fail
  go_ret
  refine ⟨?_, HK2.out.1, ?_⟩
  ·rw [HEQ.out]; rfl
  rw [HEQ.out]; exact HK2.out.2
 obtain ⟨kid, hkid⟩ : ∃ kid, ks[j]? = some kid := ⟨ks[j], List.getElem?_eq_getElem hlt⟩
 have hne : ks ≠ [] := by intro e; rw [e] at hlt; simp at hlt
 have hLr : Lies B wr g a ks := HL.out.below (hkr.toBelow hB (by omega))
 obtain ⟨g', b, o, hg, ha, hbB, hall⟩ := hLr.at hne
 subst ha
 obtain ⟨a', cap', k0, k1, k2, k3, k4, k5, hkn, hkk⟩ := hall j kid hkid
 have HK : Hid (ks[j]? = some kid) := hkid
 have HA : Hid (Lies B wr g' a' kid.kids) := hkk
 have lr := hcr.lt
 have hkn' : Hid (kid.name.size ≤ maxLen) := hkn
 have HKr : Hid (Keep cb w wr ∧ Ctr cb m wr) := ⟨hkr, hcr⟩
 clear hkid hall hkk hLr hne hg hkn hkr hcr
 go_wp2_with fail
 refine (IH.out g' kid a' cap' m _ (HA.out.below ((Below.refl _ _).alloc (by omega) _)) hkn'.out hm (HKr.out.2.alloc _)).mono ?_
 rintro e w2 ⟨rfl, hk2, hc2⟩
 have hk3 : Hid (Keep cb w w2) := (HKr.out.1.alloc _).trans hk2
 have HC2 : Hid (Ctr cb (chk f kid m).2 w2) := hc2
 have HM : Hid ((chk f kid m).1 = 0 → (chk f kid m).2 ≤ 2000) := chk_le f kid m hm
 have H1 : Hid ((chk f kid m).1 = 0 → chkL (chk f) ks (n + 1) = chkL (chk f) (ks.drop (j + 1)) (chk f kid m).2) := fun h => HEQ.out.trans (chkL_drop _ _ _ _ _ HK.out h)
 have H2 : Hid ((chk f kid m).1 ≠ 0 → chkL (chk f) ks (n + 1) = chk f kid m) := fun h => HEQ.out.trans (chkL_bad _ _ _ _ _ HK.out h)
 clear hk2 hc2 HK HA HKr IH HL HC HEQ
 generalize chk f kid m = y at HC2 HM H1 H2 ⊢
 obtain ⟨y1, y2⟩ := y
 simp only at HC2 HM H1 H2 ⊢
 by_cases y0 : y1 = 0
 ·subst y0
  go_wp2_with fail
  go_roundw
  case rel => exact ⟨j + 1, y2, by omega, HM.out rfl, by go_num, hk3.out, HC2.out, H1.out rfl⟩
  case measure => simp [intOf]; omega
 have y0' : (y1 != 0) = true := by simpa using y0
 go_wp2_with fail
 go_ret
 refine ⟨?_, hk3.out, ?_⟩
 ·rw [H2.out y0]; rfl
 rw [H2.out y0]; exact HC2.out
theorem Shape_alone (d : Dat) (a : Option Addr) (cap cb n : Nat) (dp : Int) (w : World) (hs : d.name.size ≤ maxLen) (hn : n ≤ 1999) (hd : dp ≤ 40) (hc : Ctr cb n w) (hk4 : d.kind ≠ 4) :
 Calls Tryz.prog 57 #[dv d a cap, .int .i64 dp, .pointer (some ⟨cb, 0, none⟩)] w (Told cb (alone d, n + 1) w) := by
 obtain ⟨k, n', nm, st, lb, ks⟩ := d
 simp only at hs hk4
 by_cases k1 : k = 1
 ·rw [alone_num k1]
  simp only
  unfold rangeB
  by_cases hx : n' < -1000000000000000
  ·rw [decide_eq_false (p := -1000000000000000 ≤ n') (by omega)]
   exact Shape_num_lo k n' st lb nm ks a cap cb n dp w hs hn hd hc k1 hx
  rw [decide_eq_true (p := -1000000000000000 ≤ n') (by omega)]
  by_cases hy : 1000000000000000 < n'
  ·rw [decide_eq_false (p := n' ≤ 1000000000000000) (by omega)]
   exact Shape_num_hi k n' st lb nm ks a cap cb n dp w hs hn hd hc k1 hy hx
  rw [decide_eq_true (p := n' ≤ 1000000000000000) (by omega)]
  exact Shape_num k n' st lb nm ks a cap cb n dp w hs hn hd hc k1 hy hx
 by_cases k2 : k = 2
 ·rw [alone_bool k2]
  simp only
  by_cases hx : n' < 0
  ·rw [if_neg (by omega)]
   exact Shape_bool_lo k n' st lb nm ks a cap cb n dp w hs hn hd hc k2 hx
  by_cases hy : 1 < n'
  ·rw [if_neg (by omega)]
   exact Shape_bool_hi k n' st lb nm ks a cap cb n dp w hs hn hd hc k2 hy hx
  rw [if_pos (by omega)]
  exact Shape_bool k n' st lb nm ks a cap cb n dp w hs hn hd hc k2 hy hx
 by_cases k3 : k = 3
 ·rw [alone_sym k3]
  unfold symErr
  simp only
  cases hnm : namedB nm with
  | false => exact Shape_sym_no k n' st lb nm ks a cap cb n dp w hs hn hd hc k3 hnm
  | true =>
   by_cases h1 : st = 0
   ·by_cases h2 : lb = 0
    ·rw [if_pos rfl, if_pos ⟨h1, h2⟩]
     exact Shape_sym k n' st lb nm ks a cap cb n dp w hs hn hd hc k3 hnm h1 h2
    rw [if_pos rfl, if_neg (fun h => h2 h.2)]
    exact Shape_sym_lb k n' st lb nm ks a cap cb n dp w hs hn hd hc k3 hnm h1 h2
   rw [if_pos rfl, if_neg (fun h => h1 h.1)]
   exact Shape_sym_st k n' st lb nm ks a cap cb n dp w hs hn hd hc k3 hnm h1
 rw [alone_else k1 k2 k3 hk4]
 exact Shape_kind k n' st lb nm ks a cap cb n dp w hs hn hd hc k1 k2 k3 hk4
theorem Shape_any (B cb : Nat) (hB : B ≤ cb) : ∀ (f : Nat), f ≤ 40 → ∀ (g : Nat) (d : Dat) (a : Option Addr) (cap n : Nat) (w : World), Lies B w g a d.kids → d.name.size ≤ maxLen → n ≤ 2000 → Ctr cb n w →
 Calls Tryz.prog 57 #[dv d a cap, .int .i64 (41 - (f : Int)), .pointer (some ⟨cb, 0, none⟩)] w (Told cb (chk f d n) w)
 | 0, _, g, d, a, cap, n, w, _, _, hn, hc => Shape_deep d a cap cb n w hn hc
 | f + 1, hf, g, d, a, cap, n, w, hl, hs, hn, hc => by
  have hd0 : 1 ≤ 41 - ((f + 1 : Nat) : Int) := by omega
  have hd : 41 - ((f + 1 : Nat) : Int) ≤ 40 := by omega
  unfold chk
  by_cases h : 2000 < n + 1
  ·rw [if_pos h]
   exact Shape_much d a cap cb n _ w (by omega) hc
  rw [if_neg h]
  by_cases hk : d.kind = 4
  ·rw [if_pos (alone_list hk), if_pos hk]
   refine Shape_list B f g d a cap cb n _ w hl (by omega) hd0 hd hB hc hk ?_
   intro g d a cap n w hl hs hn hc
   have := Shape_any B cb hB f (by omega) g d a cap n w hl hs hn hc
   rw [show 41 - ((f + 1 : Nat) : Int) + 1 = 41 - (f : Int) from by omega]
   exact this
  have := Shape_alone d a cap cb n _ w hs (by omega) hd hc hk
  by_cases h0 : alone d = 0
  ·rw [if_pos h0, if_neg hk]
   rwa [h0] at this
  rw [if_neg h0]
  exact this
theorem refWrong_any (B g : Nat) (l : List Dat) (a : Option Addr) (cap : Nat) (w : World) (hl : Lies B w g a l) (hB : B ≤ w.heap.size) :
 Calls Tryz.prog 30 #[.slice a l.length cap] w fun e w' => e = .returned (fv (wrong l)) ∧ Below w.heap.size w w' := by
 have hlen := hl.len
 have HL : Hid (Lies B w g a l) := hl
 clear hl
 go_enter Tryz.func30, Tryz.ntmps30
 go_wp2_with fail
 go_loopw [9] (fun i wr => ∃ j m : Nat, j ≤ l.length ∧ m ≤ 2000 ∧ i = .int .i64 j ∧ At w.heap.size w m wr ∧ wrong l = wrongFrom (l.drop j) j m) (fun i _ => l.length - (intOf i).toNat)
 case atStart => exact ⟨0, 0, Nat.zero_le _, Nat.zero_le _, rfl, At.start w _, rfl⟩
 obtain ⟨j, m, hj, hm, rfl, hat, he⟩ := hrel
 have HEQ : Hid (wrong l = wrongFrom (l.drop j) j m) := he
 have q0 := hat.q0
 have q1 := hat.q1
 have z0 := hat.z0
 have z1 := hat.z1
 have lr := hat.ctr.lt
 have HAT : Hid (At w.heap.size w m wr) := hat
 clear he hat
 by_cases hlt : j < l.length
 rotate_left
 ·obtain rfl : j = l.length := by omega
  rw [List.drop_length] at HEQ
  clear HL
  go_wp2_with fail
  refine bodyPost_ret (v := fv (0, 0)) (by simp [results, Tryz.results30, go_sem, fv, q0, q1]) rfl ⟨by rw [HEQ.out]; rfl, (HAT.out.below.setCell (p := ⟨w.heap.size, 0, none⟩) (Nat.le_refl _) _).setCell (p := ⟨w.heap.size, 1, none⟩) (Nat.le_refl _) _⟩
 obtain ⟨d, hd⟩ : ∃ d, l[j]? = some d := ⟨l[j], List.getElem?_eq_getElem hlt⟩
 have hne : l ≠ [] := by intro e; rw [e] at hlt; simp at hlt
 have hLr : Lies B wr g a l := HL.out.below (HAT.out.below.mono hB)
 obtain ⟨g', b, o, hg, ha, hbB, hall⟩ := hLr.at hne
 subst ha
 obtain ⟨a', cap', k0, k1, k2, k3, k4, k5, hkn, hkk⟩ := hall j d hd
 have HK : Hid (l[j]? = some d) := hd
 have HA : Hid (Lies B wr g' a' d.kids) := hkk
 have HN : Hid (d.name.size ≤ maxLen) := hkn
 clear hd hall hkk hLr hne hg hkn
 go_wp2_with fail
 refine (Shape_any B (w.heap.size + 1) (by omega) 40 (Nat.le_refl _) g' d a' cap' m _ (HA.out.below ((Below.refl _ _).alloc (by omega) _)) HN.out hm (HAT.out.ctr.alloc _)).mono ?_
 rintro e w2 ⟨rfl, hk2, hc2⟩
 have hat2 : At w.heap.size w (chk 40 d m).2 w2 := HAT.out.keep (((Keep.refl _ _).alloc _).trans hk2) hc2
 have HM : Hid ((chk 40 d m).1 = 0 → (chk 40 d m).2 ≤ 2000) := chk_le 40 d m hm
 have H1 : Hid ((chk 40 d m).1 = 0 → wrong l = wrongFrom (l.drop (j + 1)) (j + 1) (chk 40 d m).2) := fun h => HEQ.out.trans (wrongFrom_drop _ _ _ _ HK.out h)
 have H2 : Hid ((chk 40 d m).1 ≠ 0 → wrong l = ((chk 40 d m).1, (j : Int))) := fun h => HEQ.out.trans (wrongFrom_bad _ _ _ _ HK.out h)
 clear hk2 hc2 HK HA HAT HL HEQ q0 q1 z0 z1 k0 k1 k2 k3 k4 k5 lr
 generalize chk 40 d m = y at hat2 HM H1 H2 ⊢
 obtain ⟨y1, y2⟩ := y
 simp only at hat2 HM H1 H2 ⊢
 have q0 := hat2.q0
 have q1 := hat2.q1
 have z0 := hat2.z0
 have z1 := hat2.z1
 have lr := hat2.ctr.lt
 have HAT : Hid (At w.heap.size w y2 w2) := hat2
 clear hat2
 by_cases y0 : y1 = 0
 ·subst y0
  go_wp2_with fail
  go_roundw
  case rel => exact ⟨j + 1, y2, by omega, HM.out rfl, by go_num, HAT.out, H1.out rfl⟩
  case measure => simp [intOf]; omega
 have y0' : (y1 != 0) = true := by simpa using y0
 go_wp2_with fail
 refine bodyPost_ret (v := fv (y1, (j : Int))) (by simp [results, Tryz.results30, go_sem, fv, q0, q1]) rfl ⟨by rw [H2.out y0], (HAT.out.below.setCell (p := ⟨w.heap.size, 0, none⟩) (Nat.le_refl _) _).setCell (p := ⟨w.heap.size, 1, none⟩) (Nat.le_refl _) _⟩
end Go.Proofs.YtonafbennobgdaaGreatDoor.R1
