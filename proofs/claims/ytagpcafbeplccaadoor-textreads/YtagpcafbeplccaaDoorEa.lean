/- The document's answer to what is wrong with data. -/
import Derived.Test.YtagpcafbeplccaaDoorDe
namespace Go.Proofs.YtagpcafbeplccaaDoor
set_option linter.unusedVariables false
set_option linter.unusedSimpArgs false
open Go.RowKit

set_option maxRecDepth 100000 in
set_option maxHeartbeats 800000 in
theorem Shape_deep (d : Dat) (a : Option Addr) (cap cb n : Nat) (w : World) (hn : n ≤ 2000) (hc : Ctr cb n w) :
    Calls Tryd.prog 35 #[dv d a cap, .int .i64 41, .pointer (some ⟨cb, 0, none⟩)] w (Told cb (4, n + 1) w) := by
  have c1 := hc.cell
  have f1 := hc.thaw
  have l1 := hc.lt
  have HC : Hid (Ctr cb n w) := hc
  clear hc
  obtain ⟨k, n', nm, st, lb, ks⟩ := d
  unfold dv
  by_cases h : (2000 : Int) < n + 1
  · go_enter Tryd.func35, Tryd.ntmps35
    go_wp2_with fail
    go_ret
    exact ⟨rfl, ((Keep.refl _ _).setCell _ rfl _).alloc _, (HC.out.set (n + 1)).alloc _⟩
  · go_enter Tryd.func35, Tryd.ntmps35
    go_wp2_with fail
    go_ret
    exact ⟨rfl, ((Keep.refl _ _).setCell _ rfl _).alloc _, (HC.out.set (n + 1)).alloc _⟩

set_option maxRecDepth 100000 in
set_option maxHeartbeats 800000 in
theorem Shape_much (d : Dat) (a : Option Addr) (cap cb n : Nat) (dp : Int) (w : World) (hn : n = 2000) (hc : Ctr cb n w) :
    Calls Tryd.prog 35 #[dv d a cap, .int .i64 dp, .pointer (some ⟨cb, 0, none⟩)] w (Told cb (4, n + 1) w) := by
  have c1 := hc.cell
  have f1 := hc.thaw
  have l1 := hc.lt
  have HC : Hid (Ctr cb n w) := hc
  clear hc
  subst hn
  obtain ⟨k, n', nm, st, lb, ks⟩ := d
  unfold dv
  go_enter Tryd.func35, Tryd.ntmps35
  go_wp2_with fail
  go_ret
  exact ⟨rfl, ((Keep.refl _ _).setCell _ rfl _).alloc _, (HC.out.set (2000 + 1)).alloc _⟩

set_option maxRecDepth 100000 in
set_option maxHeartbeats 800000 in
theorem Shape_num_lo (k n' st lb : Int) (nm : ByteArray) (ks : List Dat) (a : Option Addr) (cap cb n : Nat) (dp : Int) (w : World) (hs : nm.size ≤ maxLen) (hn : n ≤ 1999) (hd : dp ≤ 40) (hc : Ctr cb n w) (hk : k = 1) (hx : n' < -1000000000000000) :
    Calls Tryd.prog 35 #[dv ⟨k, n', nm, st, lb, ks⟩ a cap, .int .i64 dp, .pointer (some ⟨cb, 0, none⟩)] w (Told cb (3, n + 1) w) := by
  have c1 := hc.cell
  have f1 := hc.thaw
  have l1 := hc.lt
  have HC : Hid (Ctr cb n w) := hc
  clear hc
  unfold dv
  simp only
  subst hk
  go_enter Tryd.func35, Tryd.ntmps35
  go_wp2_with fail
  go_ret
  exact ⟨rfl, ((Keep.refl _ _).setCell _ rfl _).alloc _, (HC.out.set (n + 1)).alloc _⟩

set_option maxRecDepth 100000 in
set_option maxHeartbeats 800000 in
theorem Shape_num_hi (k n' st lb : Int) (nm : ByteArray) (ks : List Dat) (a : Option Addr) (cap cb n : Nat) (dp : Int) (w : World) (hs : nm.size ≤ maxLen) (hn : n ≤ 1999) (hd : dp ≤ 40) (hc : Ctr cb n w) (hk : k = 1) (hx : 1000000000000000 < n') (hy : ¬ n' < -1000000000000000) :
    Calls Tryd.prog 35 #[dv ⟨k, n', nm, st, lb, ks⟩ a cap, .int .i64 dp, .pointer (some ⟨cb, 0, none⟩)] w (Told cb (3, n + 1) w) := by
  have c1 := hc.cell
  have f1 := hc.thaw
  have l1 := hc.lt
  have HC : Hid (Ctr cb n w) := hc
  clear hc
  unfold dv
  simp only
  subst hk
  go_enter Tryd.func35, Tryd.ntmps35
  go_wp2_with fail
  go_ret
  exact ⟨rfl, ((Keep.refl _ _).setCell _ rfl _).alloc _, (HC.out.set (n + 1)).alloc _⟩

set_option maxRecDepth 100000 in
set_option maxHeartbeats 800000 in
theorem Shape_num (k n' st lb : Int) (nm : ByteArray) (ks : List Dat) (a : Option Addr) (cap cb n : Nat) (dp : Int) (w : World) (hs : nm.size ≤ maxLen) (hn : n ≤ 1999) (hd : dp ≤ 40) (hc : Ctr cb n w) (hk : k = 1) (hx : ¬ 1000000000000000 < n') (hy : ¬ n' < -1000000000000000) :
    Calls Tryd.prog 35 #[dv ⟨k, n', nm, st, lb, ks⟩ a cap, .int .i64 dp, .pointer (some ⟨cb, 0, none⟩)] w (Told cb (0, n + 1) w) := by
  have c1 := hc.cell
  have f1 := hc.thaw
  have l1 := hc.lt
  have HC : Hid (Ctr cb n w) := hc
  clear hc
  unfold dv
  simp only
  subst hk
  go_enter Tryd.func35, Tryd.ntmps35
  go_wp2_with fail
  go_ret
  exact ⟨rfl, ((Keep.refl _ _).setCell _ rfl _).alloc _, (HC.out.set (n + 1)).alloc _⟩

set_option maxRecDepth 100000 in
set_option maxHeartbeats 800000 in
theorem Shape_bool_lo (k n' st lb : Int) (nm : ByteArray) (ks : List Dat) (a : Option Addr) (cap cb n : Nat) (dp : Int) (w : World) (hs : nm.size ≤ maxLen) (hn : n ≤ 1999) (hd : dp ≤ 40) (hc : Ctr cb n w) (hk : k = 2) (hx : n' < 0) :
    Calls Tryd.prog 35 #[dv ⟨k, n', nm, st, lb, ks⟩ a cap, .int .i64 dp, .pointer (some ⟨cb, 0, none⟩)] w (Told cb (3, n + 1) w) := by
  have c1 := hc.cell
  have f1 := hc.thaw
  have l1 := hc.lt
  have HC : Hid (Ctr cb n w) := hc
  clear hc
  unfold dv
  simp only
  subst hk
  go_enter Tryd.func35, Tryd.ntmps35
  go_wp2_with fail
  go_ret
  exact ⟨rfl, ((Keep.refl _ _).setCell _ rfl _).alloc _, (HC.out.set (n + 1)).alloc _⟩

set_option maxRecDepth 100000 in
set_option maxHeartbeats 800000 in
theorem Shape_bool_hi (k n' st lb : Int) (nm : ByteArray) (ks : List Dat) (a : Option Addr) (cap cb n : Nat) (dp : Int) (w : World) (hs : nm.size ≤ maxLen) (hn : n ≤ 1999) (hd : dp ≤ 40) (hc : Ctr cb n w) (hk : k = 2) (hx : 1 < n') (hy : ¬ n' < 0) :
    Calls Tryd.prog 35 #[dv ⟨k, n', nm, st, lb, ks⟩ a cap, .int .i64 dp, .pointer (some ⟨cb, 0, none⟩)] w (Told cb (3, n + 1) w) := by
  have c1 := hc.cell
  have f1 := hc.thaw
  have l1 := hc.lt
  have HC : Hid (Ctr cb n w) := hc
  clear hc
  unfold dv
  simp only
  subst hk
  go_enter Tryd.func35, Tryd.ntmps35
  go_wp2_with fail
  go_ret
  exact ⟨rfl, ((Keep.refl _ _).setCell _ rfl _).alloc _, (HC.out.set (n + 1)).alloc _⟩

set_option maxRecDepth 100000 in
set_option maxHeartbeats 800000 in
theorem Shape_bool (k n' st lb : Int) (nm : ByteArray) (ks : List Dat) (a : Option Addr) (cap cb n : Nat) (dp : Int) (w : World) (hs : nm.size ≤ maxLen) (hn : n ≤ 1999) (hd : dp ≤ 40) (hc : Ctr cb n w) (hk : k = 2) (hx : ¬ 1 < n') (hy : ¬ n' < 0) :
    Calls Tryd.prog 35 #[dv ⟨k, n', nm, st, lb, ks⟩ a cap, .int .i64 dp, .pointer (some ⟨cb, 0, none⟩)] w (Told cb (0, n + 1) w) := by
  have c1 := hc.cell
  have f1 := hc.thaw
  have l1 := hc.lt
  have HC : Hid (Ctr cb n w) := hc
  clear hc
  unfold dv
  simp only
  subst hk
  go_enter Tryd.func35, Tryd.ntmps35
  go_wp2_with fail
  go_ret
  exact ⟨rfl, ((Keep.refl _ _).setCell _ rfl _).alloc _, (HC.out.set (n + 1)).alloc _⟩

set_option maxRecDepth 100000 in
set_option maxHeartbeats 800000 in
theorem Shape_sym_no (k n' st lb : Int) (nm : ByteArray) (ks : List Dat) (a : Option Addr) (cap cb n : Nat) (dp : Int) (w : World) (hs : nm.size ≤ maxLen) (hn : n ≤ 1999) (hd : dp ≤ 40) (hc : Ctr cb n w) (hk : k = 3) (hnm : namedB nm = false) :
    Calls Tryd.prog 35 #[dv ⟨k, n', nm, st, lb, ks⟩ a cap, .int .i64 dp, .pointer (some ⟨cb, 0, none⟩)] w (Told cb (7, n + 1) w) := by
  have c1 := hc.cell
  have f1 := hc.thaw
  have l1 := hc.lt
  have HC : Hid (Ctr cb n w) := hc
  clear hc
  unfold dv
  simp only
  subst hk
  have NA : Hid (∀ w, Calls Tryd.prog 12 #[.string nm] w fun e w' => e = .returned (.bool false) ∧ Below w.heap.size w w') := fun w => by
    have := refNamed_any nm hs w
    rwa [hnm] at this
  clear hnm
  go_enter Tryd.func35, Tryd.ntmps35
  go_wp2_with fail
  refine (NA.out _).mono ?_
  rintro e w1 ⟨rfl, hb1⟩
  have q3 : w1.cell? ⟨w.heap.size, 3, none⟩ = some (.int .i64 st) := box_cell hb1 (by simp [World.setCell]) 3
  have q4 : w1.cell? ⟨w.heap.size, 4, none⟩ = some (.int .i64 lb) := box_cell hb1 (by simp [World.setCell]) 4
  have hk1 : Keep cb w w1 := (((Keep.refl _ _).setCell _ rfl _).alloc _).below hb1
  have hc1 : Ctr cb (n + 1) w1 := ((HC.out.set (n + 1)).alloc _).below hb1
  clear hb1 NA
  go_wp2_with fail
  go_ret
  exact ⟨rfl, hk1, hc1⟩

set_option maxRecDepth 100000 in
set_option maxHeartbeats 800000 in
theorem Shape_sym_st (k n' st lb : Int) (nm : ByteArray) (ks : List Dat) (a : Option Addr) (cap cb n : Nat) (dp : Int) (w : World) (hs : nm.size ≤ maxLen) (hn : n ≤ 1999) (hd : dp ≤ 40) (hc : Ctr cb n w) (hk : k = 3) (hnm : namedB nm = true) (hx : st ≠ 0) :
    Calls Tryd.prog 35 #[dv ⟨k, n', nm, st, lb, ks⟩ a cap, .int .i64 dp, .pointer (some ⟨cb, 0, none⟩)] w (Told cb (8, n + 1) w) := by
  have c1 := hc.cell
  have f1 := hc.thaw
  have l1 := hc.lt
  have HC : Hid (Ctr cb n w) := hc
  clear hc
  unfold dv
  simp only
  subst hk
  have hx' : (st != 0) = true := by simpa using hx
  have NA : Hid (∀ w, Calls Tryd.prog 12 #[.string nm] w fun e w' => e = .returned (.bool true) ∧ Below w.heap.size w w') := fun w => by
    have := refNamed_any nm hs w
    rwa [hnm] at this
  clear hnm
  go_enter Tryd.func35, Tryd.ntmps35
  go_wp2_with fail
  refine (NA.out _).mono ?_
  rintro e w1 ⟨rfl, hb1⟩
  have q3 : w1.cell? ⟨w.heap.size, 3, none⟩ = some (.int .i64 st) := box_cell hb1 (by simp [World.setCell]) 3
  have q4 : w1.cell? ⟨w.heap.size, 4, none⟩ = some (.int .i64 lb) := box_cell hb1 (by simp [World.setCell]) 4
  have hk1 : Keep cb w w1 := (((Keep.refl _ _).setCell _ rfl _).alloc _).below hb1
  have hc1 : Ctr cb (n + 1) w1 := ((HC.out.set (n + 1)).alloc _).below hb1
  clear hb1 NA
  go_wp2_with fail
  go_ret
  exact ⟨rfl, hk1, hc1⟩

set_option maxRecDepth 100000 in
set_option maxHeartbeats 800000 in
theorem Shape_sym_lb (k n' st lb : Int) (nm : ByteArray) (ks : List Dat) (a : Option Addr) (cap cb n : Nat) (dp : Int) (w : World) (hs : nm.size ≤ maxLen) (hn : n ≤ 1999) (hd : dp ≤ 40) (hc : Ctr cb n w) (hk : k = 3) (hnm : namedB nm = true) (hx : st = 0) (hy : lb ≠ 0) :
    Calls Tryd.prog 35 #[dv ⟨k, n', nm, st, lb, ks⟩ a cap, .int .i64 dp, .pointer (some ⟨cb, 0, none⟩)] w (Told cb (8, n + 1) w) := by
  have c1 := hc.cell
  have f1 := hc.thaw
  have l1 := hc.lt
  have HC : Hid (Ctr cb n w) := hc
  clear hc
  unfold dv
  simp only
  subst hk hx
  have hy' : (lb != 0) = true := by simpa using hy
  have NA : Hid (∀ w, Calls Tryd.prog 12 #[.string nm] w fun e w' => e = .returned (.bool true) ∧ Below w.heap.size w w') := fun w => by
    have := refNamed_any nm hs w
    rwa [hnm] at this
  clear hnm
  go_enter Tryd.func35, Tryd.ntmps35
  go_wp2_with fail
  refine (NA.out _).mono ?_
  rintro e w1 ⟨rfl, hb1⟩
  have q3 : w1.cell? ⟨w.heap.size, 3, none⟩ = some (.int .i64 0) := box_cell hb1 (by simp [World.setCell]) 3
  have q4 : w1.cell? ⟨w.heap.size, 4, none⟩ = some (.int .i64 lb) := box_cell hb1 (by simp [World.setCell]) 4
  have hk1 : Keep cb w w1 := (((Keep.refl _ _).setCell _ rfl _).alloc _).below hb1
  have hc1 : Ctr cb (n + 1) w1 := ((HC.out.set (n + 1)).alloc _).below hb1
  clear hb1 NA
  go_wp2_with fail
  go_ret
  exact ⟨rfl, hk1, hc1⟩

set_option maxRecDepth 100000 in
set_option maxHeartbeats 800000 in
theorem Shape_sym (k n' st lb : Int) (nm : ByteArray) (ks : List Dat) (a : Option Addr) (cap cb n : Nat) (dp : Int) (w : World) (hs : nm.size ≤ maxLen) (hn : n ≤ 1999) (hd : dp ≤ 40) (hc : Ctr cb n w) (hk : k = 3) (hnm : namedB nm = true) (hx : st = 0) (hy : lb = 0) :
    Calls Tryd.prog 35 #[dv ⟨k, n', nm, st, lb, ks⟩ a cap, .int .i64 dp, .pointer (some ⟨cb, 0, none⟩)] w (Told cb (0, n + 1) w) := by
  have c1 := hc.cell
  have f1 := hc.thaw
  have l1 := hc.lt
  have HC : Hid (Ctr cb n w) := hc
  clear hc
  unfold dv
  simp only
  subst hk hx hy
  have NA : Hid (∀ w, Calls Tryd.prog 12 #[.string nm] w fun e w' => e = .returned (.bool true) ∧ Below w.heap.size w w') := fun w => by
    have := refNamed_any nm hs w
    rwa [hnm] at this
  clear hnm
  go_enter Tryd.func35, Tryd.ntmps35
  go_wp2_with fail
  refine (NA.out _).mono ?_
  rintro e w1 ⟨rfl, hb1⟩
  have q3 : w1.cell? ⟨w.heap.size, 3, none⟩ = some (.int .i64 0) := box_cell hb1 (by simp [World.setCell]) 3
  have q4 : w1.cell? ⟨w.heap.size, 4, none⟩ = some (.int .i64 0) := box_cell hb1 (by simp [World.setCell]) 4
  have hk1 : Keep cb w w1 := (((Keep.refl _ _).setCell _ rfl _).alloc _).below hb1
  have hc1 : Ctr cb (n + 1) w1 := ((HC.out.set (n + 1)).alloc _).below hb1
  clear hb1 NA
  go_wp2_with fail
  go_ret
  exact ⟨rfl, hk1, hc1⟩

set_option maxRecDepth 100000 in
set_option maxHeartbeats 800000 in
theorem Shape_kind (k n' st lb : Int) (nm : ByteArray) (ks : List Dat) (a : Option Addr) (cap cb n : Nat) (dp : Int) (w : World) (hs : nm.size ≤ maxLen) (hn : n ≤ 1999) (hd : dp ≤ 40) (hc : Ctr cb n w) (k1 : k ≠ 1) (k2 : k ≠ 2) (k3 : k ≠ 3) (k4 : k ≠ 4) :
    Calls Tryd.prog 35 #[dv ⟨k, n', nm, st, lb, ks⟩ a cap, .int .i64 dp, .pointer (some ⟨cb, 0, none⟩)] w (Told cb (1, n + 1) w) := by
  have c1 := hc.cell
  have f1 := hc.thaw
  have l1 := hc.lt
  have HC : Hid (Ctr cb n w) := hc
  clear hc
  unfold dv
  simp only
  have k1' : (k == 1) = false := by simpa using k1
  have k2' : (k == 2) = false := by simpa using k2
  have k3' : (k == 3) = false := by simpa using k3
  have k4' : (k == 4) = false := by simpa using k4
  clear k1 k2 k3 k4
  go_enter Tryd.func35, Tryd.ntmps35
  go_wp2_with fail
  go_ret
  exact ⟨rfl, ((Keep.refl _ _).setCell _ rfl _).alloc _, (HC.out.set (n + 1)).alloc _⟩

end Go.Proofs.YtagpcafbeplccaaDoor
