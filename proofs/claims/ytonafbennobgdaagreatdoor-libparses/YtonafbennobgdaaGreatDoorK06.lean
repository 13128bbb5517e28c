/- Data in memory; what package text says of a node alone. -/
import Derived.ChangeAlike
import Derived.RegionTactic
import Derived.Test.YtonafbennobgdaaGreatDoorK05
namespace Go.Proofs.YtonafbennobgdaaGreatDoor
set_option linter.unusedVariables false
set_option linter.unusedSimpArgs false
open Go.RowKit
set_option maxRecDepth 100000
set_option maxHeartbeats 1600000
def dv (d : Dat) (a : Option Addr) (cap : Nat) : Value :=
 .agg #[.int .i64 d.kind, .int .i64 d.n, .string d.name, .int .i64 d.stamp, .int .i64 d.lib, .slice a d.kids.length cap]
set_option maxHeartbeats 400000 in
theorem inRange_any (n : Int) (w : World) :
 Calls Tryz.prog 93 #[.int .i64 n] w fun e w' => e = .returned (.bool (rangeB n)) ∧ w' = w := by
 by_cases a : -1000000000000000 ≤ n
 ·by_cases b : n ≤ 1000000000000000
  ·go_enter Tryz.func93, Tryz.ntmps93
   go_wp2
   go_ret
   exact ⟨retB (by unfold rangeB; rw [decide_eq_true a, decide_eq_true b]; rfl), rfl⟩
  go_enter Tryz.func93, Tryz.ntmps93
  go_wp2
  go_ret
  exact ⟨retB (by unfold rangeB; rw [decide_eq_false (p := n ≤ 1000000000000000) (by omega), Bool.and_false]), rfl⟩
 have a' : ¬ -1000000000000000 ≤ n := a
 go_enter Tryz.func93, Tryz.ntmps93
 go_wp2
 go_ret
 exact ⟨retB (by unfold rangeB; rw [decide_eq_false (by omega), Bool.false_and]), rfl⟩
def symErr (d : Dat) : Int := if namedB d.name then (if d.stamp = 0 ∧ d.lib = 0 then 0 else 8) else 7
set_option maxHeartbeats 400000 in
theorem wrongSymbol_any (d : Dat) (a : Option Addr) (cap : Nat) (hs : d.name.size ≤ maxLen) (w : World) :
 Calls Tryz.prog 94 #[dv d a cap] w fun e w' => e = .returned (.int .i64 (symErr d)) ∧ Below w.heap.size w w' := by
 obtain ⟨k, n, nm, st, lb, ks⟩ := d
 unfold dv symErr
 simp only at hs ⊢
 obtain ⟨b, HB⟩ : ∃ b, Hid (namedB nm = b) := ⟨_, rfl⟩
 rw [HB.out]
 have na : ∀ w, Calls Tryz.prog 18 #[.string nm] w fun e w' => e = .returned (.bool b) ∧ w' = w := by
  intro w
  rw [← HB.out]
  exact Named_any nm hs w
 have NA : Hid (∀ w, Calls Tryz.prog 18 #[.string nm] w fun e w' => e = .returned (.bool b) ∧ w' = w) := na
 clear na
 cases b
 ·go_enter Tryz.func94, Tryz.ntmps94
  go_wp2_with fail
  refine (NA.out _).mono ?_
  rintro e w' ⟨rfl, rfl⟩
  go_wp2_with fail
  go_ret
  exact ⟨rfl, (Below.refl _ _).alloc (Nat.le_refl _) _⟩
 by_cases h1 : st = 0
 ·by_cases h2 : lb = 0
  ·subst h1 h2
   go_enter Tryz.func94, Tryz.ntmps94
   go_wp2_with fail
   refine (NA.out _).mono ?_
   rintro e w' ⟨rfl, rfl⟩
   go_wp2_with fail
   go_ret
   exact ⟨rfl, (Below.refl _ _).alloc (Nat.le_refl _) _⟩
  subst h1
  have h2' : (lb != 0) = true := by simpa using h2
  go_enter Tryz.func94, Tryz.ntmps94
  go_wp2_with fail
  refine (NA.out _).mono ?_
  rintro e w' ⟨rfl, rfl⟩
  go_wp2_with fail
  go_ret
  exact ⟨rfl, (Below.refl _ _).alloc (Nat.le_refl _) _⟩
 have h1' : (st != 0) = true := by simpa using h1
 go_enter Tryz.func94, Tryz.ntmps94
 go_wp2_with fail
 refine (NA.out _).mono ?_
 rintro e w' ⟨rfl, rfl⟩
 go_wp2_with fail
 go_ret
 exact ⟨rfl, (Below.refl _ _).alloc (Nat.le_refl _) _⟩
theorem alone_num {d : Dat} (h : d.kind = 1) : alone d = if rangeB d.n then 0 else 3 := by unfold alone; rw [if_pos h]
theorem alone_bool {d : Dat} (h : d.kind = 2) : alone d = if d.n = 0 ∨ d.n = 1 then 0 else 3 := by unfold alone; rw [if_neg (by omega), if_pos h]
theorem alone_sym {d : Dat} (h : d.kind = 3) : alone d = symErr d := by unfold alone symErr; rw [if_neg (by omega), if_neg (by omega), if_pos h]
theorem alone_list {d : Dat} (h : d.kind = 4) : alone d = 0 := by unfold alone; rw [if_neg (by omega), if_neg (by omega), if_neg (by omega), if_pos h]
theorem alone_else {d : Dat} (h1 : d.kind ≠ 1) (h2 : d.kind ≠ 2) (h3 : d.kind ≠ 3) (h4 : d.kind ≠ 4) : alone d = 1 := by unfold alone; rw [if_neg h1, if_neg h2, if_neg h3, if_neg h4]
set_option maxHeartbeats 800000 in
theorem wrongAlone_any (d : Dat) (a : Option Addr) (cap : Nat) (hs : d.name.size ≤ maxLen) (w : World) :
 Calls Tryz.prog 70 #[dv d a cap] w fun e w' => e = .returned (.int .i64 (alone d)) ∧ Below w.heap.size w w' := by
 by_cases k1 : d.kind = 1
 ·rw [alone_num k1]
  obtain ⟨k, n, nm, st, lb, ks⟩ := d
  simp only at hs k1 ⊢
  subst k1
  unfold dv
  obtain ⟨b, HB⟩ : ∃ b, Hid (rangeB n = b) := ⟨_, rfl⟩
  rw [HB.out]
  have NA : Hid (∀ w, Calls Tryz.prog 93 #[.int .i64 n] w fun e w' => e = .returned (.bool b) ∧ w' = w) := by
   intro w
   rw [← HB.out]
   exact inRange_any n w
  cases b
  all_goals
   go_enter Tryz.func70, Tryz.ntmps70
   go_wp2_with fail
   refine (NA.out _).mono ?_
   rintro e w' ⟨rfl, rfl⟩
   go_wp2_with fail
   go_ret
   exact ⟨rfl, (Below.refl _ _).alloc (Nat.le_refl _) _⟩
 by_cases k2 : d.kind = 2
 ·rw [alone_bool k2]
  obtain ⟨k, n, nm, st, lb, ks⟩ := d
  simp only at hs k2 ⊢
  subst k2
  clear k1
  unfold dv
  by_cases n0 : n = 0
  ·subst n0
   go_enter Tryz.func70, Tryz.ntmps70
   go_wp2_with fail
   go_ret
   exact ⟨rfl, (Below.refl _ _).alloc (Nat.le_refl _) _⟩
  by_cases n1 : n = 1
  ·subst n1
   go_enter Tryz.func70, Tryz.ntmps70
   go_wp2_with fail
   go_ret
   exact ⟨rfl, (Below.refl _ _).alloc (Nat.le_refl _) _⟩
  have n0' : (n != 0) = true := by simpa using n0
  have n1' : (n != 1) = true := by simpa using n1
  go_enter Tryz.func70, Tryz.ntmps70
  go_wp2_with fail
  go_ret
  exact ⟨rfl, (Below.refl _ _).alloc (Nat.le_refl _) _⟩
 by_cases k3 : d.kind = 3
 ·rw [alone_sym k3]
  have ws := fun w => wrongSymbol_any d a cap hs w
  have WS : Hid (∀ w, Calls Tryz.prog 94 #[dv d a cap] w fun e w' => e = .returned (.int .i64 (symErr d)) ∧ Below w.heap.size w w') := ws
  clear ws k1 k2
  generalize symErr d = y at WS ⊢
  obtain ⟨k, n, nm, st, lb, ks⟩ := d
  simp only at hs k3
  subst k3
  unfold dv at WS ⊢
  simp only at WS
  go_enter Tryz.func70, Tryz.ntmps70
  go_wp2_with fail
  refine (WS.out _).mono ?_
  rintro e w' ⟨rfl, hb⟩
  go_wp2_with fail
  go_ret
  exact ⟨rfl, ((Below.refl _ _).alloc (Nat.le_refl _) _).trans (hb.mono (by simp))⟩
 by_cases k4 : d.kind = 4
 ·rw [alone_list k4]
  obtain ⟨k, n, nm, st, lb, ks⟩ := d
  simp only at hs k4
  subst k4
  clear k1 k2 k3
  unfold dv
  go_enter Tryz.func70, Tryz.ntmps70
  go_wp2_with fail
  go_ret
  exact ⟨rfl, (Below.refl _ _).alloc (Nat.le_refl _) _⟩
 rw [alone_else k1 k2 k3 k4]
 obtain ⟨k, n, nm, st, lb, ks⟩ := d
 simp only at hs k1 k2 k3 k4
 unfold dv
 have k1' : (k == 1) = false := by simpa using k1
 have k2' : (k == 2) = false := by simpa using k2
 have k3' : (k == 3) = false := by simpa using k3
 have k4' : (k == 4) = false := by simpa using k4
 clear k1 k2 k3 k4
 go_enter Tryz.func70, Tryz.ntmps70
 go_wp2_with fail
 go_ret
 exact ⟨rfl, (Below.refl _ _).alloc (Nat.le_refl _) _⟩
def Keep (c : Nat) (w w' : World) : Prop := w.grownBy w' (some c)
theorem Keep.refl (c : Nat) (w : World) : Keep c w w := ⟨rfl, rfl, rfl, Nat.le_refl _, fun _ _ _ => rfl⟩
theorem Keep.trans {c : Nat} {a b d : World} (h : Keep c a b) (k : Keep c b d) : Keep c a d :=
 ⟨k.os.trans h.os, k.tape.trans h.tape, k.output.trans h.output, Nat.le_trans h.size k.size, fun i hi hc => (k.block i (Nat.lt_of_lt_of_le hi h.size) hc).trans (h.block i hi hc)⟩
theorem Keep.below {c : Nat} {a b d : World} (h : Keep c a b) (k : Below b.heap.size b d) : Keep c a d :=
 h.trans ⟨k.os, k.tape, k.output, k.size, fun i hi _ => k.block i hi⟩
theorem Keep.alloc {c : Nat} {a b : World} (h : Keep c a b) (o : Obj) : Keep c a (b.alloc o) :=
 h.below ((Below.refl _ _).alloc (Nat.le_refl _) _)
theorem Keep.drew {c : Nat} {a b : World} (h : Keep c a b) : Keep c a b.drew := ⟨h.os, h.tape, h.output, h.size, h.block⟩
theorem Keep.setCell {c : Nat} {a b : World} (h : Keep c a b) (p : Addr) (hp : p.block = c) (v : Value) : Keep c a (b.setCell p v) :=
 h.trans ⟨rfl, rfl, rfl, by simp [World.setCell], fun i hi hc => Below.heap_setCell _ _ _ _ (fun e => hc (by rw [e, hp]))⟩
theorem Keep.setNew {c : Nat} {a b : World} (h : Keep c a b) (p : Addr) (hp : a.heap.size ≤ p.block) (v : Value) : Keep c a (b.setCell p v) :=
 ⟨h.os, h.tape, h.output, by have := h.size; simp [World.setCell]; exact this, fun i hi hc => (Below.heap_setCell _ _ _ _ (by omega)).trans (h.block i hi hc)⟩
theorem Keep.toBelow {c B : Nat} {a b : World} (h : Keep c a b) (hB : B ≤ c) (hs : B ≤ a.heap.size) : Below B a b :=
 ⟨h.os, h.tape, h.output, h.size, fun k hk => h.block k (by omega) (by simp; omega)⟩
theorem Keep.cell {c : Nat} {a b : World} (h : Keep c a b) {p : Addr} (hp : p.block < a.heap.size) (hc : p.block ≠ c) : b.cell? p = a.cell? p :=
 World.cell?_of_block (h.block _ hp (by simpa using hc))
theorem Keep.frozen {c : Nat} {a b : World} (h : Keep c a b) {p : Addr} (hp : p.block < a.heap.size) (hc : p.block ≠ c) : b.frozen? p = a.frozen? p :=
 World.frozen?_of_block (h.block _ hp (by simpa using hc))
def Lies (B : Nat) (w : World) : Nat → Option Addr → List Dat → Prop
 | 0, _, ds => ds = []
 | f + 1, a, ds => ds.length ≤ 9223372036854775807 ∧ (ds = [] ∨ ∃ b o, a = some ⟨b, o, none⟩ ∧ b < B ∧ ∀ (i : Nat) (d : Dat), ds[i]? = some d → ∃ a' cap,
  w.cell? ⟨b, o + i * 6, none⟩ = some (.int .i64 d.kind) ∧ w.cell? ⟨b, o + i * 6 + 1, none⟩ = some (.int .i64 d.n) ∧ w.cell? ⟨b, o + i * 6 + 2, none⟩ = some (.string d.name) ∧
  w.cell? ⟨b, o + i * 6 + 3, none⟩ = some (.int .i64 d.stamp) ∧ w.cell? ⟨b, o + i * 6 + 4, none⟩ = some (.int .i64 d.lib) ∧ w.cell? ⟨b, o + i * 6 + 5, none⟩ = some (.slice a' d.kids.length cap) ∧
  d.name.size ≤ maxLen ∧ Lies B w f a' d.kids)
theorem Lies.stay {B : Nat} {w w' : World} (hw : ∀ k, k < B → w'.heap[k]? = w.heap[k]?) : ∀ (f : Nat) (a : Option Addr) (ds : List Dat), Lies B w f a ds → Lies B w' f a ds
 | 0, _, _, h => h
 | f + 1, a, ds, h => by
  obtain ⟨hl, h⟩ := h
  refine ⟨hl, ?_⟩
  rcases h with h | ⟨b, o, ha, hb, h⟩
  ·exact Or.inl h
  refine Or.inr ⟨b, o, ha, hb, fun i d hd => ?_⟩
  obtain ⟨a', cap, c0, c1, c2, c3, c4, c5, hn, hk⟩ := h i d hd
  have e : ∀ q, w'.cell? ⟨b, q, none⟩ = w.cell? ⟨b, q, none⟩ := fun q => World.cell?_of_block (hw b hb)
  exact ⟨a', cap, (e _).trans c0, (e _).trans c1, (e _).trans c2, (e _).trans c3, (e _).trans c4, (e _).trans c5, hn, Lies.stay hw f a' _ hk⟩
theorem Lies.below {B : Nat} {w w' : World} {f : Nat} {a : Option Addr} {ds : List Dat} (h : Lies B w f a ds) (hb : Below B w w') : Lies B w' f a ds :=
 Lies.stay (fun k hk => hb.block k hk) f a ds h
theorem Lies.len {B : Nat} {w : World} {f : Nat} {a : Option Addr} {ds : List Dat} (h : Lies B w f a ds) : ds.length ≤ 9223372036854775807 := by
 cases f with
 | zero => rw [show ds = [] from h]; exact Nat.zero_le _
 | succ f => exact h.1
theorem Lies.at {B : Nat} {w : World} {f : Nat} {a : Option Addr} {ds : List Dat} (h : Lies B w f a ds) (h0 : ds ≠ []) : ∃ g b o, f = g + 1 ∧ a = some ⟨b, o, none⟩ ∧ b < B ∧ ∀ (i : Nat) (d : Dat), ds[i]? = some d → ∃ a' cap,
 w.cell? ⟨b, o + i * 6, none⟩ = some (.int .i64 d.kind) ∧ w.cell? ⟨b, o + i * 6 + 1, none⟩ = some (.int .i64 d.n) ∧ w.cell? ⟨b, o + i * 6 + 2, none⟩ = some (.string d.name) ∧
 w.cell? ⟨b, o + i * 6 + 3, none⟩ = some (.int .i64 d.stamp) ∧ w.cell? ⟨b, o + i * 6 + 4, none⟩ = some (.int .i64 d.lib) ∧ w.cell? ⟨b, o + i * 6 + 5, none⟩ = some (.slice a' d.kids.length cap) ∧
 d.name.size ≤ maxLen ∧ Lies B w g a' d.kids := by
 cases f with
 | zero => exact absurd h h0
 | succ f =>
  rcases h.2 with h | ⟨b, o, ha, hb, h⟩
  ·exact absurd h h0
  exact ⟨f, b, o, rfl, ha, hb, h⟩
structure Ctr (cb n : Nat) (w : World) : Prop where
 lt : cb < w.heap.size
 cell : w.cell? ⟨cb, 0, none⟩ = some (.int .i64 (n : Int))
 thaw : w.frozen? ⟨cb, 0, none⟩ = false
def Told (cb : Nat) (r : Int × Nat) (w : World) (e : Ending) (w' : World) : Prop :=
 e = .returned (.int .i64 r.1) ∧ Keep cb w w' ∧ Ctr cb r.2 w'
theorem Ctr.below {cb n : Nat} {w w' : World} (h : Ctr cb n w) (hb : Below w.heap.size w w') : Ctr cb n w' :=
 ⟨Nat.lt_of_lt_of_le h.lt hb.size, (hb.cell (p := ⟨cb, 0, none⟩) h.lt).trans h.cell, (hb.frozen (p := ⟨cb, 0, none⟩) h.lt).trans h.thaw⟩
theorem Ctr.alloc {cb n : Nat} {w : World} (h : Ctr cb n w) (o : Obj) : Ctr cb n (w.alloc o) :=
 h.below ((Below.refl _ _).alloc (Nat.le_refl _) _)
theorem Ctr.set {cb n : Nat} {w : World} (h : Ctr cb n w) (m : Nat) : Ctr cb m (w.setCell ⟨cb, 0, none⟩ (.int .i64 (m : Int))) := by
 refine ⟨by simp [World.setCell]; exact h.lt, ?_, ?_⟩
 ·exact World.cell?_setCell_same _ _ _ h.cell
 rw [World.frozen?_setCell]; exact h.thaw
theorem datum_deep (d : Dat) (a : Option Addr) (cap cb n : Nat) (w : World) (hn : n ≤ 2000) (hc : Ctr cb n w) :
 Calls Tryz.prog 45 #[.pointer (some ⟨cb, 0, none⟩), dv d a cap, .int .i64 41] w (Told cb (4, n + 1) w) := by
 have c1 := hc.cell
 have f1 := hc.thaw
 have l1 := hc.lt
 have HC : Hid (Ctr cb n w) := hc
 clear hc
 obtain ⟨k, n', nm, st, lb, ks⟩ := d
 unfold dv
 by_cases h : (2000 : Int) < n + 1
 ·go_enter Tryz.func45, Tryz.ntmps45
  go_wp2_with fail
  go_ret
  exact ⟨rfl, ((Keep.refl _ _).setCell _ rfl _).alloc _, (HC.out.set (n + 1)).alloc _⟩
 go_enter Tryz.func45, Tryz.ntmps45
 go_wp2_with fail
 go_ret
 exact ⟨rfl, ((Keep.refl _ _).setCell _ rfl _).alloc _, (HC.out.set (n + 1)).alloc _⟩
theorem datum_much (d : Dat) (a : Option Addr) (cap cb n : Nat) (dp : Int) (w : World) (hn : n = 2000) (hc : Ctr cb n w) :
 Calls Tryz.prog 45 #[.pointer (some ⟨cb, 0, none⟩), dv d a cap, .int .i64 dp] w (Told cb (4, n + 1) w) := by
 have c1 := hc.cell
 have f1 := hc.thaw
 have l1 := hc.lt
 have HC : Hid (Ctr cb n w) := hc
 clear hc
 subst hn
 obtain ⟨k, n', nm, st, lb, ks⟩ := d
 unfold dv
 go_enter Tryz.func45, Tryz.ntmps45
 go_wp2_with fail
 go_ret
 exact ⟨rfl, ((Keep.refl _ _).setCell _ rfl _).alloc _, (HC.out.set (2000 + 1)).alloc _⟩
theorem box_cell {w W w1 : World} {A : Array Value} {T : TypeId} (hb : Below (W.alloc (.cells A T)).heap.size (W.alloc (.cells A T)) w1) (hW : W.heap.size = w.heap.size) (j : Nat) : w1.cell? ⟨w.heap.size, j, none⟩ = A[j]? := by
 rw [← hW]
 exact (hb.cell (p := ⟨W.heap.size, j, none⟩) (by simp)).trans (World.cell?_alloc_mark W A T (0, 0) j)
theorem datum_bad (d : Dat) (a : Option Addr) (cap cb n : Nat) (dp : Int) (w : World) (hs : d.name.size ≤ maxLen) (hn : n ≤ 1999) (hd : dp ≤ 40) (hc : Ctr cb n w) (h0 : alone d ≠ 0) :
 Calls Tryz.prog 45 #[.pointer (some ⟨cb, 0, none⟩), dv d a cap, .int .i64 dp] w (Told cb (alone d, n + 1) w) := by
 have WA : Hid (∀ w, Calls Tryz.prog 70 #[dv d a cap] w fun e w' => e = .returned (.int .i64 (alone d)) ∧ Below w.heap.size w w') := fun w => wrongAlone_any d a cap hs w
 have c1 := hc.cell
 have f1 := hc.thaw
 have l1 := hc.lt
 have HC : Hid (Ctr cb n w) := hc
 clear hc
 generalize alone d = y at WA h0 ⊢
 have y0 : (y != 0) = true := by simpa using h0
 clear h0
 obtain ⟨k, n', nm, st, lb, ks⟩ := d
 unfold dv at WA ⊢
 simp only at WA hs
 go_enter Tryz.func45, Tryz.ntmps45
 go_wp2_with fail
 refine (WA.out _).mono ?_
 rintro e w1 ⟨rfl, hb1⟩
 have hk1 : Keep cb w w1 := (((Keep.refl _ _).setCell _ rfl _).alloc _).below hb1
 have hc1 : Ctr cb (n + 1) w1 := ((HC.out.set (n + 1)).alloc _).below hb1
 clear hb1 WA
 go_wp2_with fail
 go_ret
 exact ⟨rfl, hk1, hc1⟩
theorem datum_leaf (d : Dat) (a : Option Addr) (cap cb n : Nat) (dp : Int) (w : World) (hs : d.name.size ≤ maxLen) (hn : n ≤ 1999) (hd : dp ≤ 40) (hc : Ctr cb n w) (h0 : alone d = 0) (hk : d.kind ≠ 4) :
 Calls Tryz.prog 45 #[.pointer (some ⟨cb, 0, none⟩), dv d a cap, .int .i64 dp] w (Told cb (0, n + 1) w) := by
 have WA : Hid (∀ w, Calls Tryz.prog 70 #[dv d a cap] w fun e w' => e = .returned (.int .i64 0) ∧ Below w.heap.size w w') := fun w => by
  have := wrongAlone_any d a cap hs w
  rwa [h0] at this
 have c1 := hc.cell
 have f1 := hc.thaw
 have l1 := hc.lt
 have HC : Hid (Ctr cb n w) := hc
 clear hc h0
 obtain ⟨k, n', nm, st, lb, ks⟩ := d
 unfold dv at WA ⊢
 simp only at WA hs hk
 have k4 : (k != 4) = true := by simpa using hk
 clear hk
 go_enter Tryz.func45, Tryz.ntmps45
 go_wp2_with fail
 refine (WA.out _).mono ?_
 rintro e w1 ⟨rfl, hb1⟩
 have q0 : w1.cell? ⟨w.heap.size, 0, none⟩ = some (.int .i64 k) := box_cell hb1 (by simp [World.setCell]) 0
 have hk1 : Keep cb w w1 := (((Keep.refl _ _).setCell _ rfl _).alloc _).below hb1
 have hc1 : Ctr cb (n + 1) w1 := ((HC.out.set (n + 1)).alloc _).below hb1
 clear hb1 WA
 go_wp2_with fail
 go_ret
 exact ⟨rfl, hk1, hc1⟩
theorem chkL_drop (g : Dat → Nat → Int × Nat) (ks : List Dat) (i m : Nat) (d : Dat) (h : ks[i]? = some d) (h0 : (g d m).1 = 0) : chkL g (ks.drop i) m = chkL g (ks.drop (i + 1)) (g d m).2 := by
 have hi := (List.getElem?_eq_some_iff.1 h)
 obtain ⟨hi, e⟩ := hi
 rw [List.drop_eq_getElem_cons hi, e]
 show (if (g d m).1 = 0 then _ else _) = _
 rw [if_pos h0]
theorem chkL_bad (g : Dat → Nat → Int × Nat) (ks : List Dat) (i m : Nat) (d : Dat) (h : ks[i]? = some d) (h0 : (g d m).1 ≠ 0) : chkL g (ks.drop i) m = g d m := by
 obtain ⟨hi, e⟩ := List.getElem?_eq_some_iff.1 h
 rw [List.drop_eq_getElem_cons hi, e]
 show (if (g d m).1 = 0 then _ else _) = _
 rw [if_neg h0]
theorem datum_list (B f g : Nat) (d : Dat) (a : Option Addr) (cap cb n : Nat) (dp : Int) (w : World) (hl : Lies B w g a d.kids) (hs : d.name.size ≤ maxLen) (hn : n ≤ 1999) (hd0 : 1 ≤ dp) (hd : dp ≤ 40) (hB : B ≤ cb) (hc : Ctr cb n w) (hk : d.kind = 4)
 (ih : ∀ (g : Nat) (d : Dat) (a : Option Addr) (cap n : Nat) (w : World), Lies B w g a d.kids → d.name.size ≤ maxLen → n ≤ 2000 → Ctr cb n w → Calls Tryz.prog 45 #[.pointer (some ⟨cb, 0, none⟩), dv d a cap, .int .i64 (dp + 1)] w (Told cb (chk f d n) w)) :
 Calls Tryz.prog 45 #[.pointer (some ⟨cb, 0, none⟩), dv d a cap, .int .i64 dp] w (Told cb (chkL (chk f) d.kids (n + 1)) w) := by
 have WA : Hid (∀ w, Calls Tryz.prog 70 #[dv d a cap] w fun e w' => e = .returned (.int .i64 0) ∧ Below w.heap.size w w') := fun w => by
  have := wrongAlone_any d a cap hs w
  rwa [alone_list hk] at this
 have IH : Hid (∀ (g : Nat) (d : Dat) (a : Option Addr) (cap n : Nat) (w : World), Lies B w g a d.kids → d.name.size ≤ maxLen → n ≤ 2000 → Ctr cb n w → Calls Tryz.prog 45 #[.pointer (some ⟨cb, 0, none⟩), dv d a cap, .int .i64 (dp + 1)] w (Told cb (chk f d n) w)) := ih
 have hlen := hl.len
 have HL : Hid (Lies B w g a d.kids) := hl
 have c1 := hc.cell
 have f1 := hc.thaw
 have l1 := hc.lt
 have HC : Hid (Ctr cb n w) := hc
 clear hc hl ih
 obtain ⟨k, n', nm, st, lb, ks⟩ := d
 unfold dv at WA ⊢
 simp only at WA hs hk hlen HL ⊢
 subst hk
 go_enter Tryz.func45, Tryz.ntmps45
 go_wp2_with fail
 refine (WA.out _).mono ?_
 rintro e w1 ⟨rfl, hb1⟩
 have q0 : w1.cell? ⟨w.heap.size, 0, none⟩ = some (.int .i64 4) := box_cell hb1 (by simp [World.setCell]) 0
 have q5 : w1.cell? ⟨w.heap.size, 5, none⟩ = some (.slice a ks.length cap) := box_cell hb1 (by simp [World.setCell]) 5
 have hk1 : Keep cb w w1 := (((Keep.refl _ _).setCell _ rfl _).alloc _).below hb1
 have hc1 : Ctr cb (n + 1) w1 := ((HC.out.set (n + 1)).alloc _).below hb1
 clear hb1 WA c1 f1
 go_wp2_with fail
 go_loopw [40] (fun i wr => ∃ j m : Nat, j ≤ ks.length ∧ m ≤ 2000 ∧ i = .int .i64 j ∧ Keep cb w wr ∧ Ctr cb m wr ∧ chkL (chk f) ks (n + 1) = chkL (chk f) (ks.drop j) m) (fun i _ => ks.length - (intOf i).toNat)
 case atStart => exact ⟨0, n + 1, Nat.zero_le _, by omega, rfl, hk1, hc1, rfl⟩
 clear hk1 hc1 q0 q5
 obtain ⟨j, m, hj, hm, rfl, hkr, hcr, he⟩ := hrel
 have HEQ : Hid (chkL (chk f) ks (n + 1) = chkL (chk f) (ks.drop j) m) := he
 clear he
 by_cases hlt : j < ks.length
 rotate_left
 ·obtain rfl : j = ks.length := by omega
  rw [List.drop_length] at HEQ
  clear IH HL HC
  have HK2 : Hid (Keep cb w wr ∧ Ctr cb m wr) := ⟨hkr, hcr⟩
  clear hkr hcr
  go_wp2_with fail
  go_ret
  refine ⟨?_, HK2.out.1, ?_⟩
  ·rw [HEQ.out]; rfl
  rw [HEQ.out]; exact HK2.out.2
 obtain ⟨kid, hkid⟩ : ∃ kid, ks[j]? = some kid := ⟨ks[j], List.getElem?_eq_getElem hlt⟩
 have hne : ks ≠ [] := by intro e; rw [e] at hlt; simp at hlt
 have hLr : Lies B wr g a ks := HL.out.below (hkr.toBelow hB (by omega))
 obtain ⟨g', b, o, hg, ha, hbB, hall⟩ := hLr.at hne
 subst ha
 obtain ⟨a', cap', k0, k1, k2, k3, k4, k5, hkn, hkk⟩ := hall j kid hkid
 have HK : Hid (ks[j]? = some kid) := hkid
 have HA : Hid (Lies B wr g' a' kid.kids) := hkk
 have lr := hcr.lt
 have hkn' : Hid (kid.name.size ≤ maxLen) := hkn
 have HKr : Hid (Keep cb w wr ∧ Ctr cb m wr) := ⟨hkr, hcr⟩
 clear hkid hall hkk hLr hne hg hkn hkr hcr
 go_wp2_with fail
 refine (IH.out g' kid a' cap' m _ (HA.out.below ((Below.refl _ _).alloc (by omega) _)) hkn'.out hm (HKr.out.2.alloc _)).mono ?_
 rintro e w2 ⟨rfl, hk2, hc2⟩
 have hk3 : Hid (Keep cb w w2) := (HKr.out.1.alloc _).trans hk2
 have HC2 : Hid (Ctr cb (chk f kid m).2 w2) := hc2
 have HM : Hid ((chk f kid m).1 = 0 → (chk f kid m).2 ≤ 2000) := chk_le f kid m hm
 have H1 : Hid ((chk f kid m).1 = 0 → chkL (chk f) ks (n + 1) = chkL (chk f) (ks.drop (j + 1)) (chk f kid m).2) := fun h => HEQ.out.trans (chkL_drop _ _ _ _ _ HK.out h)
 have H2 : Hid ((chk f kid m).1 ≠ 0 → chkL (chk f) ks (n + 1) = chk f kid m) := fun h => HEQ.out.trans (chkL_bad _ _ _ _ _ HK.out h)
 clear hk2 hc2 HK HA HKr IH HL HC HEQ
 generalize chk f kid m = y at HC2 HM H1 H2 ⊢
 obtain ⟨y1, y2⟩ := y
 simp only at HC2 HM H1 H2 ⊢
 by_cases y0 : y1 = 0
 ·subst y0
  go_wp2_with fail
  go_roundw
  case rel => exact ⟨j + 1, y2, by omega, HM.out rfl, by go_num, hk3.out, HC2.out, H1.out rfl⟩
  case measure => simp [intOf]; omega
 have y0' : (y1 != 0) = true := by simpa using y0
 go_wp2_with fail
 go_ret
 refine ⟨?_, hk3.out, ?_⟩
 ·rw [H2.out y0]; rfl
 rw [H2.out y0]; exact HC2.out
theorem datum_any (B cb : Nat) (hB : B ≤ cb) : ∀ (f : Nat), f ≤ 40 → ∀ (g : Nat) (d : Dat) (a : Option Addr) (cap n : Nat) (w : World), Lies B w g a d.kids → d.name.size ≤ maxLen → n ≤ 2000 → Ctr cb n w →
 Calls Tryz.prog 45 #[.pointer (some ⟨cb, 0, none⟩), dv d a cap, .int .i64 (41 - (f : Int))] w (Told cb (chk f d n) w)
 | 0, _, g, d, a, cap, n, w, _, _, hn, hc => datum_deep d a cap cb n w hn hc
 | f + 1, hf, g, d, a, cap, n, w, hl, hs, hn, hc => by
  have hd0 : 1 ≤ 41 - ((f + 1 : Nat) : Int) := by omega
  have hd : 41 - ((f + 1 : Nat) : Int) ≤ 40 := by omega
  unfold chk
  by_cases h : 2000 < n + 1
  ·rw [if_pos h]
   exact datum_much d a cap cb n _ w (by omega) hc
  rw [if_neg h]
  by_cases h0 : alone d = 0
  ·rw [if_pos h0]
   by_cases hk : d.kind = 4
   ·rw [if_pos hk]
    refine datum_list B f g d a cap cb n _ w hl hs (by omega) hd0 hd hB hc hk ?_
    intro g d a cap n w hl hs hn hc
    have := datum_any B cb hB f (by omega) g d a cap n w hl hs hn hc
    rw [show 41 - ((f + 1 : Nat) : Int) + 1 = 41 - (f : Int) from by omega]
    exact this
   rw [if_neg hk]
   exact datum_leaf d a cap cb n _ w hs (by omega) hd hc h0 hk
  rw [if_neg h0]
  exact datum_bad d a cap cb n _ w hs (by omega) hd hc h0
def fv (x : Int × Int) : Value := .agg #[.int .i64 x.1, .int .i64 x.2]
theorem wrongFrom_drop (l : List Dat) (i m : Nat) (d : Dat) (h : l[i]? = some d) (h0 : (chk 40 d m).1 = 0) : wrongFrom (l.drop i) i m = wrongFrom (l.drop (i + 1)) (i + 1) (chk 40 d m).2 := by
 obtain ⟨hi, e⟩ := List.getElem?_eq_some_iff.1 h
 rw [List.drop_eq_getElem_cons hi, e]
 show (if (chk 40 d m).1 = 0 then _ else _) = _
 rw [if_pos h0]
theorem wrongFrom_bad (l : List Dat) (i m : Nat) (d : Dat) (h : l[i]? = some d) (h0 : (chk 40 d m).1 ≠ 0) : wrongFrom (l.drop i) i m = ((chk 40 d m).1, (i : Int)) := by
 obtain ⟨hi, e⟩ := List.getElem?_eq_some_iff.1 h
 rw [List.drop_eq_getElem_cons hi, e]
 show (if (chk 40 d m).1 = 0 then _ else _) = _
 rw [if_neg h0]
structure At (N : Nat) (w : World) (m : Nat) (wr : World) : Prop where
 below : Below N w wr
 ctr : Ctr (N + 1) m wr
 q0 : wr.cell? ⟨N, 0, none⟩ = some (.int .i64 0)
 q1 : wr.cell? ⟨N, 1, none⟩ = some (.int .i64 0)
 z0 : wr.frozen? ⟨N, 0, none⟩ = false
 z1 : wr.frozen? ⟨N, 1, none⟩ = false
theorem At.keep {N : Nat} {w : World} {m m' : Nat} {wr wr' : World} (h : At N w m wr) (k : Keep (N + 1) wr wr') (c : Ctr (N + 1) m' wr') : At N w m' wr' := by
 have hN : N < wr.heap.size := Nat.lt_of_succ_lt h.ctr.lt
 have e : ∀ q, wr'.cell? ⟨N, q, none⟩ = wr.cell? ⟨N, q, none⟩ := fun q => k.cell (p := ⟨N, q, none⟩) hN (Nat.ne_of_lt (Nat.lt_succ_self N))
 have z : ∀ q, wr'.frozen? ⟨N, q, none⟩ = wr.frozen? ⟨N, q, none⟩ := fun q => k.frozen (p := ⟨N, q, none⟩) hN (Nat.ne_of_lt (Nat.lt_succ_self N))
 exact ⟨h.below.trans (k.toBelow (Nat.le_succ N) (Nat.le_of_lt hN)), c, (e 0).trans h.q0, (e 1).trans h.q1, (z 0).trans h.z0, (z 1).trans h.z1⟩
theorem At.start (w : World) (T : TypeId) : At w.heap.size w 0 ((w.alloc (.cells #[.int .i64 0, .int .i64 0] 40)).alloc (.cells #[.int .i64 0] T)) := by
 have hs : (w.alloc (.cells #[.int .i64 0, .int .i64 0] 40)).heap.size = w.heap.size + 1 := by simp
 refine ⟨((Below.refl _ _).alloc (Nat.le_refl _) _).alloc (by simp) _, ⟨by simp, ?_, ?_⟩, ?_, ?_, ?_, ?_⟩
 ·exact (hs ▸ World.cell?_alloc_mark (w.alloc (.cells #[.int .i64 0, .int .i64 0] 40)) #[.int .i64 0] T (0, 0) 0)
 ·go_simp
 ·go_simp
 ·go_simp
 ·go_simp
 go_simp
set_option maxRecDepth 100000 in
set_option maxHeartbeats 1600000 in
theorem Wrong_any (B g : Nat) (l : List Dat) (a : Option Addr) (cap : Nat) (w : World) (hl : Lies B w g a l) (hB : B ≤ w.heap.size) :
 Calls Tryz.prog 16 #[.slice a l.length cap] w fun e w' => e = .returned (fv (wrong l)) ∧ Below w.heap.size w w' := by
 have hlen := hl.len
 have HL : Hid (Lies B w g a l) := hl
 clear hl
 go_enter Tryz.func16, Tryz.ntmps16
 go_wp2_with fail
 go_loopw [9] (fun i wr => ∃ j m : Nat, j ≤ l.length ∧ m ≤ 2000 ∧ i = .int .i64 j ∧ At w.heap.size w m wr ∧ wrong l = wrongFrom (l.drop j) j m) (fun i _ => l.length - (intOf i).toNat)
 case atStart => exact ⟨0, 0, Nat.zero_le _, Nat.zero_le _, rfl, At.start w _, rfl⟩
 obtain ⟨j, m, hj, hm, rfl, hat, he⟩ := hrel
 have HEQ : Hid (wrong l = wrongFrom (l.drop j) j m) := he
 have q0 := hat.q0
 have q1 := hat.q1
 have z0 := hat.z0
 have z1 := hat.z1
 have lr := hat.ctr.lt
 have HAT : Hid (At w.heap.size w m wr) := hat
 clear he hat
 by_cases hlt : j < l.length
 rotate_left
 ·obtain rfl : j = l.length := by omega
  rw [List.drop_length] at HEQ
  clear HL
  go_wp2_with fail
  refine bodyPost_ret (v := fv (0, 0)) (by simp [results, Tryz.results16, go_sem, fv, q0, q1]) rfl ⟨by rw [HEQ.out]; rfl, (HAT.out.below.setCell (p := ⟨w.heap.size, 0, none⟩) (Nat.le_refl _) _).setCell (p := ⟨w.heap.size, 1, none⟩) (Nat.le_refl _) _⟩
 obtain ⟨d, hd⟩ : ∃ d, l[j]? = some d := ⟨l[j], List.getElem?_eq_getElem hlt⟩
 have hne : l ≠ [] := by intro e; rw [e] at hlt; simp at hlt
 have hLr : Lies B wr g a l := HL.out.below (HAT.out.below.mono hB)
 obtain ⟨g', b, o, hg, ha, hbB, hall⟩ := hLr.at hne
 subst ha
 obtain ⟨a', cap', k0, k1, k2, k3, k4, k5, hkn, hkk⟩ := hall j d hd
 have HK : Hid (l[j]? = some d) := hd
 have HA : Hid (Lies B wr g' a' d.kids) := hkk
 have HN : Hid (d.name.size ≤ maxLen) := hkn
 clear hd hall hkk hLr hne hg hkn
 go_wp2_with fail
 refine (datum_any B (w.heap.size + 1) (by omega) 40 (Nat.le_refl _) g' d a' cap' m _ (HA.out.below ((Below.refl _ _).alloc (by omega) _)) HN.out hm (HAT.out.ctr.alloc _)).mono ?_
 rintro e w2 ⟨rfl, hk2, hc2⟩
 have hat2 : At w.heap.size w (chk 40 d m).2 w2 := HAT.out.keep (((Keep.refl _ _).alloc _).trans hk2) hc2
 have HM : Hid ((chk 40 d m).1 = 0 → (chk 40 d m).2 ≤ 2000) := chk_le 40 d m hm
 have H1 : Hid ((chk 40 d m).1 = 0 → wrong l = wrongFrom (l.drop (j + 1)) (j + 1) (chk 40 d m).2) := fun h => HEQ.out.trans (wrongFrom_drop _ _ _ _ HK.out h)
 have H2 : Hid ((chk 40 d m).1 ≠ 0 → wrong l = ((chk 40 d m).1, (j : Int))) := fun h => HEQ.out.trans (wrongFrom_bad _ _ _ _ HK.out h)
 clear hk2 hc2 HK HA HAT HL HEQ q0 q1 z0 z1 k0 k1 k2 k3 k4 k5 lr
 generalize chk 40 d m = y at hat2 HM H1 H2 ⊢
 obtain ⟨y1, y2⟩ := y
 simp only at hat2 HM H1 H2 ⊢
 have q0 := hat2.q0
 have q1 := hat2.q1
 have z0 := hat2.z0
 have z1 := hat2.z1
 have lr := hat2.ctr.lt
 have HAT : Hid (At w.heap.size w y2 w2) := hat2
 clear hat2
 by_cases y0 : y1 = 0
 ·subst y0
  go_wp2_with fail
  go_roundw
  case rel => exact ⟨j + 1, y2, by omega, HM.out rfl, by go_num, HAT.out, H1.out rfl⟩
  case measure => simp [intOf]; omega
 have y0' : (y1 != 0) = true := by simpa using y0
 go_wp2_with fail
 refine bodyPost_ret (v := fv (y1, (j : Int))) (by simp [results, Tryz.results16, go_sem, fv, q0, q1]) rfl ⟨by rw [H2.out y0], (HAT.out.below.setCell (p := ⟨w.heap.size, 0, none⟩) (Nat.le_refl _) _).setCell (p := ⟨w.heap.size, 1, none⟩) (Nat.le_refl _) _⟩
end Go.Proofs.YtonafbennobgdaaGreatDoor
