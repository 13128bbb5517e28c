/- Data in memory; what package text says of a node alone. Data that lie in memory; worlds that are kept but for one block. Package text's checker. -/
import Derived.ChangeAlike
import Derived.RegionTactic
import Derived.Test.YthikdpclifeonaaGreatDoorK04
namespace Go.Proofs.YthikdpclifeonaaGreatDoor
section
set_option linter.unusedVariables false
set_option linter.unusedSimpArgs false
open Go.RowKit

/-- A datum as a value: its kids lie behind a. -/
def dv (d : Dat) (a : Option Addr) (cap : Nat) : Value :=
  .agg #[.int .i64 d.kind, .int .i64 d.n, .string d.name, .int .i64 d.stamp, .int .i64 d.lib, .slice a d.kids.length cap]

set_option maxHeartbeats 400000 in
theorem inRange_any (n : Int) (w : World) :
    Calls Tryz.prog 181 #[.int .i64 n] w fun e w' => e = .returned (.bool (rangeB n)) ∧ w' = w := by
  by_cases a : -1000000000000000 ≤ n
  · by_cases b : n ≤ 1000000000000000
    · go_enter Tryz.func181, Tryz.ntmps181
      go_wp2
      go_ret
      exact ⟨retB (by unfold rangeB; rw [decide_eq_true a, decide_eq_true b]; rfl), rfl⟩
    · go_enter Tryz.func181, Tryz.ntmps181
      go_wp2
      go_ret
      exact ⟨retB (by unfold rangeB; rw [decide_eq_false (p := n ≤ 1000000000000000) (by omega), Bool.and_false]), rfl⟩
  · have a' : ¬ -1000000000000000 ≤ n := a
    go_enter Tryz.func181, Tryz.ntmps181
    go_wp2
    go_ret
    exact ⟨retB (by unfold rangeB; rw [decide_eq_false (by omega), Bool.false_and]), rfl⟩

def symErr (d : Dat) : Int := if namedB d.name then (if d.stamp = 0 ∧ d.lib = 0 then 0 else 8) else 7

set_option maxHeartbeats 400000 in
theorem wrongSymbol_any (d : Dat) (a : Option Addr) (cap : Nat) (hs : d.name.size ≤ maxLen) (w : World) :
    Calls Tryz.prog 182 #[dv d a cap] w fun e w' => e = .returned (.int .i64 (symErr d)) ∧ Below w.heap.size w w' := by
  obtain ⟨k, n, nm, st, lb, ks⟩ := d
  unfold dv symErr
  simp only at hs ⊢
  obtain ⟨b, HB⟩ : ∃ b, Hid (namedB nm = b) := ⟨_, rfl⟩
  rw [HB.out]
  have na : ∀ w, Calls Tryz.prog 123 #[.string nm] w fun e w' => e = .returned (.bool b) ∧ w' = w := by
    intro w
    rw [← HB.out]
    exact Named_any nm hs w
  have NA : Hid (∀ w, Calls Tryz.prog 123 #[.string nm] w fun e w' => e = .returned (.bool b) ∧ w' = w) := na
  clear na
  cases b
  · go_enter Tryz.func182, Tryz.ntmps182
    go_wp2_with fail
    refine (NA.out _).mono ?_
    rintro e w' ⟨rfl, rfl⟩
    go_wp2_with fail
    go_ret
    exact ⟨rfl, (Below.refl _ _).alloc (Nat.le_refl _) _⟩
  · by_cases h1 : st = 0
    · by_cases h2 : lb = 0
      · subst h1 h2
        go_enter Tryz.func182, Tryz.ntmps182
        go_wp2_with fail
        refine (NA.out _).mono ?_
        rintro e w' ⟨rfl, rfl⟩
        go_wp2_with fail
        go_ret
        exact ⟨rfl, (Below.refl _ _).alloc (Nat.le_refl _) _⟩
      · subst h1
        have h2' : (lb != 0) = true := by simpa using h2
        go_enter Tryz.func182, Tryz.ntmps182
        go_wp2_with fail
        refine (NA.out _).mono ?_
        rintro e w' ⟨rfl, rfl⟩
        go_wp2_with fail
        go_ret
        exact ⟨rfl, (Below.refl _ _).alloc (Nat.le_refl _) _⟩
    · have h1' : (st != 0) = true := by simpa using h1
      go_enter Tryz.func182, Tryz.ntmps182
      go_wp2_with fail
      refine (NA.out _).mono ?_
      rintro e w' ⟨rfl, rfl⟩
      go_wp2_with fail
      go_ret
      exact ⟨rfl, (Below.refl _ _).alloc (Nat.le_refl _) _⟩

theorem alone_num {d : Dat} (h : d.kind = 1) : alone d = if rangeB d.n then 0 else 3 := by unfold alone; rw [if_pos h]
theorem alone_bool {d : Dat} (h : d.kind = 2) : alone d = if d.n = 0 ∨ d.n = 1 then 0 else 3 := by unfold alone; rw [if_neg (by omega), if_pos h]
theorem alone_sym {d : Dat} (h : d.kind = 3) : alone d = symErr d := by unfold alone symErr; rw [if_neg (by omega), if_neg (by omega), if_pos h]
theorem alone_list {d : Dat} (h : d.kind = 4) : alone d = 0 := by unfold alone; rw [if_neg (by omega), if_neg (by omega), if_neg (by omega), if_pos h]
theorem alone_else {d : Dat} (h1 : d.kind ≠ 1) (h2 : d.kind ≠ 2) (h3 : d.kind ≠ 3) (h4 : d.kind ≠ 4) : alone d = 1 := by unfold alone; rw [if_neg h1, if_neg h2, if_neg h3, if_neg h4]

set_option maxHeartbeats 800000 in
theorem wrongAlone_any (d : Dat) (a : Option Addr) (cap : Nat) (hs : d.name.size ≤ maxLen) (w : World) :
    Calls Tryz.prog 171 #[dv d a cap] w fun e w' => e = .returned (.int .i64 (alone d)) ∧ Below w.heap.size w w' := by
  by_cases k1 : d.kind = 1
  · rw [alone_num k1]
    obtain ⟨k, n, nm, st, lb, ks⟩ := d
    simp only at hs k1 ⊢
    subst k1
    unfold dv
    obtain ⟨b, HB⟩ : ∃ b, Hid (rangeB n = b) := ⟨_, rfl⟩
    rw [HB.out]
    have NA : Hid (∀ w, Calls Tryz.prog 181 #[.int .i64 n] w fun e w' => e = .returned (.bool b) ∧ w' = w) := by
      intro w
      rw [← HB.out]
      exact inRange_any n w
    cases b
    all_goals
      go_enter Tryz.func171, Tryz.ntmps171
      go_wp2_with fail
      refine (NA.out _).mono ?_
      rintro e w' ⟨rfl, rfl⟩
      go_wp2_with fail
      go_ret
      exact ⟨rfl, (Below.refl _ _).alloc (Nat.le_refl _) _⟩
  · by_cases k2 : d.kind = 2
    · rw [alone_bool k2]
      obtain ⟨k, n, nm, st, lb, ks⟩ := d
      simp only at hs k2 ⊢
      subst k2
      clear k1
      unfold dv
      by_cases n0 : n = 0
      · subst n0
        go_enter Tryz.func171, Tryz.ntmps171
        go_wp2_with fail
        go_ret
        exact ⟨rfl, (Below.refl _ _).alloc (Nat.le_refl _) _⟩
      · by_cases n1 : n = 1
        · subst n1
          go_enter Tryz.func171, Tryz.ntmps171
          go_wp2_with fail
          go_ret
          exact ⟨rfl, (Below.refl _ _).alloc (Nat.le_refl _) _⟩
        · have n0' : (n != 0) = true := by simpa using n0
          have n1' : (n != 1) = true := by simpa using n1
          go_enter Tryz.func171, Tryz.ntmps171
          go_wp2_with fail
          go_ret
          exact ⟨rfl, (Below.refl _ _).alloc (Nat.le_refl _) _⟩
    · by_cases k3 : d.kind = 3
      · rw [alone_sym k3]
        have ws := fun w => wrongSymbol_any d a cap hs w
        have WS : Hid (∀ w, Calls Tryz.prog 182 #[dv d a cap] w fun e w' => e = .returned (.int .i64 (symErr d)) ∧ Below w.heap.size w w') := ws
        clear ws k1 k2
        generalize symErr d = y at WS ⊢
        obtain ⟨k, n, nm, st, lb, ks⟩ := d
        simp only at hs k3
        subst k3
        unfold dv at WS ⊢
        simp only at WS
        go_enter Tryz.func171, Tryz.ntmps171
        go_wp2_with fail
        refine (WS.out _).mono ?_
        rintro e w' ⟨rfl, hb⟩
        go_wp2_with fail
        go_ret
        exact ⟨rfl, ((Below.refl _ _).alloc (Nat.le_refl _) _).trans (hb.mono (by simp))⟩
      · by_cases k4 : d.kind = 4
        · rw [alone_list k4]
          obtain ⟨k, n, nm, st, lb, ks⟩ := d
          simp only at hs k4
          subst k4
          clear k1 k2 k3
          unfold dv
          go_enter Tryz.func171, Tryz.ntmps171
          go_wp2_with fail
          go_ret
          exact ⟨rfl, (Below.refl _ _).alloc (Nat.le_refl _) _⟩
        · rw [alone_else k1 k2 k3 k4]
          obtain ⟨k, n, nm, st, lb, ks⟩ := d
          simp only at hs k1 k2 k3 k4
          unfold dv
          have k1' : (k == 1) = false := by simpa using k1
          have k2' : (k == 2) = false := by simpa using k2
          have k3' : (k == 3) = false := by simpa using k3
          have k4' : (k == 4) = false := by simpa using k4
          clear k1 k2 k3 k4
          go_enter Tryz.func171, Tryz.ntmps171
          go_wp2_with fail
          go_ret
          exact ⟨rfl, (Below.refl _ _).alloc (Nat.le_refl _) _⟩
end
section
set_option linter.unusedVariables false
set_option linter.unusedSimpArgs false
open Go.RowKit

/-- All blocks are as they were, but for block c. -/
def Keep (c : Nat) (w w' : World) : Prop := w.grownBy w' (some c)

theorem Keep.refl (c : Nat) (w : World) : Keep c w w := ⟨rfl, rfl, rfl, Nat.le_refl _, fun _ _ _ => rfl⟩
theorem Keep.trans {c : Nat} {a b d : World} (h : Keep c a b) (k : Keep c b d) : Keep c a d :=
  ⟨k.os.trans h.os, k.tape.trans h.tape, k.output.trans h.output, Nat.le_trans h.size k.size, fun i hi hc => (k.block i (Nat.lt_of_lt_of_le hi h.size) hc).trans (h.block i hi hc)⟩
theorem Keep.below {c : Nat} {a b d : World} (h : Keep c a b) (k : Below b.heap.size b d) : Keep c a d :=
  h.trans ⟨k.os, k.tape, k.output, k.size, fun i hi _ => k.block i hi⟩
theorem Keep.alloc {c : Nat} {a b : World} (h : Keep c a b) (o : Obj) : Keep c a (b.alloc o) :=
  h.below ((Below.refl _ _).alloc (Nat.le_refl _) _)
theorem Keep.drew {c : Nat} {a b : World} (h : Keep c a b) : Keep c a b.drew := ⟨h.os, h.tape, h.output, h.size, h.block⟩
theorem Keep.setCell {c : Nat} {a b : World} (h : Keep c a b) (p : Addr) (hp : p.block = c) (v : Value) : Keep c a (b.setCell p v) :=
  h.trans ⟨rfl, rfl, rfl, by simp [World.setCell], fun i hi hc => Below.heap_setCell _ _ _ _ (fun e => hc (by rw [e, hp]))⟩
theorem Keep.setNew {c : Nat} {a b : World} (h : Keep c a b) (p : Addr) (hp : a.heap.size ≤ p.block) (v : Value) : Keep c a (b.setCell p v) :=
  ⟨h.os, h.tape, h.output, by have := h.size; simp [World.setCell]; exact this, fun i hi hc => (Below.heap_setCell _ _ _ _ (by omega)).trans (h.block i hi hc)⟩
theorem Keep.toBelow {c B : Nat} {a b : World} (h : Keep c a b) (hB : B ≤ c) (hs : B ≤ a.heap.size) : Below B a b :=
  ⟨h.os, h.tape, h.output, h.size, fun k hk => h.block k (by omega) (by simp; omega)⟩
theorem Keep.cell {c : Nat} {a b : World} (h : Keep c a b) {p : Addr} (hp : p.block < a.heap.size) (hc : p.block ≠ c) : b.cell? p = a.cell? p :=
  World.cell?_of_block (h.block _ hp (by simpa using hc))
theorem Keep.frozen {c : Nat} {a b : World} (h : Keep c a b) {p : Addr} (hp : p.block < a.heap.size) (hc : p.block ≠ c) : b.frozen? p = a.frozen? p :=
  World.frozen?_of_block (h.block _ hp (by simpa using hc))

/-- Data ds lie behind a, in blocks below B; they are nested at most so deep. -/
def Lies (B : Nat) (w : World) : Nat → Option Addr → List Dat → Prop
  | 0, _, ds => ds = []
  | f + 1, a, ds => ds.length ≤ 9223372036854775807 ∧ (ds = [] ∨ ∃ b o, a = some ⟨b, o, none⟩ ∧ b < B ∧ ∀ (i : Nat) (d : Dat), ds[i]? = some d → ∃ a' cap,
      w.cell? ⟨b, o + i * 6, none⟩ = some (.int .i64 d.kind) ∧ w.cell? ⟨b, o + i * 6 + 1, none⟩ = some (.int .i64 d.n) ∧ w.cell? ⟨b, o + i * 6 + 2, none⟩ = some (.string d.name) ∧
      w.cell? ⟨b, o + i * 6 + 3, none⟩ = some (.int .i64 d.stamp) ∧ w.cell? ⟨b, o + i * 6 + 4, none⟩ = some (.int .i64 d.lib) ∧ w.cell? ⟨b, o + i * 6 + 5, none⟩ = some (.slice a' d.kids.length cap) ∧
      d.name.size ≤ maxLen ∧ Lies B w f a' d.kids)

theorem Lies.stay {B : Nat} {w w' : World} (hw : ∀ k, k < B → w'.heap[k]? = w.heap[k]?) : ∀ (f : Nat) (a : Option Addr) (ds : List Dat), Lies B w f a ds → Lies B w' f a ds
  | 0, _, _, h => h
  | f + 1, a, ds, h => by
    obtain ⟨hl, h⟩ := h
    refine ⟨hl, ?_⟩
    rcases h with h | ⟨b, o, ha, hb, h⟩
    · exact Or.inl h
    · refine Or.inr ⟨b, o, ha, hb, fun i d hd => ?_⟩
      obtain ⟨a', cap, c0, c1, c2, c3, c4, c5, hn, hk⟩ := h i d hd
      have e : ∀ q, w'.cell? ⟨b, q, none⟩ = w.cell? ⟨b, q, none⟩ := fun q => World.cell?_of_block (hw b hb)
      exact ⟨a', cap, (e _).trans c0, (e _).trans c1, (e _).trans c2, (e _).trans c3, (e _).trans c4, (e _).trans c5, hn, Lies.stay hw f a' _ hk⟩

theorem Lies.below {B : Nat} {w w' : World} {f : Nat} {a : Option Addr} {ds : List Dat} (h : Lies B w f a ds) (hb : Below B w w') : Lies B w' f a ds :=
  Lies.stay (fun k hk => hb.block k hk) f a ds h

theorem Lies.len {B : Nat} {w : World} {f : Nat} {a : Option Addr} {ds : List Dat} (h : Lies B w f a ds) : ds.length ≤ 9223372036854775807 := by
  cases f with
  | zero => rw [show ds = [] from h]; exact Nat.zero_le _
  | succ f => exact h.1

theorem Lies.at {B : Nat} {w : World} {f : Nat} {a : Option Addr} {ds : List Dat} (h : Lies B w f a ds) (h0 : ds ≠ []) : ∃ g b o, f = g + 1 ∧ a = some ⟨b, o, none⟩ ∧ b < B ∧ ∀ (i : Nat) (d : Dat), ds[i]? = some d → ∃ a' cap,
      w.cell? ⟨b, o + i * 6, none⟩ = some (.int .i64 d.kind) ∧ w.cell? ⟨b, o + i * 6 + 1, none⟩ = some (.int .i64 d.n) ∧ w.cell? ⟨b, o + i * 6 + 2, none⟩ = some (.string d.name) ∧
      w.cell? ⟨b, o + i * 6 + 3, none⟩ = some (.int .i64 d.stamp) ∧ w.cell? ⟨b, o + i * 6 + 4, none⟩ = some (.int .i64 d.lib) ∧ w.cell? ⟨b, o + i * 6 + 5, none⟩ = some (.slice a' d.kids.length cap) ∧
      d.name.size ≤ maxLen ∧ Lies B w g a' d.kids := by
  cases f with
  | zero => exact absurd h h0
  | succ f =>
    rcases h.2 with h | ⟨b, o, ha, hb, h⟩
    · exact absurd h h0
    · exact ⟨f, b, o, rfl, ha, hb, h⟩
end
section
set_option linter.unusedVariables false
set_option linter.unusedSimpArgs false
open Go.RowKit

/-- What a count holds. -/
structure Ctr (cb n : Nat) (w : World) : Prop where
  lt : cb < w.heap.size
  cell : w.cell? ⟨cb, 0, none⟩ = some (.int .i64 (n : Int))
  thaw : w.frozen? ⟨cb, 0, none⟩ = false

/-- What is promised of a call that counts on. -/
def Told (cb : Nat) (r : Int × Nat) (w : World) (e : Ending) (w' : World) : Prop :=
  e = .returned (.int .i64 r.1) ∧ Keep cb w w' ∧ Ctr cb r.2 w'

theorem Ctr.below {cb n : Nat} {w w' : World} (h : Ctr cb n w) (hb : Below w.heap.size w w') : Ctr cb n w' :=
  ⟨Nat.lt_of_lt_of_le h.lt hb.size, (hb.cell (p := ⟨cb, 0, none⟩) h.lt).trans h.cell, (hb.frozen (p := ⟨cb, 0, none⟩) h.lt).trans h.thaw⟩

theorem Ctr.alloc {cb n : Nat} {w : World} (h : Ctr cb n w) (o : Obj) : Ctr cb n (w.alloc o) :=
  h.below ((Below.refl _ _).alloc (Nat.le_refl _) _)

theorem Ctr.set {cb n : Nat} {w : World} (h : Ctr cb n w) (m : Nat) : Ctr cb m (w.setCell ⟨cb, 0, none⟩ (.int .i64 (m : Int))) := by
  refine ⟨by simp [World.setCell]; exact h.lt, ?_, ?_⟩
  · exact World.cell?_setCell_same _ _ _ h.cell
  · rw [World.frozen?_setCell]; exact h.thaw

set_option maxRecDepth 100000 in
set_option maxHeartbeats 800000 in
theorem datum_deep (d : Dat) (a : Option Addr) (cap cb n : Nat) (w : World) (hn : n ≤ 2000) (hc : Ctr cb n w) :
    Calls Tryz.prog 151 #[.pointer (some ⟨cb, 0, none⟩), dv d a cap, .int .i64 41] w (Told cb (4, n + 1) w) := by
  have c1 := hc.cell
  have f1 := hc.thaw
  have l1 := hc.lt
  have HC : Hid (Ctr cb n w) := hc
  clear hc
  obtain ⟨k, n', nm, st, lb, ks⟩ := d
  unfold dv
  by_cases h : (2000 : Int) < n + 1
  · go_enter Tryz.func151, Tryz.ntmps151
    go_wp2_with fail
    go_ret
    exact ⟨rfl, ((Keep.refl _ _).setCell _ rfl _).alloc _, (HC.out.set (n + 1)).alloc _⟩
  · go_enter Tryz.func151, Tryz.ntmps151
    go_wp2_with fail
    go_ret
    exact ⟨rfl, ((Keep.refl _ _).setCell _ rfl _).alloc _, (HC.out.set (n + 1)).alloc _⟩

set_option maxRecDepth 100000 in
set_option maxHeartbeats 800000 in
theorem datum_much (d : Dat) (a : Option Addr) (cap cb n : Nat) (dp : Int) (w : World) (hn : n = 2000) (hc : Ctr cb n w) :
    Calls Tryz.prog 151 #[.pointer (some ⟨cb, 0, none⟩), dv d a cap, .int .i64 dp] w (Told cb (4, n + 1) w) := by
  have c1 := hc.cell
  have f1 := hc.thaw
  have l1 := hc.lt
  have HC : Hid (Ctr cb n w) := hc
  clear hc
  subst hn
  obtain ⟨k, n', nm, st, lb, ks⟩ := d
  unfold dv
  go_enter Tryz.func151, Tryz.ntmps151
  go_wp2_with fail
  go_ret
  exact ⟨rfl, ((Keep.refl _ _).setCell _ rfl _).alloc _, (HC.out.set (2000 + 1)).alloc _⟩
end
end Go.Proofs.YthikdpclifeonaaGreatDoor
