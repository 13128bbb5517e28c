/- Package text's checker. -/
import Derived.Test.YthooljlikllnpaaDoorDb
namespace Go.Proofs.YthooljlikllnpaaDoor
set_option linter.unusedVariables false
set_option linter.unusedSimpArgs false
open Go.RowKit

/-- What a count holds. -/
structure Ctr (cb n : Nat) (w : World) : Prop where
  lt : cb < w.heap.size
  cell : w.cell? ⟨cb, 0, none⟩ = some (.int .i64 (n : Int))
  thaw : w.frozen? ⟨cb, 0, none⟩ = false

/-- What is promised of a call that counts on. -/
def Told (cb : Nat) (r : Int × Nat) (w : World) (e : Ending) (w' : World) : Prop :=
  e = .returned (.int .i64 r.1) ∧ Keep cb w w' ∧ Ctr cb r.2 w'

theorem Ctr.below {cb n : Nat} {w w' : World} (h : Ctr cb n w) (hb : Below w.heap.size w w') : Ctr cb n w' :=
  ⟨Nat.lt_of_lt_of_le h.lt hb.size, (hb.cell (p := ⟨cb, 0, none⟩) h.lt).trans h.cell, (hb.frozen (p := ⟨cb, 0, none⟩) h.lt).trans h.thaw⟩

theorem Ctr.alloc {cb n : Nat} {w : World} (h : Ctr cb n w) (o : Obj) : Ctr cb n (w.alloc o) :=
  h.below ((Below.refl _ _).alloc (Nat.le_refl _) _)

theorem Ctr.set {cb n : Nat} {w : World} (h : Ctr cb n w) (m : Nat) : Ctr cb m (w.setCell ⟨cb, 0, none⟩ (.int .i64 (m : Int))) := by
  refine ⟨by simp [World.setCell]; exact h.lt, ?_, ?_⟩
  · exact World.cell?_setCell_same _ _ _ h.cell
  · rw [World.frozen?_setCell]; exact h.thaw

set_option maxRecDepth 100000 in
set_option maxHeartbeats 800000 in
theorem datum_deep (d : Dat) (a : Option Addr) (cap cb n : Nat) (w : World) (hn : n ≤ 2000) (hc : Ctr cb n w) :
    Calls Tryd.prog 76 #[.pointer (some ⟨cb, 0, none⟩), dv d a cap, .int .i64 41] w (Told cb (4, n + 1) w) := by
  have c1 := hc.cell
  have f1 := hc.thaw
  have l1 := hc.lt
  have HC : Hid (Ctr cb n w) := hc
  clear hc
  obtain ⟨k, n', nm, st, lb, ks⟩ := d
  unfold dv
  by_cases h : (2000 : Int) < n + 1
  · go_enter Tryd.func76, Tryd.ntmps76
    go_wp2_with fail
    go_ret
    exact ⟨rfl, ((Keep.refl _ _).setCell _ rfl _).alloc _, (HC.out.set (n + 1)).alloc _⟩
  · go_enter Tryd.func76, Tryd.ntmps76
    go_wp2_with fail
    go_ret
    exact ⟨rfl, ((Keep.refl _ _).setCell _ rfl _).alloc _, (HC.out.set (n + 1)).alloc _⟩

set_option maxRecDepth 100000 in
set_option maxHeartbeats 800000 in
theorem datum_much (d : Dat) (a : Option Addr) (cap cb n : Nat) (dp : Int) (w : World) (hn : n = 2000) (hc : Ctr cb n w) :
    Calls Tryd.prog 76 #[.pointer (some ⟨cb, 0, none⟩), dv d a cap, .int .i64 dp] w (Told cb (4, n + 1) w) := by
  have c1 := hc.cell
  have f1 := hc.thaw
  have l1 := hc.lt
  have HC : Hid (Ctr cb n w) := hc
  clear hc
  subst hn
  obtain ⟨k, n', nm, st, lb, ks⟩ := d
  unfold dv
  go_enter Tryd.func76, Tryd.ntmps76
  go_wp2_with fail
  go_ret
  exact ⟨rfl, ((Keep.refl _ _).setCell _ rfl _).alloc _, (HC.out.set (2000 + 1)).alloc _⟩

end Go.Proofs.YthooljlikllnpaaDoor
