/- Data that are alike; the document's Same tells so. -/
import Derived.Test.YtonafbennobgdaaGreatDoorK06
import Derived.Deep.RegionWith
namespace Go.Proofs.YtonafbennobgdaaGreatDoor
set_option linter.unusedVariables false
set_option linter.unusedSimpArgs false
open Go.RowKit
set_option maxRecDepth 100000
set_option maxHeartbeats 1600000

def AlikeD (g : List Dat → List Dat → Prop) (d e : Dat) : Prop :=
 d.kind = e.kind ∧ ((d.kind = 1 ∨ d.kind = 2) → d.n = e.n) ∧ (d.kind = 3 → d.name = e.name ∧ d.stamp = e.stamp ∧ d.lib = e.lib) ∧ (d.kind = 4 → g d.kids e.kids)

def Alike : Nat → List Dat → List Dat → Prop
 | 0, xs, ys => xs = [] ∧ ys = []
 | f + 1, xs, ys => xs.length = ys.length ∧ ∀ (i : Nat) (d e : Dat), xs[i]? = some d → ys[i]? = some e → AlikeD (Alike f) d e

abbrev Yes (w : World) (e : Ending) (w' : World) : Prop := e = .returned (.bool true) ∧ Below w.heap.size w w'

theorem Equal_num (k n n2 st st2 lb lb2 : Int) (nm nm2 : ByteArray) (ks ks2 : List Dat) (a a2 : Option Addr) (cap cap2 : Nat) (w : World) (hk : k = 1 ∨ k = 2) (hn : n = n2) :
  Calls Tryz.prog 13 #[dv ⟨k, n, nm, st, lb, ks⟩ a cap, dv ⟨k, n2, nm2, st2, lb2, ks2⟩ a2 cap2] w (Yes w) := by
 unfold dv
 simp only
 subst hn
 rcases hk with rfl | rfl
 ·go_enter Tryz.func13, Tryz.ntmps13
  go_wp2_with fail
  go_ret
  exact ⟨by simp, ((Below.refl _ _).alloc (Nat.le_refl _) _).alloc (by simp) _⟩
 ·go_enter Tryz.func13, Tryz.ntmps13
  go_wp2_with fail
  go_ret
  exact ⟨by simp, ((Below.refl _ _).alloc (Nat.le_refl _) _).alloc (by simp) _⟩

theorem Equal_sym (k n n2 st lb : Int) (nm : ByteArray) (ks ks2 : List Dat) (a a2 : Option Addr) (cap cap2 : Nat) (w : World) (hk : k = 3) :
  Calls Tryz.prog 13 #[dv ⟨k, n, nm, st, lb, ks⟩ a cap, dv ⟨k, n2, nm, st, lb, ks2⟩ a2 cap2] w (Yes w) := by
 unfold dv
 simp only
 subst hk
 go_enter Tryz.func13, Tryz.ntmps13
 go_wp2_with fail
 go_ret
 exact ⟨by simp, ((Below.refl _ _).alloc (Nat.le_refl _) _).alloc (by simp) _⟩

theorem Equal_else (k n n2 st st2 lb lb2 : Int) (nm nm2 : ByteArray) (ks ks2 : List Dat) (a a2 : Option Addr) (cap cap2 : Nat) (w : World) (k1 : k ≠ 1) (k2 : k ≠ 2) (k3 : k ≠ 3) (k4 : k ≠ 4) :
  Calls Tryz.prog 13 #[dv ⟨k, n, nm, st, lb, ks⟩ a cap, dv ⟨k, n2, nm2, st2, lb2, ks2⟩ a2 cap2] w (Yes w) := by
 unfold dv
 simp only
 have k1' : (k == 1) = false := by simpa using k1
 have k2' : (k == 2) = false := by simpa using k2
 have k3' : (k == 3) = false := by simpa using k3
 have k4' : (k == 4) = false := by simpa using k4
 clear k1 k2 k3 k4
 go_enter Tryz.func13, Tryz.ntmps13
 go_wp2_with fail
 go_ret
 exact ⟨rfl, ((Below.refl _ _).alloc (Nat.le_refl _) _).alloc (by simp) _⟩

theorem Same_none (a b : Option Addr) (cap cb : Nat) (w : World) : Calls Tryz.prog 39 #[.slice a 0 cap, .slice b 0 cb] w (Yes w) := by
 go_enter Tryz.func39, Tryz.ntmps39
 go_wp2_with fail
 go_loopw [13] (fun i wr => i = .int .i64 0 ∧ wr = w) (fun i _ => 0)
 case atStart => exact ⟨rfl, rfl⟩
 case round =>
  obtain ⟨rfl, rfl⟩ := hrel
  go_wp2_with fail
  go_ret
  exact ⟨rfl, Below.refl _ _⟩

end Go.Proofs.YtonafbennobgdaaGreatDoor
