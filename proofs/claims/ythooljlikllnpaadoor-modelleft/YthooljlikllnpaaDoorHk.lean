/- Chapter 7: package value: out, where nothing was put out so far. -/
import Derived.Test.YthooljlikllnpaaDoorHj
namespace Go.Proofs.YthooljlikllnpaaDoor
set_option linter.unusedVariables false
set_option linter.unusedSimpArgs false
open Go.RowKit

def outB : ByteArray := ⟨#[111, 117, 116]⟩
/-- The runner with one text put out. -/
def RN1 (rb : Nat) (s : List UInt8) (left calls : Int) (gm : Value) (w : World) : Prop := ∃ G cap, RN rb (.slice (some ⟨G, 0, none⟩) 1 cap) left calls gm w ∧ w.cell? ⟨G, 0, none⟩ = some (.string ⟨s.toArray⟩)
set_option maxRecDepth 100000 in
set_option maxHeartbeats 3200000 in
theorem prim_out (rb ab ao : Nat) (t : TypeId) (x : Value) (s : List UInt8) (left calls : Int) (gm : Value) (w : World) (k0 : w.cell? ⟨ab, ao, none⟩ = some (.iface t x)) (hab : ab < w.heap.size) (hne : ab ≠ rb)
    (PUT : Calls Tryd.prog 72 #[.pointer (some ⟨rb, 0, none⟩), .iface t x] w fun e w' => e = .returned (.tuple #[]) ∧ Keep rb w w' ∧ RN1 rb s left calls gm w') :
    Calls Tryd.prog 59 #[.pointer (some ⟨rb, 0, none⟩), .string outB, .slice (some ⟨ab, ao, none⟩) 1 1] w fun e w' => e = .returned (.iface t x) ∧ Keep rb w w' ∧ RN1 rb s left calls gm w' := by
  have HP := hidd PUT
  have AR : Hid (∀ w, Calls Tryd.prog 64 #[.string outB] w fun e w' => e = .returned (.int .i64 1) ∧ w' = w) := fun w => by
    have e : argsB outB = 1 := by decide +kernel
    have := argsOf_any outB w
    rw [e] at this
    exact this
  obtain ⟨o, ho⟩ : ∃ o, o = outB := ⟨_, rfl⟩
  have c1 : (o.toList == [111, 117, 116]) = true := by rw [ho]; decide +kernel
  rw [← ho] at AR ⊢
  clear ho PUT
  go_enter Tryd.func59, Tryd.ntmps59
  go_wp2_with fail
  refine (AR.out _).mono ?_
  rintro e w1 ⟨rfl, rfl⟩
  go_wp2_with fail
  refine (Must_yes _ _).mono ?_
  rintro e w1 ⟨rfl, rfl⟩
  go_wp2_with fail
  refine HP.out.mono ?_
  rintro e w2 ⟨rfl, hk2, hr2⟩
  have d0 : w2.cell? ⟨ab, ao, none⟩ = some (.iface t x) := (hk2.cell (p := ⟨ab, ao, none⟩) hab hne).trans k0
  go_wp2_with fail
  go_ret
  exact ⟨rfl, hk2, hr2⟩
end Go.Proofs.YthooljlikllnpaaDoor
