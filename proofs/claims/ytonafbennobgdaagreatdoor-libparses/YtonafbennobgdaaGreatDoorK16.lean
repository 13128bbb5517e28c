/- Regions that draw: short words. -/
import Derived.Test.YtonafbennobgdaaGreatDoorK01
import Derived.OrdersHeld
import Derived.Deep.RegionHeld
import Derived.RangeFuncRecord
namespace Go.Proofs.YtonafbennobgdaaGreatDoor
set_option linter.unusedVariables false
set_option linter.unusedSimpArgs false
open Go.RowKit
theorem upH {w w' : World} {N : Nat} {o : Obj} (h : w.heap[N]? = some o) (hb : Below w.heap.size w w') : w'.heap[N]? = some o := (hb.block N (Array.getElem?_eq_some_iff.1 h).1).trans h
theorem ltH {w : World} {N : Nat} {o : Obj} (h : w.heap[N]? = some o) : N < w.heap.size := (Array.getElem?_eq_some_iff.1 h).1
theorem allocK {K : Act → World → Prop} {a : Act} {w : World} {o : Obj} (n : Nat) (hn : w.heap.size = n) (h : ∀ W, Below w.heap.size w W → W.heap[n]? = some o → K a W) : K a (w.alloc o) :=
 h _ ((Below.refl _ _).alloc (Nat.le_refl _) _) (by subst hn; exact World.alloc_heap_new w o)
theorem allocKd {K : Act → World → Prop} {a : Act} {w : World} {o : Obj} (n : Nat) (hn : w.heap.size = n) (h : ∀ W, Below w.heap.size w W → W.heap[n]? = some o → K a W) : K a (w.alloc o).drew :=
 h _ ((Below.refl _ _).alloc (Nat.le_refl _) _).drew (by subst hn; exact World.alloc_heap_new w o)
theorem allocKe {K : Act → World → Prop} {a : Act} {w : World} {o : Obj} (n : Nat) (hn : w.heap.size = n) (h : ∀ W, Below w.drew.heap.size w.drew W → W.heap[n]? = some o → K a W) : K a (w.alloc o).drew :=
 h (w.drew.alloc o) ((Below.refl _ _).alloc (Nat.le_refl _) _) (by subst hn; exact World.alloc_heap_new w.drew o)
theorem tk {P : Program} {md : Region.Mode} {ops : Array Oper} {Q : Exit → Act → World → Prop} {S : World → Prop} (i : Nat) {oi : Oper} (v : Value) {fuel : Nat} {listed : Array Bool} {a : Act} {w : World} (hi : ops[i]? = some oi)
 (hy : YieldsIf P ops S oi v a) (hS : S w)
 (h : wpAnyH P md ops Q S fuel (listed.setIfInBounds i true) (a.put oi.dst v) w) (hQ : ∀ c a w, Q (.panic c) (a.put oi.dst v) w → Q (.panic c) a w := by exact fun _ _ _ h => h)
 (hs : Region.noSelect ops = true := by kernel_rfl) (hf : Region.free md ops listed i = true := by kernel_rfl) (hr : (Region.ready md ops listed).contains i = true := by kernel_rfl) : wpAnyH P md ops Q S (fuel + 1) listed a w :=
 wpAnyH_take hi hs hf hr hQ hy hS h
theorem tko {P : Program} {md : Region.Mode} {ops : Array Oper} {Q : Exit → Act → World → Prop} {S : World → Prop} (i : Nat) (oi : Oper) (v : Value) {fuel : Nat} {listed : Array Bool} {a : Act} {w : World} (hi : ops[i]? = some oi)
 (hy : YieldsIf P ops S oi v a) (hS : S w)
 (h : wpAnyH P md ops Q S fuel (listed.setIfInBounds i true) (a.put oi.dst v) w) (hQ : ∀ c a w, Q (.panic c) (a.put oi.dst v) w → Q (.panic c) a w := by exact fun _ _ _ h => h)
 (hs : Region.noSelect ops = true := by kernel_rfl) (hf : Region.free md ops listed i = true := by kernel_rfl) (hr : (Region.ready md ops listed).contains i = true := by kernel_rfl) : wpAnyH P md ops Q S (fuel + 1) listed a w :=
 wpAnyH_take hi hs hf hr hQ hy hS h
theorem rdy {P : Program} {md : Region.Mode} {ops : Array Oper} {Q : Exit → Act → World → Prop} {S : World → Prop} (rs : List Nat) {fuel : Nat} {listed : Array Bool} {a : Act} {w : World} (h : AllReadyH P md ops Q S fuel listed a w rs) (hr : Region.ready md ops listed = rs := by kernel_rfl) (hne : rs ≠ [] := by simp) : wpAnyH P md ops Q S (fuel + 1) listed a w := wpAnyH_ready hr hne h
theorem aP : (∀ (l : List Value) (i : Nat) (v : Value), l.toArray.setIfInBounds i v = (l.set i v).toArray) ∧ (∀ (x v : Value) (l : List Value), (x :: l).set 0 v = v :: l) ∧ (∀ (x v : Value) (l : List Value) (n : Nat), (x :: l).set (n + 1) v = x :: l.set n v) :=
 ⟨fun l i v => List.setIfInBounds_toArray l i v, fun _ _ _ => rfl, fun _ _ _ _ => rfl⟩
end Go.Proofs.YtonafbennobgdaaGreatDoor
