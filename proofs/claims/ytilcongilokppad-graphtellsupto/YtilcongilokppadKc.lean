/- slices.Backward at numbers: what it hands to a loop's body. -/
import Derived.RangeFuncNested
import Derived.RangeFuncBound
import Derived.RangeFuncCalls
import Derived.RangeFuncLeaves
import Derived.Shelf.Abstract
import Derived.Shelf.RegionOpen
import Derived.WalkKit
import Derived.OwnWalkIn
import Derived.TacticsInMore
import Derived.LoopNIn
import Derived.LoopIn
import Derived.Test.YtilcongilokppadKb
namespace Go.Proofs.Ytilcongilokppad
set_option linter.unusedVariables false
set_option linter.unusedSimpArgs false
open Go.RowKit Go.Shelf
attribute [local go_sem] Oper.semAt_some

/-- A place, and what stands there: both below n. -/
abbrev Two2 (n : Nat) := { p : Nat × Nat // p.1 < n ∧ p.2 < n }
def encT {n : Nat} (x : Two2 n) : Array Value := #[.int .i64 (x.1.1 : Int), .int .i64 (x.1.2 : Int)]
def vals {n : Nat} (l : List (Two2 n)) : List Nat := l.map fun x => x.1.2

/-- What a round must keep: two blocks. -/
def Kp2 (bx g : Nat) (W W' : World) : Prop := W'.heap[bx]? = W.heap[bx]? ∧ W'.heap[g]? = W.heap[g]?

set_option maxRecDepth 100000 in
set_option maxHeartbeats 2000000 in
theorem back1_in (n m : Nat) (hm : 1 ≤ m) (l bx g len cap : Nat) (zs : List Nat) (hlen : zs.length = len) (hln : len ≤ n) (hn : n ≤ 1048576) (hz : ∀ z ∈ zs, z < n) (J Jx : List (Two2 n) → World → Prop)
    (hY : ∀ pre x W, J pre W → pre.length < len → YieldAt Fence.wide (m - 1) Try.prog l (encT x) W fun e W' => (e = .returned (.bool true) ∧ J (pre ++ [x]) W' ∧ Kp2 bx g W W') ∨ (e = .returned (.bool false) ∧ Jx (pre ++ [x]) W'))
    (W : World) (hbx : W.heap[bx]? = some (.cells #[.slice (some ⟨g, 0, none⟩) len cap] 43 (0, 0))) (hc : ∀ (j z : Nat), zs[j]? = some z → W.cell? ⟨g, j, none⟩ = some (.int .i64 (z : Int))) (h0 : J [] W) :
    CallsIn Fence.wide m Try.prog 38 #[.func (.yield l) #[] #[], .pointer (some ⟨bx, 0, none⟩)] W fun e W' => (∃ v, e = .returned v) ∧
      ((∃ ys, vals ys = zs.reverse ∧ J ys W') ∨ (∃ pre, True ∧ Jx pre W')) := by
  refine callsIn_of_wp Try.func38 rfl trivial ?_ rfl
  simp only [Try.ntmps38, List.size_toArray, List.length_cons, List.length_nil, Nat.reduceAdd, Nat.reduceSub, Array.replicate_succ, Array.replicate_zero, List.push_toArray, List.append_toArray, List.nil_append, List.cons_append]
  have hcb : W.cell? ⟨bx, 0, none⟩ = some (.slice (some ⟨g, 0, none⟩) len cap) := by simp [World.cell?, hbx]
  gi_wp2
  have HC : Hid ((∀ (j z : Nat), zs[j]? = some z → W.cell? ⟨g, j, none⟩ = some (.int .i64 (z : Int))) ∧ zs.length = len ∧ ∀ z ∈ zs, z < n) := ⟨hc, hlen, hz⟩
  clear hc hlen hz
  gi_loopw [3] (fun i wr => ∃ (k : Nat) (pre : List (Two2 n)), k ≤ len ∧ i = .int .i64 ((k : Int) - 1) ∧ J pre wr ∧ Hid (vals pre = (zs.drop k).reverse ∧ Kp2 bx g W wr)) (fun i _ => ((intOf i) + 1).toNat)
  case atStart => exact ⟨len, [], Nat.le_refl _, rfl, h0, by rw [← HC.out.2.1]; simp [vals], rfl, rfl⟩
  case round =>
    obtain ⟨k, pre, hk, rfl, hJs, HP⟩ := hrel
    have hcb' : wr.cell? ⟨bx, 0, none⟩ = some (.slice (some ⟨g, 0, none⟩) len cap) := (World.cell?_of_block (a := ⟨bx, 0, none⟩) HP.out.2.1).trans hcb
    cases k with
    | zero =>
      gi_wp2
      go_end0
      refine ⟨⟨_, rfl⟩, .inl ⟨pre, ?_, hJs⟩⟩
      have := HP.out.1
      simpa using this
    | succ k =>
      obtain ⟨z, hz⟩ : ∃ z, zs[k]? = some z := ⟨zs[k]'(by have := HC.out.2.1; omega), List.getElem?_eq_getElem _⟩
      have hzn := HC.out.2.2 z (List.mem_of_getElem? hz)
      have hcz : wr.cell? ⟨g, k, none⟩ = some (.int .i64 (z : Int)) := (World.cell?_of_block (a := ⟨g, k, none⟩) HP.out.2.2).trans (HC.out.1 k z hz)
      have hpl : pre.length < len := by
        have h1 : (vals pre).length = ((zs.drop (k + 1)).reverse).length := by rw [HP.out.1]
        have h2 := HC.out.2.1
        simp [vals] at h1
        omega
      obtain ⟨fn, tmps, assign, body, hy, hR⟩ := hY pre ⟨(k, z), by omega, hzn⟩ wr hJs hpl
      have HN : Hid (vals (pre ++ [⟨(k, z), by omega, hzn⟩]) = (zs.drop k).reverse) := by
        show vals _ = _
        have h1 : zs.drop k = z :: zs.drop (k + 1) := by
          obtain ⟨hl, he⟩ := List.getElem?_eq_some_iff.1 hz
          rw [List.drop_eq_getElem_cons hl, he]
        rw [h1]
        have := HP.out.1
        simp [vals] at this ⊢
        exact this
      simp only [encT] at hy
      clear hpl hz
      gi_wp2
      refine hR.mono ?_
      rintro e W3 (⟨rfl, hJ3, hk3⟩ | ⟨rfl, hJx3⟩)
      · gi_wp2
        go_roundw
        case rel => exact ⟨k, _, by omega, by go_num, hJ3, HN.out, hk3.1.trans HP.out.2.1, hk3.2.trans HP.out.2.2⟩
        case measure => simp [intOf]
      · gi_wp2
        refine bodyPost_ret (results_none rfl _ _ _) rfl ?_
        exact ⟨⟨_, rfl⟩, .inr ⟨_, trivial, hJx3⟩⟩

theorem back_stops (n m : Nat) (hm : 1 ≤ m) (bx g len cap : Nat) (zs : List Nat) (hlen : zs.length = len) (hln : len ≤ n) (hn : n ≤ 1048576) (hz : ∀ z ∈ zs, z < n) (w : World) (hbx : w.heap[bx]? = some (.cells #[.slice (some ⟨g, 0, none⟩) len cap] 43 (0, 0)))
    (hg : g < w.heap.size) (hc : ∀ (j z : Nat), zs[j]? = some z → w.cell? ⟨g, j, none⟩ = some (.int .i64 (z : Int))) :
    SeqStopsK Fence.wide m Try.prog 38 #[.pointer (some ⟨bx, 0, none⟩)] (fun x : Two2 n => encT x) (Kp2 bx g) (fun ys => vals ys = zs.reverse) (fun _ => True) len w := fun l J Jx W hW _ _ hY h0 => by
  have hbl := (Array.getElem?_eq_some_iff.1 hbx).1
  exact back1_in n m hm l bx g len cap zs hlen hln hn hz J Jx hY W ((hW.block bx hbl).trans hbx) (fun j z hj => (World.cell?_of_block (a := ⟨g, j, none⟩) (hW.block g hg)).trans (hc j z hj)) h0

end Go.Proofs.Ytilcongilokppad
