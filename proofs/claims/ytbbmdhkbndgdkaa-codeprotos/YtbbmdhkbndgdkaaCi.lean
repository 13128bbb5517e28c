/- Whether there will be too much code. -/
import Derived.Test.YtbbmdhkbndgdkaaCh
namespace Go.Proofs.Ytbbmdhkbndgdkaa
set_option linter.unusedVariables false
set_option linter.unusedSimpArgs false
open Go.RowKit

def mchB (l : List Cor) : Bool := decide (500 < lamL l + 1) || decide (6000 < max (lonL l) (sizL l + l.length + 1))
theorem Scl.new (w : World) : Scl w.heap.size 0 0 (w.alloc (.cells #[.int .i64 0, .int .i64 0] 66)) := by
  have h := World.alloc_heap_new w (.cells #[.int .i64 0, .int .i64 0] 66)
  refine ⟨by simp, (World.cell?_alloc_mark w _ 66 (0, 0) 0).trans rfl, (World.cell?_alloc_mark w _ 66 (0, 0) 1).trans rfl, ?_, ?_⟩
  · unfold World.frozen?
    simp only
    rw [h]
    rfl
  · unfold World.frozen?
    simp only
    rw [h]
    rfl

set_option maxRecDepth 100000 in
set_option maxHeartbeats 1600000 in
theorem much_any (B g : Nat) (l : List Cor) (a : Option Addr) (cap : Nat) (w : World) (hc : Cc B w g a l) (hB : B ≤ w.heap.size) (hcap : l.length ≤ cap) (hok : okL l) (hs : sizL l ≤ 100000000) (hp : lamL l ≤ 100000000) (hl : lonL l ≤ 100000000) (hn : l.length ≤ 200) :
    Calls Try.prog 16 #[.slice a l.length cap] w fun e w' => e = .returned (.bool (mchB l)) ∧ Below w.heap.size w w' := by
  have HC := hidd (sall_any B w.heap.size hB g l a cap 0 0 _ (hc.below ((Below.refl _ _).alloc hB (.cells #[.int .i64 0, .int .i64 0] 66))) hcap hok (by omega) (by omega) (by omega) (by omega) (Scl.new w))
  have HE : Hid (mchB l = (decide (500 < 0 + lamL l + 1) || decide (6000 < max (max 0 (lonL l)) (sizL l + l.length + 1)))) := by
    show mchB l = _
    unfold mchB
    rw [Nat.zero_add, Nat.zero_max]
  have hq : max 0 (lonL l) ≤ 100000000 := by omega
  have hp' : 0 + lamL l ≤ 100000000 := by omega
  generalize max 0 (lonL l) = q at HC HE hq
  generalize 0 + lamL l = p at HC HE hp'
  generalize sizL l = s at HC HE hs
  clear hc hok hp hl
  generalize mchB l = y at HE ⊢
  go_enter Try.func16, Try.ntmps16
  go_wp2_with fail
  refine HC.out.mono ?_
  rintro e w1 ⟨rfl, hk1, hs1⟩
  have HB1 : Hid (Below w.heap.size w w1) := ((Below.refl _ _).alloc (Nat.le_refl _) _).trans (hk1.toBelow (Nat.le_refl _) (by simp))
  have HS1 := hidd hs1
  clear hk1 hs1 HC
  go_wp2_with fail
  rw [show (s : Int) + l.length = ((s + l.length : Nat) : Int) by omega]
  refine (sproto_any w.heap.size p q (s + l.length) w1 HS1.out (by omega) (by omega) (by omega)).mono ?_
  rintro e w2 ⟨rfl, hk2, hs2⟩
  have HB2 : Hid (Below w.heap.size w w2) := HB1.out.trans (hk2.toBelow (Nat.le_refl _) HB1.out.size)
  obtain ⟨lt, c0, c1, z0, z1⟩ := hs2
  clear hk2 HB1 HS1
  by_cases h5 : 500 < p + 1
  · have h5' : (500 : Int) < ((p + 1 : Nat) : Int) := by omega
    have e5 : y = true := by rw [HE.out]; simp [h5]
    subst e5
    clear HE h5
    go_wp2_with fail
    go_ret
    exact ⟨rfl, HB2.out⟩
  · have h5' : ¬ (500 : Int) < ((p + 1 : Nat) : Int) := by omega
    by_cases h6 : 6000 < max q (s + l.length + 1)
    · have h6' : (6000 : Int) < ((max q (s + l.length + 1) : Nat) : Int) := by omega
      have e5 : y = true := by rw [HE.out]; simp only [h6, decide_true, Bool.or_true]
      subst e5
      clear HE h5 h6
      generalize max q (s + l.length + 1) = M at c1 h6'
      go_wp2_with fail
      go_ret
      exact ⟨rfl, HB2.out⟩
    · have h6' : ¬ (6000 : Int) < ((max q (s + l.length + 1) : Nat) : Int) := by omega
      have e5 : y = false := by rw [HE.out]; simp only [h5, h6, decide_false, Bool.or_false]
      subst e5
      clear HE h5 h6
      generalize max q (s + l.length + 1) = M at c1 h6'
      go_wp2_with fail
      go_ret
      exact ⟨by simp [h6']; omega, HB2.out⟩
end Go.Proofs.Ytbbmdhkbndgdkaa
