/- Chapter 9: WHAT IS WRONG WITH A UNIT: package object's Wrong tells wrongU. -/
import Derived.Test.YtfmanhkeclogfaaGreatDoorK32
namespace Go.Proofs.YtfmanhkeclogfaaGreatDoor
set_option linter.unusedVariables false
set_option linter.unusedSimpArgs false
open Go.RowKit

set_option maxRecDepth 100000 in
set_option maxHeartbeats 3200000 in
theorem WrongU_any (nm : ByteArray) (PP : List Pro) (pa : Option Addr) (pc : Nat) (w : World) (hnm : nm.size ≤ maxLen) (hl : PL w.heap.size w pa PP) (hpc : PP.length ≤ pc) (hmax : PP.length ≤ 9223372036854775807) (htab : TabS w) :
    Calls Tryz.prog 7 #[.agg #[.string nm, .slice pa PP.length pc]] w fun r w' => r = .returned (.int .i64 (wrongU nm PP)) ∧ Below w.heap.size w w' := by
  have P := hidd (fun w => plain_any nm hnm w)
  have ba : Below w.heap.size w (w.alloc (.cells #[.string nm, .slice pa PP.length pc] 24)) := (Below.refl _ _).alloc (Nat.le_refl _) _
  have bb : Below w.heap.size w ((w.alloc (.cells #[.string nm, .slice pa PP.length pc] 24)).alloc (.cells #[.int .i64 0] 3)) := ba.alloc (by simp) _
  have WP : Hid (PP.length ≤ 500 → Calls Tryz.prog 22 #[.slice pa PP.length pc, .slice (some ⟨w.heap.size + 1, 0, none⟩) 1 1, .func (.func 23) #[] #[]] ((w.alloc (.cells #[.string nm, .slice pa PP.length pc] 24)).alloc (.cells #[.int .i64 0] 3)) fun r w' => r = .returned (.int .i64 (wrongPs PP [0] nameW)) ∧ Below ((w.alloc (.cells #[.string nm, .slice pa PP.length pc] 24)).alloc (.cells #[.int .i64 0] 3)).heap.size ((w.alloc (.cells #[.string nm, .slice pa PP.length pc] 24)).alloc (.cells #[.int .i64 0] 3)) w') := fun h5 => by
    refine wrongProtos_any glOk_name ⟨_, _, _, rfl⟩ PP [0] pa (some ⟨w.heap.size + 1, 0, none⟩) pc 1 _ ?_ hpc (by omega) (Or.inr ⟨_, _, rfl, by simp, ?_⟩) (by simp) (by simp) (htab.below bb)
    · exact (hl.below bb).mono (by simp; omega)
    · intro i v hv
      cases i with
      | succ i => simp at hv
      | zero =>
        simp at hv
        subst hv
        simp
  have HB := hidd bb
  have HA := hidd ba
  clear ba bb hl htab
  obtain ⟨rs, hrs⟩ : ∃ r, r = wrongU nm PP := ⟨_, rfl⟩
  rw [← hrs]
  unfold wrongU at hrs
  have HRS := hidd hrs
  clear hrs hnm
  generalize plainB nm = p at P HRS
  cases p
  · have hre := HRS.out
    rw [if_pos rfl] at hre
    subst hre
    go_enter Tryz.func7, Tryz.ntmps7
    go_wp2_with fail
    refine (P.out _).mono ?_
    rintro e w1 ⟨rfl, rfl⟩
    go_wp2_with fail
    go_ret
    exact ⟨rfl, HA.out⟩
  have hre := HRS.out
  rw [if_neg (by simp)] at hre
  have HRS2 := hidd hre
  clear hre HRS
  by_cases h1 : PP.length < 1
  · have hre := HRS2.out
    rw [if_pos (Or.inl h1)] at hre
    subst hre
    have h0 : PP.length = 0 := by omega
    clear HRS2 WP HB
    rw [h0] at HA ⊢
    clear h0 h1 hpc hmax
    go_enter Tryz.func7, Tryz.ntmps7
    go_wp2_with fail
    refine (P.out _).mono ?_
    rintro e w1 ⟨rfl, rfl⟩
    go_wp2_with fail
    go_ret
    exact ⟨rfl, HA.out⟩
  by_cases h5 : 500 < PP.length
  · have hre := HRS2.out
    rw [if_pos (Or.inr h5)] at hre
    subst hre
    clear HRS2 WP
    go_enter Tryz.func7, Tryz.ntmps7
    go_wp2_with fail
    refine (P.out _).mono ?_
    rintro e w1 ⟨rfl, rfl⟩
    go_wp2_with fail
    go_ret
    exact ⟨rfl, HA.out⟩
  have hre := HRS2.out
  rw [if_neg (by omega)] at hre
  subst hre
  have WQ := hidd (WP.out (by omega))
  clear HRS2 WP
  go_enter Tryz.func7, Tryz.ntmps7
  go_wp2_with fail
  refine (P.out _).mono ?_
  rintro e w1 ⟨rfl, rfl⟩
  go_wp2_with fail
  refine WQ.out.mono ?_
  rintro e w2 ⟨rfl, hb2⟩
  have HB2 := hidd (HB.out.trans (hb2.mono (by simp; omega)))
  clear hb2
  go_wp2_with fail
  go_ret
  exact ⟨rfl, HB2.out⟩
end Go.Proofs.YtfmanhkeclogfaaGreatDoor
