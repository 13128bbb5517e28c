/- A reader's skip. -/
import Derived.Test.YtagpcafbeplccaaDoorLa
namespace Go.Proofs.YtagpcafbeplccaaDoor
set_option linter.unusedVariables false
set_option linter.unusedSimpArgs false
open Go.RowKit

set_option maxRecDepth 100000 in
set_option maxHeartbeats 1600000 in
theorem skip_any (rb : Nat) (s : ByteArray) (i n : Nat) (w : World) (h : Rdr rb s i n w) (hi : i ≤ s.size) (hs : s.size ≤ 6000) :
    Calls Tryd.prog 36 #[.pointer (some ⟨rb, 0, none⟩)] w fun e w' => e = .returned (.tuple #[]) ∧ Keep rb w w' ∧ Rdr rb s (i + skipL (s.data.toList.drop i) false) n w' := by
  have hlen : s.data.toList.length = s.size := Array.length_toList
  have HLEN : Hid (s.data.toList.length = s.size) := hlen
  clear hlen
  have HR : Hid (Rdr rb s i n w) := h
  clear h
  obtain ⟨t, HT⟩ : ∃ t, Hid (i + skipL (s.data.toList.drop i) false = t) := ⟨_, rfl⟩
  rw [HT.out]
  go_enter Tryd.func36, Tryd.ntmps36
  go_wp2_with fail
  go_loopg [] (s.size - i) (fun g wr => ∃ j : Nat, j ≤ s.size ∧ g = s.size - j ∧ Keep rb w wr ∧ Rdr rb s j n wr ∧ j + skipL (s.data.toList.drop j) false = t)
  case atStart => exact ⟨i, hi, rfl, Keep.refl _ _, HR.out, HT.out⟩
  case round =>
    obtain ⟨j, hj, rfl, hk, hr, he⟩ := hrel
    have HK : Hid (Keep rb w wr ∧ Rdr rb s j n wr) := ⟨hk, hr⟩
    have HE : Hid (j + skipL (s.data.toList.drop j) false = t) := he
    have hx := hr.lt
    have en := ended_any rb s j n wr hr
    clear hk hr he HR HT
    by_cases hlt : j < s.size
    · rw [show ((j : Int) == (s.size : Int)) = false from by simp; omega] at en
      have EN : Hid (Calls Tryd.prog 37 #[.pointer (some ⟨rb, 0, none⟩)] wr fun e w' => e = .returned (.bool false) ∧ Below wr.heap.size wr w') := en
      clear en
      have HAT : Hid (s.data.toList[j]? = some s[j]) := at_of hlt
      have HBL : Hid _ := blank_of s[j]
      have HSB : Hid (isBlank s[j] = true → (j + 1) + skipL (s.data.toList.drop (j + 1)) false = t) := fun hb => (skip_blank HAT.out hb).symm.trans HE.out
      go_wp2_with fail
      refine EN.out.mono ?_
      rintro e w2 ⟨rfl, hb2⟩
      have hr2 := HK.out.2.below hb2
      have c0 := hr2.c0
      have c1 := hr2.c1
      have z1 := hr2.z1
      have HR2 : Hid (Keep rb w w2 ∧ Rdr rb s j n w2) := ⟨HK.out.1.below hb2, hr2⟩
      clear hb2 hr2 EN HK
      go_wp2_with fail
      go_quiet (fail)
      by_cases b1 : ((s[j].toNat : Int) == 32) = true
      · go_wp2_with fail
        go_roundg (s.size - (j + 1))
        case measure => omega
        case rel =>
          refine ⟨j + 1, by omega, rfl, ?_, ?_, HSB.out (by rw [HBL.out, b1]; rfl)⟩
          · exact ((HR2.out.1.drewN _)).setCell _ rfl _
          · exact (HR2.out.2.drewN _).move' _ _ (by omega)
      · have n1 : ((s[j].toNat : Int) == 32) = false := by simpa using b1
        clear b1
        by_cases b2 : ((s[j].toNat : Int) == 9) = true
        · go_wp2_with fail
          go_roundg (s.size - (j + 1))
          case measure => omega
          case rel =>
            refine ⟨j + 1, by omega, rfl, ?_, ?_, HSB.out (by rw [HBL.out, n1, b2]; rfl)⟩
            · exact ((HR2.out.1.drewN _)).setCell _ rfl _
            · exact (HR2.out.2.drewN _).move' _ _ (by omega)
        · have n2 : ((s[j].toNat : Int) == 9) = false := by simpa using b2
          clear b2
          by_cases b3 : ((s[j].toNat : Int) == 10) = true
          · go_wp2_with fail
            go_roundg (s.size - (j + 1))
            case measure => omega
            case rel =>
              refine ⟨j + 1, by omega, rfl, ?_, ?_, HSB.out (by rw [HBL.out, n1, n2, b3]; rfl)⟩
              · exact ((HR2.out.1.drewN _)).setCell _ rfl _
              · exact (HR2.out.2.drewN _).move' _ _ (by omega)
          · have n3 : ((s[j].toNat : Int) == 10) = false := by simpa using b3
            clear b3
            have HB0 : Hid (isBlank s[j] = false) := by rw [HBL.out, n1, n2, n3]; rfl
            by_cases b4 : ((s[j].toNat : Int) == 59) = true
            · have HC : Hid (s[j] = 59) := UInt8.toNat_inj.1 (by have : (s[j].toNat : Int) = 59 := beq_iff_eq.1 b4; show s[j].toNat = 59; omega)
              have HS4 : Hid ((j + lineL (s.data.toList.drop j)) + skipL (s.data.toList.drop (j + lineL (s.data.toList.drop j))) false = t) := by
                have h1 := HAT.out
                rw [HC.out] at h1
                exact (skip_semi h1).symm.trans HE.out
              have HP : Hid (1 ≤ lineL (s.data.toList.drop j) ∧ j + lineL (s.data.toList.drop j) ≤ s.size) := by
                have h1 := HAT.out
                rw [HC.out] at h1
                have h2 := drop_cons h1
                have h3 := line_le (s.data.toList.drop j)
                rw [List.length_drop, HLEN.out] at h3
                refine ⟨?_, by omega⟩
                rw [h2]
                simp [lineL]
              go_wp2_with fail
              refine (skipComment_any rb s j n _ (HR2.out.2.drewN _) hlt hs).mono ?_
              rintro e w3 ⟨rfl, hk3, hr3⟩
              have H3 : Hid (Keep rb w w3 ∧ Rdr rb s (j + lineL (s.data.toList.drop j)) n w3) := ⟨(HR2.out.1.drewN _).trans hk3, hr3⟩
              clear hk3 hr3 c0 c1 z1
              go_wp2_with fail
              go_roundg (s.size - (j + lineL (s.data.toList.drop j)))
              case measure => have := HP.out; omega
              case rel => exact ⟨j + lineL (s.data.toList.drop j), HP.out.2, rfl, H3.out.1, H3.out.2, HS4.out⟩
            · have n4 : ((s[j].toNat : Int) == 59) = false := by simpa using b4
              clear b4
              have HSS : Hid (j = t) := by
                have h1 : s[j] ≠ 59 := by
                  intro e
                  rw [e] at n4
                  exact absurd n4 (by decide)
                have h2 := skip_stop HAT.out HB0.out h1
                have h3 := HE.out
                rw [h2] at h3
                exact h3
              go_wp2_with fail
              refine bodyPost_ret (results_none rfl _ _ _) rfl ?_
              refine ⟨rfl, HR2.out.1.drewN _, ?_⟩
              rw [← HSS.out]
              exact HR2.out.2.drewN _
    · obtain rfl : j = s.size := by omega
      rw [show ((s.size : Int) == (s.size : Int)) = true from by simp] at en
      have EN : Hid (Calls Tryd.prog 37 #[.pointer (some ⟨rb, 0, none⟩)] wr fun e w' => e = .returned (.bool true) ∧ Below wr.heap.size wr w') := en
      have HSS : Hid (s.size = t) := by
        have h3 := HE.out
        rw [skip_end (by rw [HLEN.out]; exact Nat.le_refl _)] at h3
        exact h3
      clear en HE
      go_wp2_with fail
      refine EN.out.mono ?_
      rintro e w2 ⟨rfl, hb2⟩
      have H2 : Hid (Keep rb w w2 ∧ Rdr rb s s.size n w2) := ⟨HK.out.1.below hb2, HK.out.2.below hb2⟩
      clear hb2 EN HK
      go_wp2_with fail
      go_end0
      refine ⟨rfl, H2.out.1, ?_⟩
      rw [← HSS.out]
      exact H2.out.2
end Go.Proofs.YtagpcafbeplccaaDoor
