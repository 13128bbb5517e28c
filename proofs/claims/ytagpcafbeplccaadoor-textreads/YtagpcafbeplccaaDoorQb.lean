/- The document's reader: skip, count. -/
import Derived.Test.YtagpcafbeplccaaDoorQa
namespace Go.Proofs.YtagpcafbeplccaaDoor
set_option linter.unusedVariables false
set_option linter.unusedSimpArgs false
open Go.RowKit

theorem skip_go {l : List UInt8} {j : Nat} {c : UInt8} {b : Bool} (h : l[j]? = some c) (hg : (noted c b || isBlank c) = true) : j + skipL (l.drop j) b = (j + 1) + skipL (l.drop (j + 1)) (noted c b) := by
  rw [drop_cons h]
  show j + (if noted c b || isBlank c then skipL (l.drop (j + 1)) (noted c b) + 1 else 0) = _
  rw [if_pos hg]
  omega

theorem skip_here {l : List UInt8} {j : Nat} {c : UInt8} {b : Bool} (h : l[j]? = some c) (hg : (noted c b || isBlank c) = false) : j + skipL (l.drop j) b = j := by
  rw [drop_cons h]
  show j + (if noted c b || isBlank c then skipL (l.drop (j + 1)) (noted c b) + 1 else 0) = _
  rw [if_neg (by rw [hg]; simp)]
  omega

theorem byte_is (c k : UInt8) : ((c.toNat : Int) == (k.toNat : Int)) = decide (c = k) := by
  by_cases e : c = k
  · subst e; simp
  · have : ¬ c.toNat = k.toNat := fun h => e (UInt8.toNat_inj.1 h)
    simp [e]
    omega

set_option maxRecDepth 100000 in
set_option maxHeartbeats 1600000 in
theorem rskip_any (rb : Nat) (s : ByteArray) (i n : Nat) (x : Int × Int) (w : World) (h : Wk rb s i n x w) (hi : i ≤ s.size) (hs : s.size ≤ 6000) :
    Calls Tryd.prog 21 #[.pointer (some ⟨rb, 0, none⟩)] w fun e w' => e = .returned (.tuple #[]) ∧ Keep rb w w' ∧ Wk rb s (i + skipL (s.data.toList.drop i) false) n x w' := by
  have HR : Hid (Wk rb s i n x w) := h
  clear h
  obtain ⟨t, HT⟩ : ∃ t, Hid (i + skipL (s.data.toList.drop i) false = t) := ⟨_, rfl⟩
  rw [HT.out]
  go_enter Tryd.func21, Tryd.ntmps21
  go_wp2_with fail
  go_loopg [2] (s.size - i) (fun g nb wr => ∃ (j : Nat) (b : Bool), nb = .bool b ∧ j ≤ s.size ∧ g = s.size - j ∧ Keep rb w wr ∧ Wk rb s j n x wr ∧ j + skipL (s.data.toList.drop j) b = t)
  case atStart => exact ⟨i, false, rfl, hi, rfl, Keep.refl _ _, HR.out, HT.out⟩
  case round =>
    obtain ⟨j, b, rfl, hj, rfl, hk, hr, he⟩ := hrel
    have HK : Hid (Keep rb w wr ∧ Wk rb s j n x wr) := ⟨hk, hr⟩
    have HE : Hid (j + skipL (s.data.toList.drop j) b = t) := he
    have hx := hr.lt
    have c0 := hr.c0
    have c1 := hr.c1
    have z1 := hr.z 1
    clear hk hr he HR HT
    by_cases hlt : j < s.size
    · have HAT : Hid (s.data.toList[j]? = some s[j]) := at_of hlt
      have HGO : Hid ((noted s[j] b || isBlank s[j]) = true → (j + 1) + skipL (s.data.toList.drop (j + 1)) (noted s[j] b) = t) := fun hb => (skip_go HAT.out hb).symm.trans HE.out
      have HST : Hid ((noted s[j] b || isBlank s[j]) = false → j = t) := fun hb => (skip_here HAT.out hb).symm.trans HE.out
      have HB : Hid (∀ k : UInt8, ((s[j].toNat : Int) == (k.toNat : Int)) = decide (s[j] = k)) := fun k => byte_is _ _
      by_cases h10 : s[j] = 10
      · have e10 : ((s[j].toNat : Int) == 10) = true := by rw [h10]; rfl
        have e59 : ((s[j].toNat : Int) == 59) = false := by rw [h10]; rfl
        have m10 : ((s[j].toNat : Int) != 10) = false := by rw [h10]; rfl
        have m32 : ((s[j].toNat : Int) != 32) = true := by rw [h10]; rfl
        have m9 : ((s[j].toNat : Int) != 9) = true := by rw [h10]; rfl
        have HN : Hid (noted s[j] b = false ∧ isBlank s[j] = true) := by rw [h10]; exact ⟨rfl, rfl⟩
        clear h10
        go_wp2_with fail
        go_quiet (fail)
        go_wp2_with fail
        go_quiet (fail)
        go_wp2_with fail
        go_roundg (s.size - (j + 1))
        case measure => omega
        case rel =>
          refine ⟨j + 1, false, rfl, by omega, rfl, ?_, ?_, by rw [← HN.out.1]; exact HGO.out (by rw [HN.out.2, Bool.or_true])⟩
          · exact (HK.out.1.drewN _).setCell _ rfl _
          · exact (HK.out.2.drewN _).move _ _ (by omega)
      · have e10 : ((s[j].toNat : Int) == 10) = false := by rw [show ((10 : Int)) = ((10 : UInt8).toNat : Int) from rfl, HB.out]; simpa using h10
        have m10 : ((s[j].toNat : Int) != 10) = true := by simp only [bne, e10]; rfl
        by_cases h59 : s[j] = 59
        · have e59 : ((s[j].toNat : Int) == 59) = true := by rw [h59]; rfl
          have HN : Hid (noted s[j] b = true) := by rw [h59]; rfl
          clear h10 h59
          go_wp2_with fail
          go_quiet (fail)
          go_wp2_with fail
          go_quiet (fail)
          go_wp2_with fail
          go_roundg (s.size - (j + 1))
          case measure => omega
          case rel =>
            refine ⟨j + 1, true, rfl, by omega, rfl, ?_, ?_, by rw [← HN.out]; exact HGO.out (by rw [HN.out, Bool.true_or])⟩
            · exact (HK.out.1.drewN _).setCell _ rfl _
            · exact (HK.out.2.drewN _).move _ _ (by omega)
        · have e59 : ((s[j].toNat : Int) == 59) = false := by rw [show ((59 : Int)) = ((59 : UInt8).toNat : Int) from rfl, HB.out]; simpa using h59
          have HN : Hid (noted s[j] b = b) := by
            show noted s[j] b = b
            unfold noted
            rw [if_neg h59, if_neg h10]
          cases b with
          | true =>
            clear h10 h59
            go_wp2_with fail
            go_quiet (fail)
            go_wp2_with fail
            go_quiet (fail)
            go_wp2_with fail
            go_roundg (s.size - (j + 1))
            case measure => omega
            case rel =>
              refine ⟨j + 1, true, rfl, by omega, rfl, ?_, ?_, ?_⟩
              · exact (HK.out.1.drewN _).setCell _ rfl _
              · exact (HK.out.2.drewN _).move _ _ (by omega)
              · have := HGO.out (by rw [HN.out, Bool.true_or])
                rw [HN.out] at this
                exact this
          | false =>
            by_cases h32 : s[j] = 32
            · have m32 : ((s[j].toNat : Int) != 32) = false := by rw [h32]; rfl
              have HBL : Hid (isBlank s[j] = true) := by rw [h32]; rfl
              clear h10 h59 h32
              go_wp2_with fail
              go_quiet (fail)
              go_wp2_with fail
              go_quiet (fail)
              go_wp2_with fail
              go_roundg (s.size - (j + 1))
              case measure => omega
              case rel =>
                refine ⟨j + 1, false, rfl, by omega, rfl, ?_, ?_, ?_⟩
                · exact (HK.out.1.drewN _).setCell _ rfl _
                · exact (HK.out.2.drewN _).move _ _ (by omega)
                · have := HGO.out (by rw [HBL.out, Bool.or_true])
                  rw [HN.out] at this
                  exact this
            · have m32 : ((s[j].toNat : Int) != 32) = true := by
                have e32 : ((s[j].toNat : Int) == 32) = false := by rw [show ((32 : Int)) = ((32 : UInt8).toNat : Int) from rfl, HB.out]; simpa using h32
                simp only [bne, e32]; rfl
              by_cases h9 : s[j] = 9
              · have m9 : ((s[j].toNat : Int) != 9) = false := by rw [h9]; rfl
                have HBL : Hid (isBlank s[j] = true) := by rw [h9]; rfl
                clear h10 h59 h32 h9
                go_wp2_with fail
                go_quiet (fail)
                go_wp2_with fail
                go_quiet (fail)
                go_wp2_with fail
                go_roundg (s.size - (j + 1))
                case measure => omega
                case rel =>
                  refine ⟨j + 1, false, rfl, by omega, rfl, ?_, ?_, ?_⟩
                  · exact (HK.out.1.drewN _).setCell _ rfl _
                  · exact (HK.out.2.drewN _).move _ _ (by omega)
                  · have := HGO.out (by rw [HBL.out, Bool.or_true])
                    rw [HN.out] at this
                    exact this
              · have m9 : ((s[j].toNat : Int) != 9) = true := by
                  have e9 : ((s[j].toNat : Int) == 9) = false := by rw [show ((9 : Int)) = ((9 : UInt8).toNat : Int) from rfl, HB.out]; simpa using h9
                  simp only [bne, e9]; rfl
                have HEQ : Hid (j = t) := HST.out (by rw [HN.out]; unfold isBlank; simp [h32, h9, h10])
                clear h10 h59 h32 h9
                go_wp2_with fail
                go_quiet (fail)
                go_wp2_with fail
                go_quiet (fail)
                go_wp2_with fail
                refine bodyPost_ret (results_none rfl _ _ _) rfl ?_
                rw [← HEQ.out]
                exact ⟨rfl, HK.out.1.drewN _, HK.out.2.drewN _⟩
    · obtain rfl : j = s.size := by omega
      have HEQ : Hid (s.size = t) := by
        have := HE.out
        rw [List.drop_of_length_le (by rw [Array.length_toList]; exact Nat.le_refl _)] at this
        exact this
      go_wp2_with fail
      go_quiet (fail)
      go_wp2_with fail
      go_end0
      rw [← HEQ.out]
      exact ⟨rfl, HK.out.1.drewN _, HK.out.2.drewN _⟩

set_option maxRecDepth 100000 in
set_option maxHeartbeats 800000 in
theorem rcount_ok (rb : Nat) (s : ByteArray) (i n : Nat) (dp at_ : Int) (w : World) (h : Wk rb s i n (0, 0) w) (hn : n ≤ 1999) (hd : dp ≤ 40) :
    Calls Tryd.prog 39 #[.pointer (some ⟨rb, 0, none⟩), .int .i64 dp, .int .i64 at_] w fun e w' => e = .returned (.tuple #[]) ∧ Keep rb w w' ∧ Wk rb s i (n + 1) (0, 0) w' := by
  have c2 := h.c2
  have z2 := h.z 2
  have HR : Hid (Wk rb s i n (0, 0) w) := h
  clear h
  go_enter Tryd.func39, Tryd.ntmps39
  go_wp2_with fail
  go_end0
  exact ⟨rfl, (Keep.refl _ _).setCell _ rfl _, HR.out.tick (n + 1) _ (by omega)⟩

set_option maxRecDepth 100000 in
set_option maxHeartbeats 800000 in
theorem rcount_much (rb : Nat) (s : ByteArray) (i n : Nat) (dp at_ : Int) (w : World) (h : Wk rb s i n (0, 0) w) (hn : n = 2000) :
    Calls Tryd.prog 39 #[.pointer (some ⟨rb, 0, none⟩), .int .i64 dp, .int .i64 at_] w fun e w' => e = .returned (.tuple #[]) ∧ Keep rb w w' ∧ Wk rb s i (n + 1) (4, at_) w' := by
  subst hn
  have c2 := h.c2
  have z2 := h.z 2
  have HR : Hid (Wk rb s i 2000 (0, 0) w) := h
  clear h
  go_enter Tryd.func39, Tryd.ntmps39
  go_wp2_with fail
  refine (stop_any rb s i (2000 + 1) 4 at_ _ (HR.out.tick (2000 + 1) _ rfl)).mono ?_
  rintro e w1 ⟨rfl, hk, hr⟩
  have H1 : Hid (Keep rb w w1 ∧ Wk rb s i (2000 + 1) (4, at_) w1) := ⟨((Keep.refl rb w).setCell _ rfl _).trans hk, hr⟩
  clear hk hr c2 z2 HR
  go_wp2_with fail
  go_end0
  exact ⟨rfl, H1.out.1, H1.out.2⟩

set_option maxRecDepth 100000 in
set_option maxHeartbeats 800000 in
theorem rcount_deep (rb : Nat) (s : ByteArray) (i n : Nat) (at_ : Int) (w : World) (h : Wk rb s i n (0, 0) w) (hn : n ≤ 1999) :
    Calls Tryd.prog 39 #[.pointer (some ⟨rb, 0, none⟩), .int .i64 41, .int .i64 at_] w fun e w' => e = .returned (.tuple #[]) ∧ Keep rb w w' ∧ Wk rb s i (n + 1) (4, at_) w' := by
  have c2 := h.c2
  have z2 := h.z 2
  have HR : Hid (Wk rb s i n (0, 0) w) := h
  clear h
  go_enter Tryd.func39, Tryd.ntmps39
  go_wp2_with fail
  refine (stop_any rb s i (n + 1) 4 at_ _ (HR.out.tick (n + 1) _ (by omega))).mono ?_
  rintro e w1 ⟨rfl, hk, hr⟩
  have H1 : Hid (Keep rb w w1 ∧ Wk rb s i (n + 1) (4, at_) w1) := ⟨((Keep.refl rb w).setCell _ rfl _).trans hk, hr⟩
  clear hk hr c2 z2 HR
  go_wp2_with fail
  go_end0
  exact ⟨rfl, H1.out.1, H1.out.2⟩
end Go.Proofs.YtagpcafbeplccaaDoor
