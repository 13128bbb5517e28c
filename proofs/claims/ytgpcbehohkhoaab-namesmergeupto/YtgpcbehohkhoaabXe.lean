/- The law NamesFrom, walked. -/
import Derived.Test.YtgpcbehohkhoaabXd
import Derived.Test.YtgpcbehohkhoaabQh
namespace Go.Proofs.Ytgpcbehohkhoaab
set_option linter.unusedVariables false
set_option linter.unusedSimpArgs false
open Go.RowKit

theorem bytesLess_cb : ∀ (a b : List UInt8), Op.bytesLess a b = decide (Lib.compareBytes a b < 0)
  | [], [] => rfl
  | [], _ :: _ => rfl
  | _ :: _, [] => rfl
  | x :: a, y :: b => by
    unfold Op.bytesLess Lib.compareBytes
    by_cases h1 : x < y
    · simp [h1]
    · by_cases h2 : y < x
      · have h3 : ¬ x = y := fun e => by subst e; exact h1 h2
        simp [h1, h2, h3]
      · have e : x = y := UInt8.le_antisymm (UInt8.not_lt.1 h2) (UInt8.not_lt.1 h1)
        subst e
        have := bytesLess_cb a b
        simp [h1, this]
theorem bytesLess_ltB (a b : ByteArray) : Op.bytesLess a.toList b.toList = ltB a b := by
  rw [ByteArray.toList_eq, ByteArray.toList_eq, bytesLess_cb]
  rfl

section
variable (B : Nat) (s : St) (kd : Int) (na : ByteArray) (nn nas : List ByteArray) (pr : ByteArray) (a0 a1 a2 : Option Addr) (c0 c1 c2 n : Nat) (ex : List ByteArray) (ea : Option Addr) (ec : Nat) (w : World)

set_option maxRecDepth 100000 in
set_option maxHeartbeats 6400000 in
theorem NamesFrom_walk (h : LiesS B w s (setV ⟨kd, na, nn, nas, pr⟩ a0 a1 a2 c0 c1 c2 n)) (he : Strs B w ea ex) (hB : B ≤ w.heap.size) :
    Calls Try.prog 6 #[.agg #[.int .i64 kd, .string na, .slice a0 nn.length c0, .slice a1 nas.length c1, .string pr, .slice a2 n c2], .slice ea ex.length ec] w fun e w' => e = .returned (.bool true) ∧ Below w.heap.size w w' := by
  have HS : Hid (LiesS B w s (setV ⟨kd, na, nn, nas, pr⟩ a0 a1 a2 c0 c1 c2 n) ∧ Strs B w ea ex ∧ B ≤ w.heap.size) := ⟨h, he, hB⟩
  have hel := he.1
  clear h he hB
  have HBX : Hid (Box w.heap.size ⟨kd, na, nn, nas, pr⟩ a0 a1 a2 c0 c1 c2 n (w.alloc (.cells #[.int .i64 kd, .string na, .slice a0 nn.length c0, .slice a1 nas.length c1, .string pr, .slice a2 n c2] 25))) := Box.made ⟨kd, na, nn, nas, pr⟩ a0 a1 a2 c0 c1 c2 n w
  go_enter Try.func6, Try.ntmps6
  go_wp2_with fail
  refine (alive_any _).mono ?_
  rintro e w1 ⟨rfl, hb1⟩
  have H1 : Hid (Below w.heap.size w w1 ∧ Box w.heap.size ⟨kd, na, nn, nas, pr⟩ a0 a1 a2 c0 c1 c2 n w1) := ⟨((Below.refl _ _).alloc (Nat.le_refl _) _).trans (hb1.mono (by simp)), HBX.out.below hb1⟩
  have OF1 : Hid (Calls Try.prog 10 #[.agg #[.int .i64 kd, .string na, .slice a0 nn.length c0, .slice a1 nas.length c1, .string pr, .slice a2 n c2], .slice ea ex.length ec] w1 (OutO (ofL s ex) w1)) :=
    Of_any B _ _ ex ea ec w1 (HS.out.1.old HS.out.2.2 H1.out.1) (HS.out.2.1.old HS.out.2.2 H1.out.1) (Nat.le_trans HS.out.2.2 H1.out.1.size)
  obtain ⟨q0, q1, q2, q3, q4, q5⟩ := (⟨H1.out.2.q0, H1.out.2.q1, H1.out.2.q2, H1.out.2.q3, H1.out.2.q4, H1.out.2.q5⟩ : _ ∧ _ ∧ _ ∧ _ ∧ _ ∧ _)
  simp only at q0 q1 q2 q3 q4 q5
  clear hb1 HBX
  go_wp2_with fail
  refine OF1.out.mono ?_
  intro e w2 hout
  obtain ⟨hb2, xa, xl, xc, xe, rfl, hvx⟩ := hout.val
  have H2 : Hid (Below w.heap.size w w2 ∧ Strs B w2 ea ex) := ⟨H1.out.1.trans (hb2.mono H1.out.1.size), (HS.out.2.1.old HS.out.2.2 H1.out.1).old (Nat.le_trans HS.out.2.2 H1.out.1.size) hb2⟩
  have hBw : B ≤ w2.heap.size := Nat.le_trans HS.out.2.2 H2.out.1.size
  clear hb2 hout OF1 H1 HS q0 q1 q2 q3 q4 q5
  cases hrx : ofL s ex with
  | inl e1 =>
    rw [hrx] at hvx
    obtain ⟨rfl, rfl⟩ := hvx
    have g1 : ¬ _ = (0 : Int) := ofL_ne hrx
    clear hrx
    go_wp2_with fail
    go_ret
    exact ⟨rfl, H2.out.1⟩
  | inr xs =>
    rw [hrx] at hvx
    obtain ⟨rfl, rfl, hpx⟩ := hvx
    obtain ⟨hasc, hgood⟩ := from_good hrx
    have HG : Hid (Asc (·.1) xs ∧ Good ex xs) := ⟨hasc, hgood⟩
    have hfew := hgood.few
    have HP : Hid (Prs w2.heap.size w2 xa xs) := hpx
    have hl := hpx.1
    clear hrx hpx hasc hgood
    go_wp2_with fail
    go_loopw [27] (fun i wr => ∃ j : Nat, j ≤ xs.length ∧ i = .int .i64 j ∧ Below w2.heap.size w2 wr) (fun i _ => xs.length - (intOf i).toNat)
    case atStart => exact ⟨0, Nat.zero_le _, rfl, Below.refl _ _⟩
    case round =>
      obtain ⟨j, hj, rfl, hb⟩ := hrel
      have HBL : Hid (Below w2.heap.size w2 wr) := hb
      by_cases hlt : j < xs.length
      · obtain ⟨b, o, p, rfl, hbB, hs, hc0, hc1⟩ := HP.out.at hlt
        have k0 := (hb.cell (p := ⟨b, o + j * 2, none⟩) hbB).trans hc0
        have k1 := (hb.cell (p := ⟨b, o + j * 2 + 1, none⟩) hbB).trans hc1
        obtain ⟨p1, p2⟩ := p
        simp only at k0 k1
        have HX : Hid (xs[j]? = some (p1, p2)) := hs
        have HIN : Hid (p2 ∈ ex) := HG.out.2.there _ (List.mem_of_getElem? hs)
        have HNM : Hid (namedB p1 = true) := HG.out.2.named _ (List.mem_of_getElem? hs)
        clear hc0 hc1 hs hb
        go_wp2_with fail
        go_loop [9, 34] (fun v i => ∃ k : Nat, k ≤ ex.length ∧ i = .int .i64 k ∧ v = .bool (decide (p2 ∈ ex.take k))) (fun _ i => ex.length - (intOf i).toNat)
        case atStart => exact ⟨0, Nat.zero_le _, rfl, by simp⟩
        case round =>
          obtain ⟨k, hk, rfl, rfl⟩ := hrel
          by_cases hlt2 : k < ex.length
          · obtain ⟨b', o', t, rfl, hbB', ht, hct, hz⟩ := H2.out.2.at hlt2
            have hc' := (HBL.out.cell (p := ⟨b', o' + k, none⟩) (Nat.lt_of_lt_of_le hbB' hBw)).trans hct
            have hbw : b' < wr.heap.size := Nat.lt_of_lt_of_le (Nat.lt_of_lt_of_le hbB' hBw) HBL.out.size
            have HT : Hid (ex[k]? = some t) := ht
            clear hct ht hz
            cases hd : decide (p2 ∈ ex.take k) with
            | true =>
              have HN : Hid (decide (p2 ∈ ex.take (k + 1)) = true) := by
                show decide (p2 ∈ ex.take (k + 1)) = true
                rw [take_put HT.out]
                simp at hd
                simp [hd]
              clear hd
              go_wp2_with fail
              go_round
              case rel => exact ⟨k + 1, by omega, by go_num, by rw [HN.out]⟩
              case measure => simp [intOf]; omega
            | false =>
              have HD : Hid (decide (p2 ∈ ex.take k) = false) := hd
              clear hd
              cases he : (t.toList == p2.toList) with
              | true =>
                have HN : Hid (decide (p2 ∈ ex.take (k + 1)) = true) := by
                  show decide (p2 ∈ ex.take (k + 1)) = true
                  rw [take_put HT.out, beqS_true he]
                  simp
                go_wp2_with fail
                go_round
                case rel => exact ⟨k + 1, by omega, by go_num, by rw [HN.out]⟩
                case measure => simp [intOf]; omega
              | false =>
                have HN : Hid (decide (p2 ∈ ex.take (k + 1)) = false) := by
                  show decide (p2 ∈ ex.take (k + 1)) = false
                  rw [take_put HT.out]
                  have h1 := HD.out
                  have h2 := beqS_false he
                  simp at h1 ⊢
                  exact ⟨h1, fun e => h2 e.symm⟩
                go_wp2_with fail
                go_round
                case rel => exact ⟨k + 1, by omega, by go_num, by rw [HN.out]⟩
                case measure => simp [intOf]; omega
          · obtain rfl : k = ex.length := by omega
            have hd : decide (p2 ∈ ex.take ex.length) = true := by
              rw [List.take_length]
              exact decide_eq_true HIN.out
            rw [hd]
            have NC : Hid (∀ w, Calls Try.prog 14 #[.string p1] w fun e w' => e = .returned (.bool true) ∧ Below w.heap.size w w') := fun w => by
              have := refNamed_any p1 (by have := named_size HNM.out; unfold maxLen; omega) w
              rwa [HNM.out] at this
            clear hd
            have hW0 : Below w2.heap.size w2 (wr.alloc (.cells #[.string p1, .string p2] 38)) := HBL.out.alloc HBL.out.size _
            have cq : (wr.alloc (.cells #[.string p1, .string p2] 38)).cell? ⟨wr.heap.size, 0, none⟩ = some (.string p1) := by simp [go_sem]
            have hlW : wr.heap.size < (wr.alloc (.cells #[.string p1, .string p2] 38)).heap.size := by simp
            clear k0 k1
            go_wp2_with fail
            generalize (wr.alloc (.cells #[.string p1, .string p2] 38)) = W0 at hW0 cq hlW ⊢
            by_cases hj0 : j = 0
            · subst hj0
              refine wp_region_head_quiet 9 (by kernel_rfl) (by kernel_rfl) (by simp) (by kernel_rfl) ?_
              simp only [List.take_succ_cons, List.take_zero, List.drop_succ_cons, List.drop_zero]
              go_wp2_with fail
              refine (NC.out _).mono ?_
              rintro e w5 ⟨rfl, hb5⟩
              have H5 : Hid (Below w2.heap.size w2 w5) := hW0.trans ((Below.refl _ _).drew.trans (hb5.mono hW0.size))
              clear hb5
              go_wp2_with fail
              dsimp only [headQ]
              repeat (go_big_quiet_step (fail))
              refine wpQuiet_nil ?_
              rintro _ ⟨nq, rfl⟩
              go_wp2_with fail
              go_roundw
              case rel => exact ⟨0 + 1, by omega, by go_num, below_drewN H5.out _⟩
              case measure => simp [intOf]; omega
            · have hjp : 1 ≤ j := by omega
              clear hj0
              obtain ⟨b0, o0, pp, hba, hbB0, hs0, hc00, hc01⟩ := HP.out.at (j := j - 1) (by omega)
              obtain ⟨rfl, rfl⟩ : b = b0 ∧ o = o0 := by simpa using hba
              obtain ⟨pp1, pp2⟩ := pp
              simp only at hc00
              have HLT : Hid (ltB pp1 p1 = true) := by
                have ha := List.pairwise_iff_getElem.1 HG.out.1 (j - 1) j (by omega) hlt (by omega)
                have e1 : xs[j - 1] = (pp1, pp2) := by rw [List.getElem?_eq_getElem (by omega)] at hs0; simpa using hs0
                have e2 : xs[j] = (p1, p2) := by have := HX.out; rw [List.getElem?_eq_getElem hlt] at this; simpa using this
                rw [e1, e2] at ha
                exact ha
              clear hba hs0 hc01
              refine wp_region_head_quiet 9 (by kernel_rfl) (by kernel_rfl) (by simp) (by kernel_rfl) ?_
              simp only [List.take_succ_cons, List.take_zero, List.drop_succ_cons, List.drop_zero]
              go_wp2_with fail
              refine (NC.out _).mono ?_
              rintro e w5 ⟨rfl, hb5⟩
              have H5 : Hid (Below w2.heap.size w2 w5) := hW0.trans ((Below.refl _ _).drew.trans (hb5.mono hW0.size))
              have g0 : w5.cell? ⟨b, o + (j - 1) * 2, none⟩ = some (.string pp1) := (H5.out.cell (p := ⟨b, o + (j - 1) * 2, none⟩) hbB).trans hc00
              have g1 : w5.cell? ⟨wr.heap.size, 0, none⟩ = some (.string p1) := (hb5.cell (p := ⟨wr.heap.size, 0, none⟩) hlW).trans cq
              clear hb5
              go_wp2_with fail
              dsimp only [headQ]
              have hpos : decide (0 < j) = true := decide_eq_true (by omega)
              have hjn : ((j : Int) - 1).toNat = j - 1 := by omega
              have hj1 : (0 : Int) ≤ (j : Int) - 1 := by omega
              have hj2 : (j : Int) - 1 < (xs.length : Int) := by omega
              repeat (go_big_quiet_step (fail))
              refine wpQuiet_nil ?_
              rintro _ ⟨nq, rfl⟩
              have hbl : Op.bytesLess pp1.toList p1.toList = true := by rw [bytesLess_ltB]; exact HLT.out
              have HBE : Hid (Op.bytesLess pp1.toList p1.toList = true) := hbl
              clear hbl
              go_wp2_with fail
              · have hno : (!Op.bytesLess pp1.toList p1.toList) = true := by assumption
                rw [HBE.out] at hno
                cases hno
              · go_roundw
                case rel => exact ⟨j + 1, by omega, by go_num, below_drewN H5.out _⟩
                case measure => simp [intOf]; omega
      · obtain rfl : j = xs.length := by omega
        clear hb
        go_wp2_with fail
        go_ret
        exact ⟨rfl, H2.out.1.trans (HBL.out.mono H2.out.1.size)⟩
end
end Go.Proofs.Ytgpcbehohkhoaab
