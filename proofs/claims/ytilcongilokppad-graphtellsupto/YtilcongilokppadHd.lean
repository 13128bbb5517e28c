/- container/heap's down and Pop. -/
import Derived.Test.YtilcongilokppadHc
namespace Go.Proofs.Ytilcongilokppad
set_option linter.unusedVariables false
set_option linter.unusedSimpArgs false
open Go.RowKit

def IsRet (e : Ending) : Prop := ∃ v, e = .returned v

set_option maxRecDepth 100000 in
set_option maxHeartbeats 3200000 in
theorem down_any (r i0 n : Nat) (h : List Nat) (v : Value) (w : World) (H : Hp r h v w) (hd : Down h i0 n) (h0 : 0 < h.length) (hi0 : i0 ≤ n) (hl : h.length ≤ 1048576) :
    Calls Try.prog 35 #[.iface 53 (.pointer (some ⟨r, 0, none⟩)), .int .i64 i0, .int .i64 n] w fun e w' => IsRet e ∧ ∃ h', h'.Perm h ∧ Heap h' n ∧ (∀ p, n ≤ p → h'.getD p 0 = h.getD p 0) ∧ Hp r h' v w' ∧ Tch r v w w' := by
  have hnl := hd.le
  obtain ⟨g, cap, rfl, hg1, hg2, hcap⟩ := H.row.is h0
  have HH : Hid (Hp r h (.slice (some ⟨g, 0, none⟩) h.length cap) w ∧ Down h i0 n) := ⟨H, hd⟩
  clear H hd hg2
  go_enter Try.func35, Try.ntmps35
  go_wp2_with fail
  go_loopw [7] (fun i wr => ∃ (k : Nat) (h' : List Nat), k ≤ n ∧ i = .int .i64 k ∧ Hid (h'.Perm h ∧ Down h' k n ∧ (∀ p, n ≤ p → h'.getD p 0 = h.getD p 0) ∧ Hp r h' (.slice (some ⟨g, 0, none⟩) h.length cap) wr ∧ Tch r (.slice (some ⟨g, 0, none⟩) h.length cap) w wr)) (fun i _ => n - (intOf i).toNat)
  case atStart => exact ⟨i0, h, hi0, rfl, List.Perm.refl _, HH.out.2, fun _ _ => rfl, HH.out.1, Tch.refl _ _ _⟩
  case round =>
    obtain ⟨k, h', hkn, rfl, HR⟩ := hrel
    have hlen := HR.out.1.length_eq
    by_cases ha : n ≤ 2 * k + 1
    · go_wp2_with fail
      go_ret
      exact ⟨⟨_, rfl⟩, h', HR.out.1, HR.out.2.1.none ha, HR.out.2.2.1, HR.out.2.2.2.1, HR.out.2.2.2.2⟩
    · by_cases hb : 2 * k + 2 < n
      · obtain ⟨xa, HXA⟩ : ∃ x, Hid (h'.getD (2 * k + 2) 0 = x) := ⟨_, rfl⟩
        obtain ⟨xb, HXB⟩ : ∃ x, Hid (h'.getD (2 * k + 1) 0 = x) := ⟨_, rfl⟩
        have hml := method_less r _ wr HR.out.2.2.2.1.cell
        have LE : Hid (Calls Try.prog 75 #[.slice (some ⟨g, 0, none⟩) h.length cap, .int .i64 ((2 * k + 2 : Nat) : Int), .int .i64 ((2 * k + 1 : Nat) : Int)] wr fun e w' => e = .returned (.bool (decide (xa < xb))) ∧ Below wr.heap.size wr w') :=
          Less_any g h.length cap (2 * k + 2) (2 * k + 1) xa xb wr (by omega) (by omega) hl (HXA.out ▸ HR.out.2.2.2.1.row.cell (by omega)) (HXB.out ▸ HR.out.2.2.2.1.row.cell (by omega))
        go_wp2_with fail
        rw [show (2 * (k : Int) + 1 + 1) = ((2 * k + 2 : Nat) : Int) by omega, show (2 * (k : Int) + 1) = ((2 * k + 1 : Nat) : Int) by omega]
        refine LE.out.mono ?_
        rintro e w1 ⟨rfl, hb1⟩
        have H1 : Hid (Hp r h' (.slice (some ⟨g, 0, none⟩) h.length cap) w1 ∧ Tch r (.slice (some ⟨g, 0, none⟩) h.length cap) w w1) := ⟨HR.out.2.2.2.1.below hb1, HR.out.2.2.2.2.trans (Lies.refl _ _) (Tch.of_below hb1)⟩
        clear hb1 hml LE
        by_cases hab : xa < xb
        · have HK : Hid (kid h' k n = 2 * k + 2) := by
            show kid h' k n = 2 * k + 2
            unfold kid
            rw [if_pos ⟨hb, by rw [HXA.out, HXB.out]; exact hab⟩]
          obtain ⟨xj, HXJ⟩ : ∃ x, Hid (h'.getD (2 * k + 2) 0 = x) := ⟨_, rfl⟩
          obtain ⟨xi, HXI⟩ : ∃ x, Hid (h'.getD k 0 = x) := ⟨_, rfl⟩
          have hml2 := method_less r _ w1 H1.out.1.cell
          have LE2 : Hid (Calls Try.prog 75 #[.slice (some ⟨g, 0, none⟩) h.length cap, .int .i64 ((2 * k + 2 : Nat) : Int), .int .i64 (k : Int)] w1 fun e w' => e = .returned (.bool (decide (xj < xi))) ∧ Below w1.heap.size w1 w') :=
            Less_any g h.length cap (2 * k + 2) k xj xi w1 (by omega) (by omega) hl (HXJ.out ▸ H1.out.1.row.cell (by omega)) (HXI.out ▸ H1.out.1.row.cell (by omega))
          go_wp2_with fail
          refine LE2.out.mono ?_
          rintro e w2 ⟨rfl, hb2⟩
          have H2 : Hid (Hp r h' (.slice (some ⟨g, 0, none⟩) h.length cap) w2 ∧ Tch r (.slice (some ⟨g, 0, none⟩) h.length cap) w w2) := ⟨H1.out.1.below hb2, H1.out.2.trans (Lies.refl _ _) (Tch.of_below hb2)⟩
          have hms := method_swap r _ w2 H2.out.1.cell
          have SW : Hid (Calls Try.prog 79 #[.slice (some ⟨g, 0, none⟩) h.length cap, .int .i64 (k : Int), .int .i64 ((2 * k + 2 : Nat) : Int)] w2 fun e w' => e = .returned (.tuple #[]) ∧ ∃ w3, Below w2.heap.size w2 w3 ∧ w3.heap = w2.heap ∧ w' = (w3.setCell ⟨g, k, none⟩ (encI xj)).setCell ⟨g, 2 * k + 2, none⟩ (encI xi)) :=
            Swap_any g h.length cap k (2 * k + 2) xi xj w2 (by omega) (by omega) hl (HXI.out ▸ H2.out.1.row.cell (by omega)) (HXJ.out ▸ H2.out.1.row.cell (by omega)) (H2.out.1.row.frozen _) (H2.out.1.row.frozen _)
          clear hb2 hml2 LE2
          by_cases hlt : xj < xi
          · have HL : Hid (h'.getD (kid h' k n) 0 < h'.getD k 0) := by
              show h'.getD (kid h' k n) 0 < h'.getD k 0
              rw [HK.out, HXJ.out, HXI.out]
              exact hlt
            go_wp2_with fail
            refine SW.out.mono ?_
            rintro e w4 ⟨rfl, w3, hb3, he3, hw4⟩
            have H3 : Hid (Hp r (sw h' k (2 * k + 2)) (.slice (some ⟨g, 0, none⟩) h.length cap) w4 ∧ Tch r (.slice (some ⟨g, 0, none⟩) h.length cap) w w4 ∧ Down (sw h' k (2 * k + 2)) (2 * k + 2) n ∧ (sw h' k (2 * k + 2)).Perm h ∧ ∀ p, n ≤ p → (sw h' k (2 * k + 2)).getD p 0 = h.getD p 0) := by
              rw [← HXJ.out, ← HXI.out] at hw4
              rw [hw4]
              refine ⟨H2.out.1.swapped he3 (by omega) (by omega), H2.out.2.trans (Lies.refl _ _) (Tch.swapped hb3 _ _ _ _), ?_, (sw_perm (by omega) (by omega)).trans HR.out.1, fun p hp => ?_⟩
              · have := HR.out.2.1.step (by omega) HL.out
                rwa [HK.out] at this
              · rw [sw_at (by omega) (by omega), if_neg (by omega), if_neg (by omega)]
                exact HR.out.2.2.1 p hp
            clear hb3 he3 hms hw4
            go_wp2_with fail
            go_roundw
            case rel => exact ⟨2 * k + 2, _, by omega, by go_num, H3.out.2.2.2.1, H3.out.2.2.1, H3.out.2.2.2.2, H3.out.1, H3.out.2.1⟩
            case measure => simp [intOf]; omega
          · have HL : Hid (h'.getD k 0 ≤ h'.getD (kid h' k n) 0) := by
              show h'.getD k 0 ≤ h'.getD (kid h' k n) 0
              rw [HK.out, HXJ.out, HXI.out]
              omega
            go_wp2_with fail
            go_ret
            exact ⟨⟨_, rfl⟩, h', HR.out.1, HR.out.2.1.done HL.out, HR.out.2.2.1, H2.out.1, H2.out.2⟩
        · have HK : Hid (kid h' k n = 2 * k + 1) := by
            show kid h' k n = 2 * k + 1
            unfold kid
            rw [if_neg fun q => hab (by have := q.2; rwa [HXA.out, HXB.out] at this)]
          obtain ⟨xj, HXJ⟩ : ∃ x, Hid (h'.getD (2 * k + 1) 0 = x) := ⟨_, rfl⟩
          obtain ⟨xi, HXI⟩ : ∃ x, Hid (h'.getD k 0 = x) := ⟨_, rfl⟩
          have hml2 := method_less r _ w1 H1.out.1.cell
          have LE2 : Hid (Calls Try.prog 75 #[.slice (some ⟨g, 0, none⟩) h.length cap, .int .i64 ((2 * k + 1 : Nat) : Int), .int .i64 (k : Int)] w1 fun e w' => e = .returned (.bool (decide (xj < xi))) ∧ Below w1.heap.size w1 w') :=
            Less_any g h.length cap (2 * k + 1) k xj xi w1 (by omega) (by omega) hl (HXJ.out ▸ H1.out.1.row.cell (by omega)) (HXI.out ▸ H1.out.1.row.cell (by omega))
          go_wp2_with fail
          refine LE2.out.mono ?_
          rintro e w2 ⟨rfl, hb2⟩
          have H2 : Hid (Hp r h' (.slice (some ⟨g, 0, none⟩) h.length cap) w2 ∧ Tch r (.slice (some ⟨g, 0, none⟩) h.length cap) w w2) := ⟨H1.out.1.below hb2, H1.out.2.trans (Lies.refl _ _) (Tch.of_below hb2)⟩
          have hms := method_swap r _ w2 H2.out.1.cell
          have SW : Hid (Calls Try.prog 79 #[.slice (some ⟨g, 0, none⟩) h.length cap, .int .i64 (k : Int), .int .i64 ((2 * k + 1 : Nat) : Int)] w2 fun e w' => e = .returned (.tuple #[]) ∧ ∃ w3, Below w2.heap.size w2 w3 ∧ w3.heap = w2.heap ∧ w' = (w3.setCell ⟨g, k, none⟩ (encI xj)).setCell ⟨g, 2 * k + 1, none⟩ (encI xi)) :=
            Swap_any g h.length cap k (2 * k + 1) xi xj w2 (by omega) (by omega) hl (HXI.out ▸ H2.out.1.row.cell (by omega)) (HXJ.out ▸ H2.out.1.row.cell (by omega)) (H2.out.1.row.frozen _) (H2.out.1.row.frozen _)
          clear hb2 hml2 LE2
          by_cases hlt : xj < xi
          · have HL : Hid (h'.getD (kid h' k n) 0 < h'.getD k 0) := by
              show h'.getD (kid h' k n) 0 < h'.getD k 0
              rw [HK.out, HXJ.out, HXI.out]
              exact hlt
            go_wp2_with fail
            refine SW.out.mono ?_
            rintro e w4 ⟨rfl, w3, hb3, he3, hw4⟩
            have H3 : Hid (Hp r (sw h' k (2 * k + 1)) (.slice (some ⟨g, 0, none⟩) h.length cap) w4 ∧ Tch r (.slice (some ⟨g, 0, none⟩) h.length cap) w w4 ∧ Down (sw h' k (2 * k + 1)) (2 * k + 1) n ∧ (sw h' k (2 * k + 1)).Perm h ∧ ∀ p, n ≤ p → (sw h' k (2 * k + 1)).getD p 0 = h.getD p 0) := by
              rw [← HXJ.out, ← HXI.out] at hw4
              rw [hw4]
              refine ⟨H2.out.1.swapped he3 (by omega) (by omega), H2.out.2.trans (Lies.refl _ _) (Tch.swapped hb3 _ _ _ _), ?_, (sw_perm (by omega) (by omega)).trans HR.out.1, fun p hp => ?_⟩
              · have := HR.out.2.1.step (by omega) HL.out
                rwa [HK.out] at this
              · rw [sw_at (by omega) (by omega), if_neg (by omega), if_neg (by omega)]
                exact HR.out.2.2.1 p hp
            clear hb3 he3 hms hw4
            go_wp2_with fail
            go_roundw
            case rel => exact ⟨2 * k + 1, _, by omega, by go_num, H3.out.2.2.2.1, H3.out.2.2.1, H3.out.2.2.2.2, H3.out.1, H3.out.2.1⟩
            case measure => simp [intOf]; omega
          · have HL : Hid (h'.getD k 0 ≤ h'.getD (kid h' k n) 0) := by
              show h'.getD k 0 ≤ h'.getD (kid h' k n) 0
              rw [HK.out, HXJ.out, HXI.out]
              omega
            go_wp2_with fail
            go_ret
            exact ⟨⟨_, rfl⟩, h', HR.out.1, HR.out.2.1.done HL.out, HR.out.2.2.1, H2.out.1, H2.out.2⟩
      · have HK : Hid (kid h' k n = 2 * k + 1) := by
          show kid h' k n = 2 * k + 1
          unfold kid
          rw [if_neg fun q => hb q.1]
        obtain ⟨w1, HW1⟩ : ∃ x, Hid (x = wr) := ⟨_, rfl⟩
        have H1 : Hid (Hp r h' (.slice (some ⟨g, 0, none⟩) h.length cap) wr ∧ Tch r (.slice (some ⟨g, 0, none⟩) h.length cap) w wr) := ⟨HR.out.2.2.2.1, HR.out.2.2.2.2⟩
        obtain ⟨xj, HXJ⟩ : ∃ x, Hid (h'.getD (2 * k + 1) 0 = x) := ⟨_, rfl⟩
        obtain ⟨xi, HXI⟩ : ∃ x, Hid (h'.getD k 0 = x) := ⟨_, rfl⟩
        have hml2 := method_less r _ wr H1.out.1.cell
        have LE2 : Hid (Calls Try.prog 75 #[.slice (some ⟨g, 0, none⟩) h.length cap, .int .i64 ((2 * k + 1 : Nat) : Int), .int .i64 (k : Int)] wr fun e w' => e = .returned (.bool (decide (xj < xi))) ∧ Below wr.heap.size wr w') :=
          Less_any g h.length cap (2 * k + 1) k xj xi wr (by omega) (by omega) hl (HXJ.out ▸ H1.out.1.row.cell (by omega)) (HXI.out ▸ H1.out.1.row.cell (by omega))
        go_wp2_with fail
        refine LE2.out.mono ?_
        rintro e w2 ⟨rfl, hb2⟩
        have H2 : Hid (Hp r h' (.slice (some ⟨g, 0, none⟩) h.length cap) w2 ∧ Tch r (.slice (some ⟨g, 0, none⟩) h.length cap) w w2) := ⟨H1.out.1.below hb2, H1.out.2.trans (Lies.refl _ _) (Tch.of_below hb2)⟩
        have hms := method_swap r _ w2 H2.out.1.cell
        have SW : Hid (Calls Try.prog 79 #[.slice (some ⟨g, 0, none⟩) h.length cap, .int .i64 (k : Int), .int .i64 ((2 * k + 1 : Nat) : Int)] w2 fun e w' => e = .returned (.tuple #[]) ∧ ∃ w3, Below w2.heap.size w2 w3 ∧ w3.heap = w2.heap ∧ w' = (w3.setCell ⟨g, k, none⟩ (encI xj)).setCell ⟨g, 2 * k + 1, none⟩ (encI xi)) :=
          Swap_any g h.length cap k (2 * k + 1) xi xj w2 (by omega) (by omega) hl (HXI.out ▸ H2.out.1.row.cell (by omega)) (HXJ.out ▸ H2.out.1.row.cell (by omega)) (H2.out.1.row.frozen _) (H2.out.1.row.frozen _)
        clear hb2 hml2 LE2
        by_cases hlt : xj < xi
        · have HL : Hid (h'.getD (kid h' k n) 0 < h'.getD k 0) := by
            show h'.getD (kid h' k n) 0 < h'.getD k 0
            rw [HK.out, HXJ.out, HXI.out]
            exact hlt
          go_wp2_with fail
          refine SW.out.mono ?_
          rintro e w4 ⟨rfl, w3, hb3, he3, hw4⟩
          have H3 : Hid (Hp r (sw h' k (2 * k + 1)) (.slice (some ⟨g, 0, none⟩) h.length cap) w4 ∧ Tch r (.slice (some ⟨g, 0, none⟩) h.length cap) w w4 ∧ Down (sw h' k (2 * k + 1)) (2 * k + 1) n ∧ (sw h' k (2 * k + 1)).Perm h ∧ ∀ p, n ≤ p → (sw h' k (2 * k + 1)).getD p 0 = h.getD p 0) := by
            rw [← HXJ.out, ← HXI.out] at hw4
            rw [hw4]
            refine ⟨H2.out.1.swapped he3 (by omega) (by omega), H2.out.2.trans (Lies.refl _ _) (Tch.swapped hb3 _ _ _ _), ?_, (sw_perm (by omega) (by omega)).trans HR.out.1, fun p hp => ?_⟩
            · have := HR.out.2.1.step (by omega) HL.out
              rwa [HK.out] at this
            · rw [sw_at (by omega) (by omega), if_neg (by omega), if_neg (by omega)]
              exact HR.out.2.2.1 p hp
          clear hb3 he3 hms hw4
          go_wp2_with fail
          go_roundw
          case rel => exact ⟨2 * k + 1, _, by omega, by go_num, H3.out.2.2.2.1, H3.out.2.2.1, H3.out.2.2.2.2, H3.out.1, H3.out.2.1⟩
          case measure => simp [intOf]; omega
        · have HL : Hid (h'.getD k 0 ≤ h'.getD (kid h' k n) 0) := by
            show h'.getD k 0 ≤ h'.getD (kid h' k n) 0
            rw [HK.out, HXJ.out, HXI.out]
            omega
          go_wp2_with fail
          go_ret
          exact ⟨⟨_, rfl⟩, h', HR.out.1, HR.out.2.1.done HL.out, HR.out.2.2.1, H2.out.1, H2.out.2⟩
end Go.Proofs.Ytilcongilokppad
