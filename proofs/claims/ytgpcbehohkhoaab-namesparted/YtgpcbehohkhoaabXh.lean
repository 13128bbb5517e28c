/- The law NamesParted, walked. -/
import Derived.Test.YtgpcbehohkhoaabXg
namespace Go.Proofs.Ytgpcbehohkhoaab
set_option linter.unusedVariables false
set_option linter.unusedSimpArgs false
open Go.RowKit

section
variable (B : Nat) (s : St) (kd : Int) (na : ByteArray) (nn nas : List ByteArray) (pr : ByteArray) (a0 a1 a2 : Option Addr) (c0 c1 c2 n : Nat) (ex la : List ByteArray) (ea aa : Option Addr) (ec ac : Nat) (w : World)

set_option maxRecDepth 100000 in
set_option maxHeartbeats 6400000 in
theorem NamesParted_walk (h : LiesS B w s (setV ⟨kd, na, nn, nas, pr⟩ a0 a1 a2 c0 c1 c2 n)) (he : Strs B w ea ex) (ha : Strs B w aa la) (hB : B ≤ w.heap.size) :
    Calls Try.prog 3 #[.agg #[.int .i64 kd, .string na, .slice a0 nn.length c0, .slice a1 nas.length c1, .string pr, .slice a2 n c2], .slice ea ex.length ec, .slice aa la.length ac] w fun e w' => e = .returned (.bool true) ∧ Below w.heap.size w w' := by
  have HS : Hid (LiesS B w s (setV ⟨kd, na, nn, nas, pr⟩ a0 a1 a2 c0 c1 c2 n) ∧ Strs B w ea ex ∧ Strs B w aa la ∧ B ≤ w.heap.size) := ⟨h, he, ha, hB⟩
  clear h he ha hB
  have HBX : Hid (Box w.heap.size ⟨kd, na, nn, nas, pr⟩ a0 a1 a2 c0 c1 c2 n (w.alloc (.cells #[.int .i64 kd, .string na, .slice a0 nn.length c0, .slice a1 nas.length c1, .string pr, .slice a2 n c2] 25))) := Box.made ⟨kd, na, nn, nas, pr⟩ a0 a1 a2 c0 c1 c2 n w
  go_enter Try.func3, Try.ntmps3
  go_wp2_with fail
  refine (alive_any _).mono ?_
  rintro e w1 ⟨rfl, hb1⟩
  have H1 : Hid (Below w.heap.size w w1 ∧ Box w.heap.size ⟨kd, na, nn, nas, pr⟩ a0 a1 a2 c0 c1 c2 n w1) := ⟨((Below.refl _ _).alloc (Nat.le_refl _) _).trans (hb1.mono (by simp)), HBX.out.below hb1⟩
  have OF1 : Hid (Calls Try.prog 10 #[.agg #[.int .i64 kd, .string na, .slice a0 nn.length c0, .slice a1 nas.length c1, .string pr, .slice a2 n c2], .slice ea ex.length ec] w1 (OutO (ofL s ex) w1)) :=
    Of_any B _ _ ex ea ec w1 (HS.out.1.old HS.out.2.2.2 H1.out.1) (HS.out.2.1.old HS.out.2.2.2 H1.out.1) (Nat.le_trans HS.out.2.2.2 H1.out.1.size)
  obtain ⟨q0, q1, q2, q3, q4, q5⟩ := (⟨H1.out.2.q0, H1.out.2.q1, H1.out.2.q2, H1.out.2.q3, H1.out.2.q4, H1.out.2.q5⟩ : _ ∧ _ ∧ _ ∧ _ ∧ _ ∧ _)
  simp only at q0 q1 q2 q3 q4 q5
  clear hb1 HBX
  go_wp2_with fail
  refine OF1.out.mono ?_
  intro e w2 hout
  obtain ⟨hb2, xa, xl, xc, xe, rfl, hvx⟩ := hout.val
  have H2 : Hid (Below w.heap.size w w2 ∧ Box w.heap.size ⟨kd, na, nn, nas, pr⟩ a0 a1 a2 c0 c1 c2 n w2 ∧ OutV (ofL s ex) xa xl xc xe w2) := ⟨H1.out.1.trans (hb2.mono H1.out.1.size), H1.out.2.below hb2, hvx⟩
  clear hb2 hvx hout q0 q1 q2 q3 q4 q5 OF1 H1
  have ON1 : Hid (Calls Try.prog 11 #[.int .i64 2, .agg #[.int .i64 kd, .string na, .slice a0 nn.length c0, .slice a1 nas.length c1, .string pr, .slice a2 n c2], .slice aa la.length ac] w2 fun e w' => Below w2.heap.size w2 w' ∧ ∃ vs', e = .returned (aggOf vs') ∧ LiesS w'.heap.size w' (onS 2 s la) vs') :=
    on_any B 2 aa ac w2 s _ la (by decide) (HS.out.1.old HS.out.2.2.2 H2.out.1) (HS.out.2.2.1.old HS.out.2.2.2 H2.out.1) (Nat.le_trans HS.out.2.2.2 H2.out.1.size)
  obtain ⟨q0, q1, q2, q3, q4, q5⟩ := (⟨H2.out.2.1.q0, H2.out.2.1.q1, H2.out.2.1.q2, H2.out.2.1.q3, H2.out.2.1.q4, H2.out.2.1.q5⟩ : _ ∧ _ ∧ _ ∧ _ ∧ _ ∧ _)
  simp only at q0 q1 q2 q3 q4 q5
  go_wp2_with fail
  refine ON1.out.mono ?_
  rintro e w3 ⟨hb3, vs1, rfl, hS1⟩
  have H3 : Hid (Below w.heap.size w w3 ∧ Box w.heap.size ⟨kd, na, nn, nas, pr⟩ a0 a1 a2 c0 c1 c2 n w3 ∧ OutV (ofL s ex) xa xl xc xe w3 ∧ LiesS w3.heap.size w3 (onS 2 s la) vs1) := ⟨H2.out.1.trans (hb3.mono H2.out.1.size), H2.out.2.1.below hb3, H2.out.2.2.after hb3, hS1⟩
  clear hb3 hS1 q0 q1 q2 q3 q4 q5 ON1 H2
  have OF2 : Hid (Calls Try.prog 10 #[aggOf vs1, .slice ea ex.length ec] w3 (OutO (ofL (onS 2 s la) ex) w3)) :=
    Of_any w3.heap.size _ vs1 ex ea ec w3 H3.out.2.2.2 ((HS.out.2.1.old HS.out.2.2.2 H3.out.1).stay (Old.refl _ _) (Nat.le_trans HS.out.2.2.2 H3.out.1.size)) (Nat.le_refl _)
  go_wp2_with fail
  refine OF2.out.mono ?_
  intro e w4 hout
  obtain ⟨hb4, ya, yl, yc, ye, rfl, hvy⟩ := hout.val
  have H4 : Hid (Below w.heap.size w w4 ∧ Box w.heap.size ⟨kd, na, nn, nas, pr⟩ a0 a1 a2 c0 c1 c2 n w4 ∧ OutV (ofL s ex) xa xl xc xe w4 ∧ OutV (ofL (onS 2 s la) ex) ya yl yc ye w4) := ⟨H3.out.1.trans (hb4.mono H3.out.1.size), H3.out.2.1.below hb4, H3.out.2.2.1.after hb4, hvy⟩
  clear hb4 hvy hout OF2 H3
  have ON2 : Hid (Calls Try.prog 11 #[.int .i64 3, .agg #[.int .i64 kd, .string na, .slice a0 nn.length c0, .slice a1 nas.length c1, .string pr, .slice a2 n c2], .slice aa la.length ac] w4 fun e w' => Below w4.heap.size w4 w' ∧ ∃ vs', e = .returned (aggOf vs') ∧ LiesS w'.heap.size w' (onS 3 s la) vs') :=
    on_any B 3 aa ac w4 s _ la (by decide) (HS.out.1.old HS.out.2.2.2 H4.out.1) (HS.out.2.2.1.old HS.out.2.2.2 H4.out.1) (Nat.le_trans HS.out.2.2.2 H4.out.1.size)
  obtain ⟨q0, q1, q2, q3, q4, q5⟩ := (⟨H4.out.2.1.q0, H4.out.2.1.q1, H4.out.2.1.q2, H4.out.2.1.q3, H4.out.2.1.q4, H4.out.2.1.q5⟩ : _ ∧ _ ∧ _ ∧ _ ∧ _ ∧ _)
  simp only at q0 q1 q2 q3 q4 q5
  go_wp2_with fail
  refine ON2.out.mono ?_
  rintro e w5 ⟨hb5, vs2, rfl, hS2⟩
  have H5 : Hid (Below w.heap.size w w5 ∧ OutV (ofL s ex) xa xl xc xe w5 ∧ OutV (ofL (onS 2 s la) ex) ya yl yc ye w5 ∧ LiesS w5.heap.size w5 (onS 3 s la) vs2) := ⟨H4.out.1.trans (hb5.mono H4.out.1.size), H4.out.2.2.1.after hb5, H4.out.2.2.2.after hb5, hS2⟩
  clear hb5 hS2 q0 q1 q2 q3 q4 q5 ON2 H4
  have OF3 : Hid (Calls Try.prog 10 #[aggOf vs2, .slice ea ex.length ec] w5 (OutO (ofL (onS 3 s la) ex) w5)) :=
    Of_any w5.heap.size _ vs2 ex ea ec w5 H5.out.2.2.2 ((HS.out.2.1.old HS.out.2.2.2 H5.out.1).stay (Old.refl _ _) (Nat.le_trans HS.out.2.2.2 H5.out.1.size)) (Nat.le_refl _)
  go_wp2_with fail
  refine OF3.out.mono ?_
  intro e w6 hout
  obtain ⟨hb6, za, zl, zc, ze, rfl, hvz⟩ := hout.val
  have H6 : Hid (Below w.heap.size w w6) := H5.out.1.trans (hb6.mono H5.out.1.size)
  have hvx := H5.out.2.1.after hb6
  have hvy := H5.out.2.2.1.after hb6
  clear hb6 hout OF3 H5 HS
  by_cases hz : ye = 0 ∧ ze = 0 ∧ xe = 0
  · obtain ⟨rfl, rfl, rfl⟩ := hz
    obtain ⟨xs, hrx, rfl, hpx⟩ := hvx.ok rfl
    obtain ⟨ys, hry, rfl, hpy⟩ := hvy.ok rfl
    obtain ⟨zs, hrz, rfl, hpz⟩ := hvz.ok rfl
    have HSM : Hid (srt (·.1) (ys ++ zs) = xs) := parted_same hrx hry hrz
    have hly : ys.length ≤ 200 := Nat.le_trans (from_good hry).2.few (wex_ok (ofL_ok hry).2.1).1
    have hlz : zs.length ≤ 200 := Nat.le_trans (from_good hrz).2.few (wex_ok (ofL_ok hrz).2.1).1
    have HP : Hid (Prs w6.heap.size w6 xa xs ∧ Prs w6.heap.size w6 ya ys ∧ Prs w6.heap.size w6 za zs) := ⟨hpx, hpy, hpz⟩
    clear hvx hvy hvz hrx hry hrz hpx hpy hpz
    have hb7 : Below w6.heap.size w6 (w6.alloc (.cells #[] 38)) := (Below.refl _ _).alloc (Nat.le_refl _) _
    have hrow0 : RowP w6.heap.size (.slice (some ⟨w6.heap.size, 0, none⟩) 0 0) [] (w6.alloc (.cells #[] 38)) := RowP.lit (Nat.le_refl _)
    have H7 : Hid (Below w6.heap.size w6 (w6.alloc (.cells #[] 38)) ∧ RowP w6.heap.size (.slice (some ⟨w6.heap.size, 0, none⟩) 0 0) [] (w6.alloc (.cells #[] 38)) ∧ Src (w6.alloc (.cells #[] 38)) ya ys.length (flatP ys)) := ⟨hb7, hrow0, (HP.out.2.1.after (Nat.le_refl _) hb7).src⟩
    clear hb7 hrow0
    go_wp2_with (at_builtin; refine wpList_joinP rfl _ _ rfl w6.heap.size _ [] rfl H7.out.2.1 ya ys.length yc rfl ys rfl H7.out.2.2 H7.out.1.size (by simp; omega) ?_)
    intro at1 cap1 w8 hr8 hb8
    have hb68 : Below w6.heap.size w6 w8 := H7.out.1.trans hb8
    have H8 : Hid (Below w6.heap.size w6 w8 ∧ RowP w6.heap.size (.slice at1 ys.length cap1) ys w8 ∧ Src w8 za zs.length (flatP zs)) := ⟨hb68, by simpa using hr8, (HP.out.2.2.after (Nat.le_refl _) hb68).src⟩
    clear hr8 hb8 hb68 H7
    try simp only [List.length_nil, Nat.zero_add]
    go_wp2_with (at_builtin; refine wpList_joinP rfl _ _ rfl w6.heap.size _ ys rfl H8.out.2.1 za zs.length zc rfl zs rfl H8.out.2.2 H8.out.1.size (by omega) ?_)
    intro at2 cap2 w9 hr9 hb9
    have hb69 : Below w6.heap.size w6 w9 := H8.out.1.trans hb9
    obtain ⟨at3, cap3, hv3, hp3⟩ := hr9.lie (by simp; omega)
    obtain ⟨rfl, hcc⟩ : at2 = at3 ∧ cap2 = cap3 := by simpa using hv3
    have SR : Hid (Calls Try.prog 13 #[.slice at2 (ys.length + zs.length) cap2] w9 fun e w' => ∃ v, e = .returned v ∧ Below w9.heap.size w9 w' ∧ RowP w9.heap.size v xs w') := by
      have := Sort_any w9.heap.size (ys ++ zs) at2 cap2 w9 hp3 (Nat.le_refl _) (by simp; omega)
      rw [HSM.out, List.length_append] at this
      exact this
    have H9 : Hid (Below w.heap.size w w9 ∧ Prs w9.heap.size w9 xa xs) := ⟨H6.out.trans (hb69.mono H6.out.size), HP.out.1.after (Nat.le_refl _) hb69⟩
    clear hr9 hb9 hb69 hv3 hp3 hcc H8
    go_wp2_with fail
    refine SR.out.mono ?_
    rintro e w10 ⟨v, rfl, hb10, hr10⟩
    obtain ⟨va, vc, hvv, hpv⟩ := hr10.lie (by have := H9.out.2.1; omega)
    subst hvv
    have SM : Hid (Calls Try.prog 12 #[.slice xa xs.length xc, .slice va xs.length vc] w10 fun e w' => e = .returned (.bool true) ∧ Below w10.heap.size w10 w') := SameP_yes w10.heap.size xs xa va xc vc w10 (H9.out.2.after (Nat.le_refl _) hb10) hpv
    have H10 : Hid (Below w.heap.size w w10) := H9.out.1.trans (hb10.mono H9.out.1.size)
    clear hb10 hr10 hpv SR
    go_wp2_with fail
    refine SM.out.mono ?_
    rintro e w11 ⟨rfl, hb11⟩
    have H11 : Hid (Below w.heap.size w w11) := H10.out.trans (hb11.mono H10.out.size)
    clear hb11
    go_wp2_with fail
    go_ret
    exact ⟨rfl, H11.out⟩
  · have herr : xe ≠ 0 → ye = ze := fun hx => by
      rw [hvy.err, hvz.err]
      exact parted_err (by rw [← hvx.err]; exact hx)
    clear hvx hvy hvz
    by_cases g1 : xe = 0
    · subst g1
      clear herr
      by_cases g2 : ye = 0
      · subst g2
        have g3 : ¬ ze = 0 := fun h => hz ⟨rfl, h, rfl⟩
        have g4 : ¬ (0 : Int) = ze := fun h => g3 h.symm
        clear hz
        go_wp2_with fail
        go_ret
        exact ⟨rfl, H6.out⟩
      · clear hz
        by_cases g3 : ye = ze
        · subst g3
          go_wp2_with fail
          go_ret
          exact ⟨rfl, H6.out⟩
        · go_wp2_with fail
          go_ret
          exact ⟨rfl, H6.out⟩
    · have hyz := herr g1
      subst hyz
      clear herr hz
      by_cases g2 : ye = 0
      · subst g2
        go_wp2_with fail
        go_ret
        exact ⟨rfl, H6.out⟩
      · go_wp2_with fail
        go_ret
        exact ⟨rfl, H6.out⟩
end
end Go.Proofs.Ytgpcbehohkhoaab
