/- The law NamesOnly, walked. -/
import Derived.Test.YtgpcbehohkhoaabXa
namespace Go.Proofs.Ytgpcbehohkhoaab
set_option linter.unusedVariables false
set_option linter.unusedSimpArgs false
open Go.RowKit

theorem Strs.old {B : Nat} {w w' : World} {a : Option Addr} {l : List ByteArray} (h : Strs B w a l) (hB : B ≤ w.heap.size) (hb : Below w.heap.size w w') : Strs B w' a l :=
  h.stay (fun k hk => hb.block k (Nat.lt_of_lt_of_le hk hB)) (Nat.le_refl _)
theorem Prs.after {B : Nat} {w w' : World} {a : Option Addr} {ps : List Pr} (h : Prs B w a ps) (hB : B ≤ w.heap.size) (hb : Below w.heap.size w w') : Prs w'.heap.size w' a ps :=
  h.old (fun k hk => hb.block k (Nat.lt_of_lt_of_le hk hB)) (Nat.le_trans hB hb.size)

theorem beq0 {x : Int} (h : x ≠ 0) : (x == 0) = false := by simpa using h

section
variable (B : Nat) (s : St) (kd : Int) (na : ByteArray) (nn nas : List ByteArray) (pr : ByteArray) (a0 a1 a2 : Option Addr) (c0 c1 c2 n : Nat) (ex la lb : List ByteArray) (ea aa ab : Option Addr) (ec ac bc : Nat) (w : World)

set_option maxRecDepth 100000 in
set_option maxHeartbeats 6400000 in
theorem NamesOnly_walk (h : LiesS B w s (setV ⟨kd, na, nn, nas, pr⟩ a0 a1 a2 c0 c1 c2 n)) (he : Strs B w ea ex) (ha : Strs B w aa la) (hb : Strs B w ab lb) (hB : B ≤ w.heap.size) :
    Calls Try.prog 8 #[.agg #[.int .i64 kd, .string na, .slice a0 nn.length c0, .slice a1 nas.length c1, .string pr, .slice a2 n c2], .slice ea ex.length ec, .slice aa la.length ac, .slice ab lb.length bc] w fun e w' => e = .returned (.bool true) ∧ Below w.heap.size w w' := by
  have HS : Hid (LiesS B w s (setV ⟨kd, na, nn, nas, pr⟩ a0 a1 a2 c0 c1 c2 n) ∧ Strs B w ea ex ∧ Strs B w aa la ∧ Strs B w ab lb ∧ B ≤ w.heap.size) := ⟨h, he, ha, hb, hB⟩
  clear h he ha hb hB
  have HBX : Hid (Box w.heap.size ⟨kd, na, nn, nas, pr⟩ a0 a1 a2 c0 c1 c2 n (w.alloc (.cells #[.int .i64 kd, .string na, .slice a0 nn.length c0, .slice a1 nas.length c1, .string pr, .slice a2 n c2] 25))) := Box.made ⟨kd, na, nn, nas, pr⟩ a0 a1 a2 c0 c1 c2 n w
  go_enter Try.func8, Try.ntmps8
  go_wp2_with fail
  refine (alive_any _).mono ?_
  rintro e w1 ⟨rfl, hb1⟩
  have H1 : Hid (Below w.heap.size w w1 ∧ Box w.heap.size ⟨kd, na, nn, nas, pr⟩ a0 a1 a2 c0 c1 c2 n w1) := ⟨((Below.refl _ _).alloc (Nat.le_refl _) _).trans (hb1.mono (by simp)), HBX.out.below hb1⟩
  have ON1 : Hid (Calls Try.prog 11 #[.int .i64 2, .agg #[.int .i64 kd, .string na, .slice a0 nn.length c0, .slice a1 nas.length c1, .string pr, .slice a2 n c2], .slice aa la.length ac] w1 fun e w' => Below w1.heap.size w1 w' ∧ ∃ vs', e = .returned (aggOf vs') ∧ LiesS w'.heap.size w' (onS 2 s la) vs') :=
    on_any B 2 aa ac w1 s _ la (by decide) (HS.out.1.old HS.out.2.2.2.2 H1.out.1) (HS.out.2.2.1.old HS.out.2.2.2.2 H1.out.1) (Nat.le_trans HS.out.2.2.2.2 H1.out.1.size)
  obtain ⟨q0, q1, q2, q3, q4, q5⟩ := (⟨H1.out.2.q0, H1.out.2.q1, H1.out.2.q2, H1.out.2.q3, H1.out.2.q4, H1.out.2.q5⟩ : _ ∧ _ ∧ _ ∧ _ ∧ _ ∧ _)
  simp only at q0 q1 q2 q3 q4 q5
  clear hb1 HBX
  go_wp2_with fail
  refine ON1.out.mono ?_
  rintro e w2 ⟨hb2, vs1, rfl, hS1⟩
  have H2 : Hid (Below w.heap.size w w2 ∧ Box w.heap.size ⟨kd, na, nn, nas, pr⟩ a0 a1 a2 c0 c1 c2 n w2 ∧ LiesS w2.heap.size w2 (onS 2 s la) vs1) := ⟨H1.out.1.trans (hb2.mono H1.out.1.size), H1.out.2.below hb2, hS1⟩
  clear hb2 hS1 q0 q1 q2 q3 q4 q5 ON1 H1
  have ON2 : Hid (Calls Try.prog 11 #[.int .i64 2, aggOf vs1, .slice ab lb.length bc] w2 fun e w' => Below w2.heap.size w2 w' ∧ ∃ vs', e = .returned (aggOf vs') ∧ LiesS w'.heap.size w' (onS 2 (onS 2 s la) lb) vs') :=
    on_any w2.heap.size 2 ab bc w2 (onS 2 s la) vs1 lb (by decide) H2.out.2.2 ((HS.out.2.2.2.1.old HS.out.2.2.2.2 H2.out.1).stay (Old.refl _ _) (Nat.le_trans HS.out.2.2.2.2 H2.out.1.size)) (Nat.le_refl _)
  go_wp2_with fail
  refine ON2.out.mono ?_
  rintro e w3 ⟨hb3, vs2, rfl, hS2⟩
  have H3 : Hid (Below w.heap.size w w3 ∧ Box w.heap.size ⟨kd, na, nn, nas, pr⟩ a0 a1 a2 c0 c1 c2 n w3 ∧ LiesS w3.heap.size w3 (onS 2 (onS 2 s la) lb) vs2) := ⟨H2.out.1.trans (hb3.mono H2.out.1.size), H2.out.2.1.below hb3, hS2⟩
  clear hb3 hS2 ON2 H2
  have OF1 : Hid (Calls Try.prog 10 #[aggOf vs2, .slice ea ex.length ec] w3 (OutO (ofL (onS 2 (onS 2 s la) lb) ex) w3)) :=
    Of_any w3.heap.size _ vs2 ex ea ec w3 H3.out.2.2 ((HS.out.2.1.old HS.out.2.2.2.2 H3.out.1).stay (Old.refl _ _) (Nat.le_trans HS.out.2.2.2.2 H3.out.1.size)) (Nat.le_refl _)
  go_wp2_with fail
  refine OF1.out.mono ?_
  intro e w4 hout
  cases hr : ofL (onS 2 (onS 2 s la) lb) ex with
  | inl x =>
    rw [hr] at hout
    obtain ⟨hb4, rfl⟩ := hout
    have hx := beq0 (ofL_ne hr)
    have H4 : Hid (Below w.heap.size w w4) := H3.out.1.trans (hb4.mono H3.out.1.size)
    clear hb4 hr OF1 H3
    go_wp2_with fail
    go_ret
    exact ⟨rfl, H4.out⟩
  | inr xs =>
    rw [hr] at hout
    obtain ⟨hb4, xa, xc, rfl, hpx⟩ := hout
    obtain ⟨hy, hz⟩ := only_only hr
    have HYZ : Hid (ofL (onS 2 s lb) ex = .inr xs ∧ ofL (onS 2 s []) ex = .inr []) := ⟨hy, hz⟩
    have H4 : Hid (Below w.heap.size w w4 ∧ Box w.heap.size ⟨kd, na, nn, nas, pr⟩ a0 a1 a2 c0 c1 c2 n w4 ∧ Prs w4.heap.size w4 xa xs) := ⟨H3.out.1.trans (hb4.mono H3.out.1.size), H3.out.2.1.below hb4, hpx⟩
    clear hb4 hpx hy hz hr OF1 H3
    have ON3 : Hid (Calls Try.prog 11 #[.int .i64 2, .agg #[.int .i64 kd, .string na, .slice a0 nn.length c0, .slice a1 nas.length c1, .string pr, .slice a2 n c2], .slice ab lb.length bc] w4 fun e w' => Below w4.heap.size w4 w' ∧ ∃ vs', e = .returned (aggOf vs') ∧ LiesS w'.heap.size w' (onS 2 s lb) vs') :=
      on_any B 2 ab bc w4 s _ lb (by decide) (HS.out.1.old HS.out.2.2.2.2 H4.out.1) (HS.out.2.2.2.1.old HS.out.2.2.2.2 H4.out.1) (Nat.le_trans HS.out.2.2.2.2 H4.out.1.size)
    obtain ⟨q0, q1, q2, q3, q4, q5⟩ := (⟨H4.out.2.1.q0, H4.out.2.1.q1, H4.out.2.1.q2, H4.out.2.1.q3, H4.out.2.1.q4, H4.out.2.1.q5⟩ : _ ∧ _ ∧ _ ∧ _ ∧ _ ∧ _)
    simp only at q0 q1 q2 q3 q4 q5
    go_wp2_with fail
    refine ON3.out.mono ?_
    rintro e w5 ⟨hb5, vs3, rfl, hS3⟩
    have H5 : Hid (Below w.heap.size w w5 ∧ Box w.heap.size ⟨kd, na, nn, nas, pr⟩ a0 a1 a2 c0 c1 c2 n w5 ∧ Prs w5.heap.size w5 xa xs ∧ LiesS w5.heap.size w5 (onS 2 s lb) vs3) := ⟨H4.out.1.trans (hb5.mono H4.out.1.size), H4.out.2.1.below hb5, H4.out.2.2.after (Nat.le_refl _) hb5, hS3⟩
    clear hb5 hS3 ON3 H4 q0 q1 q2 q3 q4 q5
    have OF2 : Hid (Calls Try.prog 10 #[aggOf vs3, .slice ea ex.length ec] w5 (OutO (.inr xs) w5)) := by
      have := Of_any w5.heap.size _ vs3 ex ea ec w5 H5.out.2.2.2 ((HS.out.2.1.old HS.out.2.2.2.2 H5.out.1).stay (Old.refl _ _) (Nat.le_trans HS.out.2.2.2.2 H5.out.1.size)) (Nat.le_refl _)
      rwa [HYZ.out.1] at this
    go_wp2_with fail
    refine OF2.out.mono ?_
    rintro e w6 ⟨hb6, ya, yc, rfl, hpy⟩
    have H6 : Hid (Below w.heap.size w w6 ∧ Box w.heap.size ⟨kd, na, nn, nas, pr⟩ a0 a1 a2 c0 c1 c2 n w6 ∧ Prs w6.heap.size w6 xa xs ∧ Prs w6.heap.size w6 ya xs) := ⟨H5.out.1.trans (hb6.mono H5.out.1.size), H5.out.2.1.below hb6, H5.out.2.2.1.after (Nat.le_refl _) hb6, hpy⟩
    clear hb6 hpy OF2 H5
    have ON4 : Hid (Calls Try.prog 11 #[.int .i64 2, .agg #[.int .i64 kd, .string na, .slice a0 nn.length c0, .slice a1 nas.length c1, .string pr, .slice a2 n c2], .slice none 0 0] w6 fun e w' => Below w6.heap.size w6 w' ∧ ∃ vs', e = .returned (aggOf vs') ∧ LiesS w'.heap.size w' (onS 2 s []) vs') :=
      on_any B 2 none 0 w6 s _ [] (by decide) (HS.out.1.old HS.out.2.2.2.2 H6.out.1) (Strs.nil _ _ _) (Nat.le_trans HS.out.2.2.2.2 H6.out.1.size)
    obtain ⟨q0, q1, q2, q3, q4, q5⟩ := (⟨H6.out.2.1.q0, H6.out.2.1.q1, H6.out.2.1.q2, H6.out.2.1.q3, H6.out.2.1.q4, H6.out.2.1.q5⟩ : _ ∧ _ ∧ _ ∧ _ ∧ _ ∧ _)
    simp only at q0 q1 q2 q3 q4 q5
    go_wp2_with fail
    refine ON4.out.mono ?_
    rintro e w7 ⟨hb7, vs4, rfl, hS4⟩
    have H7 : Hid (Below w.heap.size w w7 ∧ Prs w7.heap.size w7 xa xs ∧ Prs w7.heap.size w7 ya xs ∧ LiesS w7.heap.size w7 (onS 2 s []) vs4) := ⟨H6.out.1.trans (hb7.mono H6.out.1.size), H6.out.2.2.1.after (Nat.le_refl _) hb7, H6.out.2.2.2.after (Nat.le_refl _) hb7, hS4⟩
    clear hb7 hS4 ON4 H6 q0 q1 q2 q3 q4 q5
    have OF3 : Hid (Calls Try.prog 10 #[aggOf vs4, .slice ea ex.length ec] w7 (OutO (.inr []) w7)) := by
      have := Of_any w7.heap.size _ vs4 ex ea ec w7 H7.out.2.2.2 ((HS.out.2.1.old HS.out.2.2.2.2 H7.out.1).stay (Old.refl _ _) (Nat.le_trans HS.out.2.2.2.2 H7.out.1.size)) (Nat.le_refl _)
      rwa [HYZ.out.2] at this
    go_wp2_with fail
    refine OF3.out.mono ?_
    rintro e w8 ⟨hb8, za, zc, rfl, hpz⟩
    have H8 : Hid (Below w.heap.size w w8) := H7.out.1.trans (hb8.mono H7.out.1.size)
    have SM : Hid (Calls Try.prog 12 #[.slice xa xs.length xc, .slice ya xs.length yc] w8 fun e w' => e = .returned (.bool true) ∧ Below w8.heap.size w8 w') := SameP_yes w8.heap.size xs xa ya xc yc w8 (H7.out.2.1.after (Nat.le_refl _) hb8) (H7.out.2.2.1.after (Nat.le_refl _) hb8)
    clear hb8 hpz OF3 H7
    go_wp2_with fail
    refine SM.out.mono ?_
    rintro e w9 ⟨rfl, hb9⟩
    have H9 : Hid (Below w.heap.size w w9) := H8.out.trans (hb9.mono H8.out.size)
    clear hb9
    go_wp2_with fail
    go_ret
    exact ⟨rfl, H9.out⟩
end
end Go.Proofs.Ytgpcbehohkhoaab
