/- The law NamesPrefix, walked. -/
import Derived.Test.YtgpcbehohkhoaabXc
namespace Go.Proofs.Ytgpcbehohkhoaab
set_option linter.unusedVariables false
set_option linter.unusedSimpArgs false
open Go.RowKit

section
variable (B : Nat) (kd : Int) (na : ByteArray) (nn nas : List ByteArray) (pr : ByteArray) (e0 e1 e2 : Option Addr) (f0 f1 f2 m : Nat) (x : ByteArray) (w : World)
set_option maxRecDepth 100000 in
set_option maxHeartbeats 1600000 in
theorem pre_walk :
    Calls Try.prog 15 #[.agg #[.int .i64 kd, .string na, .slice e0 nn.length f0, .slice e1 nas.length f1, .string pr, .slice e2 m f2], .string x] w fun e w' =>
      ∃ nb, w.heap.size ≤ nb ∧ nb < w'.heap.size ∧ e = .returned (.agg #[.int .i64 4, .string ⟨#[]⟩, .slice none 0 0, .slice none 0 0, .string x, .slice (some ⟨nb, 0, none⟩) 1 1]) ∧ Below w.heap.size w w' ∧
        ∀ (i : Nat) (v : Value), (setV ⟨kd, na, nn, nas, pr⟩ e0 e1 e2 f0 f1 f2 m)[i]? = some v → w'.cell? ⟨nb, i, none⟩ = some v := by
  go_enter Try.func15, Try.ntmps15
  go_wp2_with fail
  refine bodyPost_ret (v := .agg #[.int .i64 4, .string ⟨#[]⟩, .slice none 0 0, .slice none 0 0, .string x, .slice (some ⟨w.heap.size + 2, 0, none⟩) 1 1]) (by simp [results, Try.results15, go_sem]) rfl ?_
  refine ⟨w.heap.size + 2, by omega, by simp, rfl, ?_, ?_⟩
  · exact (((Below.refl _ _).alloc (Nat.le_refl _) _).alloc (by simp) _).alloc (by simp; omega) _
  · intro i v hv
    exact six_cells _ (by simp) _ _ _ _ _ _ i v hv

theorem pre_any (s : St) (vs : List Value) (hx : x.size ≤ maxLen) (h : LiesS B w s vs) (hB : B ≤ w.heap.size) :
    Calls Try.prog 15 #[aggOf vs, .string x] w fun e w' => Below w.heap.size w w' ∧ ∃ vs', e = .returned (aggOf vs') ∧ LiesS w'.heap.size w' (preS x s) vs' := by
  obtain ⟨e0, e1, e2, f0, f1, f2, rfl, hL, hn⟩ := h.cells
  refine (pre_walk s.ly.kind s.ly.name s.ly.names s.ly.asn s.ly.pre e0 e1 e2 f0 f1 f2 s.nk x w).mono ?_
  rintro e w' ⟨nb, hnb, hlt, rfl, hb, hc⟩
  have hold : Old B w w' := fun j hj => hb.block j (Nat.lt_of_lt_of_le hj hB)
  have hBw : B ≤ w'.heap.size := Nat.le_trans hB hb.size
  exact ⟨hb, _, rfl, LiesS.wrap h hold hBw hlt ⟨⟨by show (-9223372036854775808 : Int) ≤ 4; decide, by show (4 : Int) ≤ 9223372036854775807; decide⟩, Nat.zero_le _, hx, Strs.nil _ _ none, Strs.nil _ _ none⟩ hc⟩
end

theorem OutV.err {r : Sum Int (List Pr)} {a : Option Addr} {l c : Nat} {er : Int} {w : World} (h : OutV r a l c er w) : er = errOf r := by
  cases r with
  | inl x => exact h.1
  | inr qs => exact h.1
theorem OutV.ok {s : St} {ex : List ByteArray} {a : Option Addr} {l c : Nat} {er : Int} {w : World} (h : OutV (ofL s ex) a l c er w) (h0 : er = 0) : ∃ qs, ofL s ex = .inr qs ∧ l = qs.length ∧ Prs w.heap.size w a qs := by
  cases hr : ofL s ex with
  | inl x =>
    rw [hr] at h
    exact absurd (h.1.symm.trans h0) (ofL_ne hr)
  | inr qs =>
    rw [hr] at h
    exact ⟨qs, rfl, h.2.1, h.2.2⟩

theorem extract_pre (p t : ByteArray) : ((p ++ t).extract 0 p.size) = p := by
  apply ba_eq
  rw [ByteArray.data_extract, ByteArray.data_append]
  simp
  exact List.take_of_length_le (by rw [Array.length_toList]; exact Nat.le_refl _)

section
variable (B : Nat) (s : St) (kd : Int) (na : ByteArray) (nn nas : List ByteArray) (pr : ByteArray) (a0 a1 a2 : Option Addr) (c0 c1 c2 n : Nat) (ex : List ByteArray) (x y : ByteArray) (ea : Option Addr) (ec : Nat) (w : World)

set_option maxRecDepth 100000 in
set_option maxHeartbeats 6400000 in
theorem NamesPrefix_walk (h : LiesS B w s (setV ⟨kd, na, nn, nas, pr⟩ a0 a1 a2 c0 c1 c2 n)) (he : Strs B w ea ex) (hx : x.size ≤ maxLen) (hy : y.size ≤ maxLen) (hB : B ≤ w.heap.size) :
    Calls Try.prog 4 #[.agg #[.int .i64 kd, .string na, .slice a0 nn.length c0, .slice a1 nas.length c1, .string pr, .slice a2 n c2], .slice ea ex.length ec, .string x, .string y] w fun e w' => e = .returned (.bool true) ∧ Below w.heap.size w w' := by
  have HS : Hid (LiesS B w s (setV ⟨kd, na, nn, nas, pr⟩ a0 a1 a2 c0 c1 c2 n) ∧ Strs B w ea ex ∧ B ≤ w.heap.size) := ⟨h, he, hB⟩
  clear h he hB
  obtain ⟨dx, HDX⟩ : ∃ d, Hid (namedB x = d) := ⟨namedB x, (rfl : namedB x = namedB x)⟩
  obtain ⟨dy, HDY⟩ : ∃ d, Hid (namedB y = d) := ⟨namedB y, (rfl : namedB y = namedB y)⟩
  have NX : Hid (∀ w, Calls Try.prog 14 #[.string x] w fun e w' => e = .returned (.bool dx) ∧ Below w.heap.size w w') := fun w => by
    have := refNamed_any x hx w
    rwa [HDX.out] at this
  have NY : Hid (∀ w, Calls Try.prog 14 #[.string y] w fun e w' => e = .returned (.bool dy) ∧ Below w.heap.size w w') := fun w => by
    have := refNamed_any y hy w
    rwa [HDY.out] at this
  have HBX : Hid (Box w.heap.size ⟨kd, na, nn, nas, pr⟩ a0 a1 a2 c0 c1 c2 n (w.alloc (.cells #[.int .i64 kd, .string na, .slice a0 nn.length c0, .slice a1 nas.length c1, .string pr, .slice a2 n c2] 25))) := Box.made ⟨kd, na, nn, nas, pr⟩ a0 a1 a2 c0 c1 c2 n w
  go_enter Try.func4, Try.ntmps4
  go_wp2_with fail
  refine (alive_any _).mono ?_
  rintro e w1 ⟨rfl, hb1⟩
  have H1 : Hid (Below w.heap.size w w1 ∧ Box w.heap.size ⟨kd, na, nn, nas, pr⟩ a0 a1 a2 c0 c1 c2 n w1) := ⟨((Below.refl _ _).alloc (Nat.le_refl _) _).trans (hb1.mono (by simp)), HBX.out.below hb1⟩
  clear hb1 HBX
  go_wp2_with fail
  refine (NX.out _).mono ?_
  rintro e w2 ⟨rfl, hb2⟩
  have H2 : Hid (Below w.heap.size w w2 ∧ Box w.heap.size ⟨kd, na, nn, nas, pr⟩ a0 a1 a2 c0 c1 c2 n w2) := ⟨H1.out.1.trans (hb2.mono H1.out.1.size), H1.out.2.below hb2⟩
  clear hb2 H1 NX
  cases dx
  · go_wp2_with fail
    go_ret
    exact ⟨rfl, H2.out.1⟩
  · have hx20 := named_size HDX.out
    go_wp2_with fail
    refine (NY.out _).mono ?_
    rintro e w3 ⟨rfl, hb3⟩
    have H3 : Hid (Below w.heap.size w w3 ∧ Box w.heap.size ⟨kd, na, nn, nas, pr⟩ a0 a1 a2 c0 c1 c2 n w3) := ⟨H2.out.1.trans (hb3.mono H2.out.1.size), H2.out.2.below hb3⟩
    clear hb3 H2 NY
    cases dy
    · go_wp2_with fail
      go_ret
      exact ⟨rfl, H3.out.1⟩
    · have hy20 := named_size HDY.out
      have hxy : (x ++ y).size ≤ maxLen := by rw [ByteArray.size_append]; unfold maxLen; omega
      obtain ⟨dz, HDZ⟩ : ∃ d, Hid (namedB (x ++ y) = d) := ⟨namedB (x ++ y), (rfl : namedB (x ++ y) = namedB (x ++ y))⟩
      have NZ : Hid (∀ w, Calls Try.prog 14 #[.string (x ++ y)] w fun e w' => e = .returned (.bool dz) ∧ Below w.heap.size w w') := fun w => by
        have := refNamed_any (x ++ y) hxy w
        rwa [HDZ.out] at this
      have HXY : Hid ((x ++ y).size ≤ maxLen) := hxy
      clear hxy
      go_wp2_with fail
      refine (NZ.out _).mono ?_
      rintro e w4 ⟨rfl, hb4⟩
      have H4 : Hid (Below w.heap.size w w4 ∧ Box w.heap.size ⟨kd, na, nn, nas, pr⟩ a0 a1 a2 c0 c1 c2 n w4) := ⟨H3.out.1.trans (hb4.mono H3.out.1.size), H3.out.2.below hb4⟩
      clear hb4 H3 NZ
      cases dz
      · go_wp2_with fail
        go_ret
        exact ⟨rfl, H4.out.1⟩
      · have P1 : Hid (Calls Try.prog 15 #[.agg #[.int .i64 kd, .string na, .slice a0 nn.length c0, .slice a1 nas.length c1, .string pr, .slice a2 n c2], .string y] w4 fun e w' => Below w4.heap.size w4 w' ∧ ∃ vs', e = .returned (aggOf vs') ∧ LiesS w'.heap.size w' (preS y s) vs') :=
          pre_any B y w4 s _ hy (HS.out.1.old HS.out.2.2 H4.out.1) (Nat.le_trans HS.out.2.2 H4.out.1.size)
        obtain ⟨q0, q1, q2, q3, q4, q5⟩ := (⟨H4.out.2.q0, H4.out.2.q1, H4.out.2.q2, H4.out.2.q3, H4.out.2.q4, H4.out.2.q5⟩ : _ ∧ _ ∧ _ ∧ _ ∧ _ ∧ _)
        simp only at q0 q1 q2 q3 q4 q5
        go_wp2_with fail
        refine P1.out.mono ?_
        rintro e w5 ⟨hb5, vs1, rfl, hS1⟩
        have H5 : Hid (Below w.heap.size w w5 ∧ Box w.heap.size ⟨kd, na, nn, nas, pr⟩ a0 a1 a2 c0 c1 c2 n w5 ∧ LiesS w5.heap.size w5 (preS y s) vs1) := ⟨H4.out.1.trans (hb5.mono H4.out.1.size), H4.out.2.below hb5, hS1⟩
        clear hb5 hS1 P1 H4 q0 q1 q2 q3 q4 q5
        have P2 : Hid (Calls Try.prog 15 #[aggOf vs1, .string x] w5 fun e w' => Below w5.heap.size w5 w' ∧ ∃ vs', e = .returned (aggOf vs') ∧ LiesS w'.heap.size w' (preS x (preS y s)) vs') :=
          pre_any w5.heap.size x w5 (preS y s) vs1 hx H5.out.2.2 (Nat.le_refl _)
        go_wp2_with fail
        refine P2.out.mono ?_
        rintro e w6 ⟨hb6, vs2, rfl, hS2⟩
        have H6 : Hid (Below w.heap.size w w6 ∧ Box w.heap.size ⟨kd, na, nn, nas, pr⟩ a0 a1 a2 c0 c1 c2 n w6 ∧ LiesS w6.heap.size w6 (preS x (preS y s)) vs2) := ⟨H5.out.1.trans (hb6.mono H5.out.1.size), H5.out.2.1.below hb6, hS2⟩
        clear hb6 hS2 P2 H5
        have OF1 : Hid (Calls Try.prog 10 #[aggOf vs2, .slice ea ex.length ec] w6 (OutO (ofL (preS x (preS y s)) ex) w6)) :=
          Of_any w6.heap.size _ vs2 ex ea ec w6 H6.out.2.2 ((HS.out.2.1.old HS.out.2.2 H6.out.1).stay (Old.refl _ _) (Nat.le_trans HS.out.2.2 H6.out.1.size)) (Nat.le_refl _)
        go_wp2_with fail
        refine OF1.out.mono ?_
        intro e w7 hout
        obtain ⟨hb7, xa, xl, xc, xe, rfl, hvx⟩ := hout.val
        have H7 : Hid (Below w.heap.size w w7 ∧ Box w.heap.size ⟨kd, na, nn, nas, pr⟩ a0 a1 a2 c0 c1 c2 n w7 ∧ OutV (ofL (preS x (preS y s)) ex) xa xl xc xe w7) := ⟨H6.out.1.trans (hb7.mono H6.out.1.size), H6.out.2.1.below hb7, hvx⟩
        clear hb7 hvx hout OF1 H6
        have P3 : Hid (Calls Try.prog 15 #[.agg #[.int .i64 kd, .string na, .slice a0 nn.length c0, .slice a1 nas.length c1, .string pr, .slice a2 n c2], .string (x ++ y)] w7 fun e w' => Below w7.heap.size w7 w' ∧ ∃ vs', e = .returned (aggOf vs') ∧ LiesS w'.heap.size w' (preS (x ++ y) s) vs') :=
          pre_any B (x ++ y) w7 s _ HXY.out (HS.out.1.old HS.out.2.2 H7.out.1) (Nat.le_trans HS.out.2.2 H7.out.1.size)
        obtain ⟨q0, q1, q2, q3, q4, q5⟩ := (⟨H7.out.2.1.q0, H7.out.2.1.q1, H7.out.2.1.q2, H7.out.2.1.q3, H7.out.2.1.q4, H7.out.2.1.q5⟩ : _ ∧ _ ∧ _ ∧ _ ∧ _ ∧ _)
        simp only at q0 q1 q2 q3 q4 q5
        go_wp2_with fail
        refine P3.out.mono ?_
        rintro e w8 ⟨hb8, vs3, rfl, hS3⟩
        have H8 : Hid (Below w.heap.size w w8 ∧ OutV (ofL (preS x (preS y s)) ex) xa xl xc xe w8 ∧ LiesS w8.heap.size w8 (preS (x ++ y) s) vs3) := ⟨H7.out.1.trans (hb8.mono H7.out.1.size), H7.out.2.2.after hb8, hS3⟩
        clear hb8 hS3 P3 H7 q0 q1 q2 q3 q4 q5
        have OF2 : Hid (Calls Try.prog 10 #[aggOf vs3, .slice ea ex.length ec] w8 (OutO (ofL (preS (x ++ y) s) ex) w8)) :=
          Of_any w8.heap.size _ vs3 ex ea ec w8 H8.out.2.2 ((HS.out.2.1.old HS.out.2.2 H8.out.1).stay (Old.refl _ _) (Nat.le_trans HS.out.2.2 H8.out.1.size)) (Nat.le_refl _)
        go_wp2_with fail
        refine OF2.out.mono ?_
        intro e w9 hout
        obtain ⟨hb9, ya, yl, yc, ye, rfl, hvy⟩ := hout.val
        have H9 : Hid (Below w.heap.size w w9) := H8.out.1.trans (hb9.mono H8.out.1.size)
        have hvx := H8.out.2.1.after hb9
        clear hb9 hout OF2 H8 HS
        by_cases hz : xe = 0 ∧ ye = 0
        · obtain ⟨rfl, rfl⟩ := hz
          obtain ⟨xs, hrx, rfl, hpx⟩ := hvx.ok rfl
          obtain ⟨ys, hry, rfl, hpy⟩ := hvy.ok rfl
          obtain ⟨rfl, hall⟩ := prefix_same hrx hry
          have HALL : Hid (∀ p ∈ xs, ∃ t, p.1 = (x ++ y) ++ t) := hall
          have HP : Hid (Prs w9.heap.size w9 xa xs ∧ Prs w9.heap.size w9 ya xs ∧ ∀ p ∈ xs, p.1.size ≤ 20) := ⟨hpx, hpy, fun p hp => named_size ((from_good hrx).2.named p hp)⟩
          have hl := hpx.1
          clear hvx hvy hrx hry hpx hpy hall
          go_wp2_with fail
          go_loopw [75] (fun i wr => ∃ j : Nat, j ≤ xs.length ∧ i = .int .i64 j ∧ Below w9.heap.size w9 wr) (fun i _ => xs.length - (intOf i).toNat)
          case atStart => exact ⟨0, Nat.zero_le _, rfl, Below.refl _ _⟩
          case round =>
            obtain ⟨j, hj, rfl, hb⟩ := hrel
            have HBL : Hid (Below w9.heap.size w9 wr) := hb
            by_cases hlt : j < xs.length
            · obtain ⟨b, o, p, rfl, hbB, hs, hc0, hc1⟩ := HP.out.2.1.at hlt
              have k0 := (hb.cell (p := ⟨b, o + j * 2, none⟩) hbB).trans hc0
              have k1 := (hb.cell (p := ⟨b, o + j * 2 + 1, none⟩) hbB).trans hc1
              have hp20 := HP.out.2.2 p (List.mem_of_getElem? hs)
              obtain ⟨t, ht⟩ := HALL.out p (List.mem_of_getElem? hs)
              obtain ⟨p1, p2⟩ := p
              simp only at k0 k1 ht hp20
              have hps : (x ++ y).size ≤ p1.size := by simp only [ht, ByteArray.size_append]; omega
              have hex : (p1.extract 0 (x ++ y).size).toList = (x ++ y).toList := by rw [ht, extract_pre]
              rw [ByteArray.size_append] at hps hex
              have hbe : ((p1.extract 0 (x.size + y.size)).toList == (x ++ y).toList) = true := by rw [hex]; simp
              clear hc0 hc1 hs hb ht hex
              go_wp2_with fail
              go_roundw
              case rel => exact ⟨j + 1, by omega, by go_num, HBL.out.alloc HBL.out.size _⟩
              case measure => simp [intOf]; omega
            · obtain rfl : j = xs.length := by omega
              have SM : Hid (Calls Try.prog 12 #[.slice xa xs.length xc, .slice ya xs.length yc] wr fun e w' => e = .returned (.bool true) ∧ Below wr.heap.size wr w') := SameP_yes wr.heap.size xs xa ya xc yc wr (HP.out.1.after (Nat.le_refl _) hb) (HP.out.2.1.after (Nat.le_refl _) hb)
              clear hb
              go_wp2_with fail
              refine SM.out.mono ?_
              rintro e wz ⟨rfl, hbz⟩
              have HZ : Hid (Below w.heap.size w wz) := H9.out.trans ((HBL.out.mono H9.out.size).trans (hbz.mono (Nat.le_trans H9.out.size HBL.out.size)))
              clear hbz
              go_wp2_with fail
              go_ret
              exact ⟨rfl, HZ.out⟩
        · have herr := prefix_err (s := s) (ex := ex) HDX.out HDY.out HDZ.out (by
            rw [← hvx.err, ← hvy.err]
            by_cases h : xe = 0
            · exact Or.inr (fun h' => hz ⟨h, h'⟩)
            · exact Or.inl h)
          rw [← hvx.err, ← hvy.err] at herr
          clear hvx hvy
          by_cases g1 : xe = 0
          · have g2 : ¬ ye = 0 := fun h => hz ⟨g1, h⟩
            exfalso
            rcases herr with h | h | h
            · exact g2 (by omega)
            · omega
            · omega
          · clear hz
            by_cases g3 : xe = ye
            · subst g3
              clear herr
              go_wp2_with fail
              go_ret
              exact ⟨rfl, H9.out⟩
            · by_cases g4 : xe = 4
              · subst g4
                clear herr g1
                go_wp2_with fail
                go_ret
                exact ⟨rfl, H9.out⟩
              · have g5 : xe = 7 := by
                  rcases herr with h | h | h
                  · exact absurd h g3
                  · exact absurd h g4
                  · exact h
                subst g5
                clear herr g1 g4
                go_wp2_with fail
                go_ret
                exact ⟨rfl, H9.out⟩
end
end Go.Proofs.Ytgpcbehohkhoaab
