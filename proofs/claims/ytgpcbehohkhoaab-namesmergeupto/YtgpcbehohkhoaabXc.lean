/- The law NamesBack, walked: its closure; the document's Has. -/
import Derived.Test.YtgpcbehohkhoaabXb
namespace Go.Proofs.Ytgpcbehohkhoaab
set_option linter.unusedVariables false
set_option linter.unusedSimpArgs false
open Go.RowKit

theorem beqS_true {a b : ByteArray} (h : (a.toList == b.toList) = true) : a = b := by
  rw [ByteArray.toList_eq, ByteArray.toList_eq] at h
  exact ba_eq (by simpa using h)
theorem beqS_false {a b : ByteArray} (h : (a.toList == b.toList) = false) : a ≠ b := by
  intro e
  subst e
  simp at h
theorem beqS_self (a : ByteArray) : (a.toList == a.toList) = true := by simp

section
variable (B : Nat) (kd : Int) (na : ByteArray) (nn nas : List ByteArray) (pr : ByteArray) (e0 e1 e2 : Option Addr) (f0 f1 f2 m : Nat) (x y : ByteArray) (w : World)
set_option maxRecDepth 100000 in
set_option maxHeartbeats 1600000 in
theorem ren_walk :
    Calls Try.prog 16 #[.agg #[.int .i64 kd, .string na, .slice e0 nn.length f0, .slice e1 nas.length f1, .string pr, .slice e2 m f2], .string x, .string y] w fun e w' =>
      ∃ nb xb yb, w.heap.size ≤ nb ∧ nb < w'.heap.size ∧ xb < w'.heap.size ∧ yb < w'.heap.size ∧ e = .returned (.agg #[.int .i64 5, .string ⟨#[]⟩, .slice (some ⟨xb, 0, none⟩) 1 1, .slice (some ⟨yb, 0, none⟩) 1 1, .string ⟨#[]⟩, .slice (some ⟨nb, 0, none⟩) 1 1]) ∧ Below w.heap.size w w' ∧
        (∀ (i : Nat) (v : Value), (setV ⟨kd, na, nn, nas, pr⟩ e0 e1 e2 f0 f1 f2 m)[i]? = some v → w'.cell? ⟨nb, i, none⟩ = some v) ∧ w'.cell? ⟨xb, 0, none⟩ = some (.string x) ∧ w'.cell? ⟨yb, 0, none⟩ = some (.string y) := by
  go_enter Try.func16, Try.ntmps16
  go_wp2_with fail
  refine bodyPost_ret (v := .agg #[.int .i64 5, .string ⟨#[]⟩, .slice (some ⟨w.heap.size + 2, 0, none⟩) 1 1, .slice (some ⟨w.heap.size + 3, 0, none⟩) 1 1, .string ⟨#[]⟩, .slice (some ⟨w.heap.size + 4, 0, none⟩) 1 1]) (by simp [results, Try.results16, go_sem]) rfl ?_
  refine ⟨w.heap.size + 4, w.heap.size + 2, w.heap.size + 3, by omega, by simp, by simp, by simp, rfl, ?_, ?_, by simp [go_sem], by simp [go_sem]⟩
  · exact (((((Below.refl _ _).alloc (Nat.le_refl _) _).alloc (by simp) _).alloc (by simp; omega) _).alloc (by simp; omega) _).alloc (by simp; omega) _
  · intro i v hv
    exact six_cells _ (by simp) _ _ _ _ _ _ i v hv

theorem Strs.one {B : Nat} {w : World} {b : Nat} {s : ByteArray} (hb : b < B) (hs : s.size ≤ maxLen) (h : w.cell? ⟨b, 0, none⟩ = some (.string s)) : Strs B w (some ⟨b, 0, none⟩) [s] := by
  refine ⟨by simp, by simpa using hs, Or.inr ⟨b, 0, rfl, hb, ?_⟩⟩
  intro i t ht
  match i, ht with
  | 0, ht => simp at ht; subst ht; exact h
  | i + 1, ht => simp at ht

theorem ren_any (s : St) (vs : List Value) (hx : x.size ≤ maxLen) (hy : y.size ≤ maxLen) (h : LiesS B w s vs) (hB : B ≤ w.heap.size) :
    Calls Try.prog 16 #[aggOf vs, .string x, .string y] w fun e w' => Below w.heap.size w w' ∧ ∃ vs', e = .returned (aggOf vs') ∧ LiesS w'.heap.size w' (renS s x y) vs' := by
  obtain ⟨e0, e1, e2, f0, f1, f2, rfl, hL, hn⟩ := h.cells
  refine (ren_walk s.ly.kind s.ly.name s.ly.names s.ly.asn s.ly.pre e0 e1 e2 f0 f1 f2 s.nk x y w).mono ?_
  rintro e w' ⟨nb, xb, yb, hnb, hlt, hltx, hlty, rfl, hb, hc, cx, cy⟩
  have hold : Old B w w' := fun j hj => hb.block j (Nat.lt_of_lt_of_le hj hB)
  have hBw : B ≤ w'.heap.size := Nat.le_trans hB hb.size
  exact ⟨hb, _, rfl, LiesS.wrap h hold hBw hlt ⟨⟨by show (-9223372036854775808 : Int) ≤ 5; decide, by show (5 : Int) ≤ 9223372036854775807; decide⟩, Nat.zero_le _, Nat.zero_le _, Strs.one hltx hx cx, Strs.one hlty hy cy⟩ hc⟩
end

set_option maxRecDepth 100000 in
set_option maxHeartbeats 1600000 in
theorem Has_any (B : Nat) (ps : List Pr) (c : Option Addr) (cc : Nat) (t : ByteArray) (w : World) (h : Prs B w c ps) (hB : B ≤ w.heap.size) :
    Calls Try.prog 17 #[.slice c ps.length cc, .string t] w fun e w' => e = .returned (.bool (decide (t ∈ ps.map (·.1)))) ∧ Below w.heap.size w w' := by
  have hl := h.1
  have HP : Hid (Prs B w c ps ∧ B ≤ w.heap.size) := ⟨h, hB⟩
  clear h hB
  go_enter Try.func17, Try.ntmps17
  go_wp2_with fail
  go_loopw [9] (fun i wr => ∃ j : Nat, j ≤ ps.length ∧ i = .int .i64 j ∧ Hid (t ∉ (ps.take j).map (·.1)) ∧ Below w.heap.size w wr) (fun i _ => ps.length - (intOf i).toNat)
  case atStart => exact ⟨0, Nat.zero_le _, rfl, by show t ∉ _; simp, Below.refl _ _⟩
  case round =>
    obtain ⟨j, hj, rfl, HN, hb⟩ := hrel
    have HBL : Hid (Below w.heap.size w wr) := hb
    by_cases hlt : j < ps.length
    · obtain ⟨b, o, p, rfl, hbB, hs, hc0, hc1⟩ := HP.out.1.at hlt
      have k0 := (hb.cell (p := ⟨b, o + j * 2, none⟩) (Nat.lt_of_lt_of_le hbB HP.out.2)).trans hc0
      have k1 := (hb.cell (p := ⟨b, o + j * 2 + 1, none⟩) (Nat.lt_of_lt_of_le hbB HP.out.2)).trans hc1
      obtain ⟨p1, p2⟩ := p
      have HX : Hid (ps[j]? = some (p1, p2)) := hs
      simp only at k0 k1
      clear hc0 hc1 hs hb
      cases he : (p1.toList == t.toList) with
      | true =>
        have HE : Hid (p1 = t) := beqS_true he
        go_wp2_with fail
        go_ret
        refine ⟨retB ?_, HBL.out.alloc HBL.out.size _⟩
        have hm : t ∈ ps.map (·.1) := by
          rw [← HE.out]
          exact List.mem_map_of_mem (f := fun x : Pr => x.1) (List.mem_of_getElem? HX.out)
        exact (decide_eq_true hm).symm
      | false =>
        have HE : Hid (p1 ≠ t) := beqS_false he
        go_wp2_with fail
        go_roundw
        case rel =>
          refine ⟨j + 1, by omega, by go_num, ?_, HBL.out.alloc HBL.out.size _⟩
          show t ∉ _
          rw [take_put HX.out, List.map_append, List.mem_append]
          rintro (h | h)
          · exact HN.out h
          · simp at h
            exact HE.out h.symm
        case measure => simp [intOf]; omega
    · obtain rfl : j = ps.length := by omega
      clear hb
      go_wp2_with fail
      go_ret
      refine ⟨retB ?_, HBL.out⟩
      have := HN.out
      rw [List.take_length] at this
      simpa using this

theorem errOf_ne {s : St} {ex : List ByteArray} {x : Int} (h : ofL s ex = .inl x) : (x == 0) = false := beq0 (ofL_ne h)

section
variable (B : Nat) (s : St) (kd : Int) (na : ByteArray) (nn nas : List ByteArray) (pr : ByteArray) (a0 a1 a2 : Option Addr) (c0 c1 c2 n : Nat) (ex : List ByteArray) (x y : ByteArray) (ea : Option Addr) (ec : Nat) (w : World)

/-- What Of leaves, as a value: pairs, and an error. -/
def OutV (r : Sum Int (List Pr)) (a : Option Addr) (l c : Nat) (er : Int) (w : World) : Prop :=
  match r with
  | .inl x => er = x ∧ l = 0
  | .inr qs => er = 0 ∧ l = qs.length ∧ Prs w.heap.size w a qs
theorem OutO.val {r : Sum Int (List Pr)} {w w' : World} {e : Ending} (h : OutO r w e w') : Below w.heap.size w w' ∧ ∃ a l c er, e = .returned (.tuple #[.slice a l c, .int .i64 er]) ∧ OutV r a l c er w' := by
  obtain ⟨hb, h⟩ := h
  refine ⟨hb, ?_⟩
  cases r with
  | inl x => exact ⟨none, 0, 0, x, h, rfl, rfl⟩
  | inr qs =>
    obtain ⟨a, c, he, hp⟩ := h
    exact ⟨a, qs.length, c, 0, he, rfl, rfl, hp⟩
theorem OutV.after {r : Sum Int (List Pr)} {a : Option Addr} {l c : Nat} {er : Int} {w w' : World} (h : OutV r a l c er w) (hb : Below w.heap.size w w') : OutV r a l c er w' := by
  cases r with
  | inl x => exact h
  | inr qs => exact ⟨h.1, h.2.1, h.2.2.after (Nat.le_refl _) hb⟩

set_option maxRecDepth 100000 in
set_option maxHeartbeats 6400000 in
theorem NamesBack_walk (h : LiesS B w s (setV ⟨kd, na, nn, nas, pr⟩ a0 a1 a2 c0 c1 c2 n)) (he : Strs B w ea ex) (hx : x.size ≤ maxLen) (hy : y.size ≤ maxLen) (hB : B ≤ w.heap.size) :
    Calls Try.prog 5 #[.agg #[.int .i64 kd, .string na, .slice a0 nn.length c0, .slice a1 nas.length c1, .string pr, .slice a2 n c2], .slice ea ex.length ec, .string x, .string y] w fun e w' => e = .returned (.bool true) ∧ Below w.heap.size w w' := by
  have HS : Hid (LiesS B w s (setV ⟨kd, na, nn, nas, pr⟩ a0 a1 a2 c0 c1 c2 n) ∧ Strs B w ea ex ∧ B ≤ w.heap.size) := ⟨h, he, hB⟩
  clear h he hB
  have HBX : Hid (Box w.heap.size ⟨kd, na, nn, nas, pr⟩ a0 a1 a2 c0 c1 c2 n (w.alloc (.cells #[.int .i64 kd, .string na, .slice a0 nn.length c0, .slice a1 nas.length c1, .string pr, .slice a2 n c2] 25))) := Box.made ⟨kd, na, nn, nas, pr⟩ a0 a1 a2 c0 c1 c2 n w
  go_enter Try.func5, Try.ntmps5
  go_wp2_with fail
  refine (alive_any _).mono ?_
  rintro e w1 ⟨rfl, hb1⟩
  have H1 : Hid (Below w.heap.size w w1 ∧ Box w.heap.size ⟨kd, na, nn, nas, pr⟩ a0 a1 a2 c0 c1 c2 n w1) := ⟨((Below.refl _ _).alloc (Nat.le_refl _) _).trans (hb1.mono (by simp)), HBX.out.below hb1⟩
  have OF1 : Hid (Calls Try.prog 10 #[.agg #[.int .i64 kd, .string na, .slice a0 nn.length c0, .slice a1 nas.length c1, .string pr, .slice a2 n c2], .slice ea ex.length ec] w1 (OutO (ofL s ex) w1)) :=
    Of_any B _ _ ex ea ec w1 (HS.out.1.old HS.out.2.2 H1.out.1) (HS.out.2.1.old HS.out.2.2 H1.out.1) (Nat.le_trans HS.out.2.2 H1.out.1.size)
  obtain ⟨q0, q1, q2, q3, q4, q5⟩ := (⟨H1.out.2.q0, H1.out.2.q1, H1.out.2.q2, H1.out.2.q3, H1.out.2.q4, H1.out.2.q5⟩ : _ ∧ _ ∧ _ ∧ _ ∧ _ ∧ _)
  simp only at q0 q1 q2 q3 q4 q5
  clear hb1 HBX
  go_wp2_with fail
  refine OF1.out.mono ?_
  intro e w2 hout
  obtain ⟨hb2, xa, xl, xc, xe, rfl, hvx⟩ := hout.val
  have H2 : Hid (Below w.heap.size w w2 ∧ Box w.heap.size ⟨kd, na, nn, nas, pr⟩ a0 a1 a2 c0 c1 c2 n w2 ∧ OutV (ofL s ex) xa xl xc xe w2) := ⟨H1.out.1.trans (hb2.mono H1.out.1.size), H1.out.2.below hb2, hvx⟩
  clear hb2 hvx hout q0 q1 q2 q3 q4 q5 OF1 H1
  have RN1 : Hid (Calls Try.prog 16 #[.agg #[.int .i64 kd, .string na, .slice a0 nn.length c0, .slice a1 nas.length c1, .string pr, .slice a2 n c2], .string x, .string y] w2 fun e w' => Below w2.heap.size w2 w' ∧ ∃ vs', e = .returned (aggOf vs') ∧ LiesS w'.heap.size w' (renS s x y) vs') :=
    ren_any B x y w2 s _ hx hy (HS.out.1.old HS.out.2.2 H2.out.1) (Nat.le_trans HS.out.2.2 H2.out.1.size)
  obtain ⟨q0, q1, q2, q3, q4, q5⟩ := (⟨H2.out.2.1.q0, H2.out.2.1.q1, H2.out.2.1.q2, H2.out.2.1.q3, H2.out.2.1.q4, H2.out.2.1.q5⟩ : _ ∧ _ ∧ _ ∧ _ ∧ _ ∧ _)
  simp only at q0 q1 q2 q3 q4 q5
  go_wp2_with fail
  refine RN1.out.mono ?_
  rintro e w3 ⟨hb3, vs1, rfl, hS1⟩
  have H3 : Hid (Below w.heap.size w w3 ∧ Box w.heap.size ⟨kd, na, nn, nas, pr⟩ a0 a1 a2 c0 c1 c2 n w3 ∧ OutV (ofL s ex) xa xl xc xe w3 ∧ LiesS w3.heap.size w3 (renS s x y) vs1) := ⟨H2.out.1.trans (hb3.mono H2.out.1.size), H2.out.2.1.below hb3, H2.out.2.2.after hb3, hS1⟩
  clear hb3 hS1 q0 q1 q2 q3 q4 q5 RN1 H2
  have OF2 : Hid (Calls Try.prog 10 #[aggOf vs1, .slice ea ex.length ec] w3 (OutO (ofL (renS s x y) ex) w3)) :=
    Of_any w3.heap.size _ vs1 ex ea ec w3 H3.out.2.2.2 ((HS.out.2.1.old HS.out.2.2 H3.out.1).stay (Old.refl _ _) (Nat.le_trans HS.out.2.2 H3.out.1.size)) (Nat.le_refl _)
  go_wp2_with fail
  refine OF2.out.mono ?_
  intro e w4 hout
  obtain ⟨hb4, ya, yl, yc, ye, rfl, hvy⟩ := hout.val
  have H4 : Hid (Below w.heap.size w w4 ∧ Box w.heap.size ⟨kd, na, nn, nas, pr⟩ a0 a1 a2 c0 c1 c2 n w4 ∧ OutV (ofL s ex) xa xl xc xe w4 ∧ OutV (ofL (renS s x y) ex) ya yl yc ye w4) := ⟨H3.out.1.trans (hb4.mono H3.out.1.size), H3.out.2.1.below hb4, H3.out.2.2.1.after hb4, hvy⟩
  clear hb4 hvy hout OF2 H3
  have RN2 : Hid (Calls Try.prog 16 #[.agg #[.int .i64 kd, .string na, .slice a0 nn.length c0, .slice a1 nas.length c1, .string pr, .slice a2 n c2], .string x, .string y] w4 fun e w' => Below w4.heap.size w4 w' ∧ ∃ vs', e = .returned (aggOf vs') ∧ LiesS w'.heap.size w' (renS s x y) vs') :=
    ren_any B x y w4 s _ hx hy (HS.out.1.old HS.out.2.2 H4.out.1) (Nat.le_trans HS.out.2.2 H4.out.1.size)
  obtain ⟨q0, q1, q2, q3, q4, q5⟩ := (⟨H4.out.2.1.q0, H4.out.2.1.q1, H4.out.2.1.q2, H4.out.2.1.q3, H4.out.2.1.q4, H4.out.2.1.q5⟩ : _ ∧ _ ∧ _ ∧ _ ∧ _ ∧ _)
  simp only at q0 q1 q2 q3 q4 q5
  go_wp2_with fail
  refine RN2.out.mono ?_
  rintro e w5 ⟨hb5, vs2, rfl, hS2⟩
  have H5 : Hid (Below w.heap.size w w5 ∧ OutV (ofL s ex) xa xl xc xe w5 ∧ OutV (ofL (renS s x y) ex) ya yl yc ye w5 ∧ LiesS w5.heap.size w5 (renS s x y) vs2) := ⟨H4.out.1.trans (hb5.mono H4.out.1.size), H4.out.2.2.1.after hb5, H4.out.2.2.2.after hb5, hS2⟩
  clear hb5 hS2 q0 q1 q2 q3 q4 q5 RN2 H4
  have RN3 : Hid (Calls Try.prog 16 #[aggOf vs2, .string y, .string x] w5 fun e w' => Below w5.heap.size w5 w' ∧ ∃ vs', e = .returned (aggOf vs') ∧ LiesS w'.heap.size w' (renS (renS s x y) y x) vs') :=
    ren_any w5.heap.size y x w5 (renS s x y) vs2 hy hx H5.out.2.2.2 (Nat.le_refl _)
  go_wp2_with fail
  refine RN3.out.mono ?_
  rintro e w6 ⟨hb6, vs3, rfl, hS3⟩
  have H6 : Hid (Below w.heap.size w w6 ∧ OutV (ofL s ex) xa xl xc xe w6 ∧ OutV (ofL (renS s x y) ex) ya yl yc ye w6 ∧ LiesS w6.heap.size w6 (renS (renS s x y) y x) vs3) := ⟨H5.out.1.trans (hb6.mono H5.out.1.size), H5.out.2.1.after hb6, H5.out.2.2.1.after hb6, hS3⟩
  clear hb6 hS3 RN3 H5
  have OF3 : Hid (Calls Try.prog 10 #[aggOf vs3, .slice ea ex.length ec] w6 (OutO (ofL (renS (renS s x y) y x) ex) w6)) :=
    Of_any w6.heap.size _ vs3 ex ea ec w6 H6.out.2.2.2 ((HS.out.2.1.old HS.out.2.2 H6.out.1).stay (Old.refl _ _) (Nat.le_trans HS.out.2.2 H6.out.1.size)) (Nat.le_refl _)
  go_wp2_with fail
  refine OF3.out.mono ?_
  intro e w7 hout
  obtain ⟨hb7, za, zl, zc, ze, rfl, hvz⟩ := hout.val
  have H7 : Hid (Below w.heap.size w w7) := H6.out.1.trans (hb7.mono H6.out.1.size)
  have hvx := H6.out.2.1.after hb7
  have hvy := H6.out.2.2.1.after hb7
  clear hb7 hout OF3 H6 HS
  cases hrx : ofL s ex with
  | inl e1 =>
    rw [hrx] at hvx
    obtain ⟨rfl, rfl⟩ := hvx
    have g1 : ¬ _ = (0 : Int) := ofL_ne hrx
    clear hrx hvy hvz
    go_wp2_with fail
    go_ret
    exact ⟨rfl, H7.out⟩
  | inr xs =>
    rw [hrx] at hvx
    obtain ⟨rfl, rfl, hpx⟩ := hvx
    cases hry : ofL (renS s x y) ex with
    | inl e1 =>
      rw [hry] at hvy
      obtain ⟨rfl, rfl⟩ := hvy
      have g1 : ¬ _ = (0 : Int) := ofL_ne hry
      clear hrx hry hvz hpx
      go_wp2_with fail
      go_ret
      exact ⟨rfl, H7.out⟩
    | inr ys =>
      rw [hry] at hvy
      obtain ⟨rfl, rfl, hpy⟩ := hvy
      cases hrz : ofL (renS (renS s x y) y x) ex with
      | inl e1 =>
        rw [hrz] at hvz
        obtain ⟨rfl, rfl⟩ := hvz
        have g1 : ¬ _ = (0 : Int) := ofL_ne hrz
        clear hrx hry hrz hpx hpy
        go_wp2_with fail
        go_ret
        exact ⟨rfl, H7.out⟩
      | inr zs =>
        rw [hrz] at hvz
        obtain ⟨rfl, rfl, hpz⟩ := hvz
        obtain ⟨hzx, hlen, p, hp, hpa⟩ := back_same hrx hry hrz
        subst hzx
        have SM : Hid (Calls Try.prog 12 #[.slice xa zs.length xc, .slice za zs.length zc] w7 fun e w' => e = .returned (.bool true) ∧ Below w7.heap.size w7 w') := SameP_yes w7.heap.size zs xa za xc zc w7 hpx hpz
        have HAS : Hid (∀ w8, Below w7.heap.size w7 w8 → Calls Try.prog 17 #[.slice ya ys.length yc, .string y] w8 fun e w' => e = .returned (.bool true) ∧ Below w8.heap.size w8 w') := fun w8 hb8 => by
          have := Has_any w8.heap.size ys ya yc y w8 (hpy.after (Nat.le_refl _) hb8) (Nat.le_refl _)
          rwa [decide_eq_true (show y ∈ ys.map (·.1) by rw [← hpa]; exact List.mem_map_of_mem (f := fun x : Pr => x.1) hp)] at this
        have hl1 : ys.length ≤ zs.length := by omega
        have hl2 : zs.length ≤ ys.length := by omega
        have hl3 := hpx.1
        clear hrx hry hrz hpx hpy hpz hlen hp hpa
        go_wp2_with fail
        refine SM.out.mono ?_
        rintro e w8 ⟨rfl, hb8⟩
        have H8 : Hid (Below w7.heap.size w7 w8 ∧ Below w.heap.size w w8) := ⟨hb8, H7.out.trans (hb8.mono H7.out.size)⟩
        clear hb8
        go_wp2_with fail
        refine (HAS.out _ H8.out.1).mono ?_
        rintro e w9 ⟨rfl, hb9⟩
        have H9 : Hid (Below w.heap.size w w9) := H8.out.2.trans (hb9.mono H8.out.2.size)
        clear hb9
        go_wp2_with fail
        go_ret
        exact ⟨rfl, H9.out⟩
end
end Go.Proofs.Ytgpcbehohkhoaab
