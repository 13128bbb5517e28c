/- The document's Sort. -/
import Derived.Test.YtckiihbnjfeplaaXf
namespace Go.Proofs.Ytckiihbnjfeplaa
set_option linter.unusedVariables false
set_option linter.unusedSimpArgs false
open Go.RowKit

theorem Prs.take {B : Nat} {w : World} {a : Option Addr} {ps : List Pr} (h : Prs B w a ps) (k : Nat) : Prs B w a (ps.take k) := by
  obtain ⟨hl, h⟩ := h
  refine ⟨by rw [List.length_take]; omega, ?_⟩
  rcases h with rfl | ⟨b, o, rfl, hb, h⟩
  · exact Or.inl (by simp)
  · refine Or.inr ⟨b, o, rfl, hb, fun i p hp => h i p ?_⟩
    rw [List.getElem?_take] at hp
    split at hp
    · exact hp
    · cases hp
theorem Prs.drop {B : Nat} {w : World} {b o : Nat} {ps : List Pr} (h : Prs B w (some ⟨b, o, none⟩) ps) (k : Nat) : Prs B w (some ⟨b, o + k * 2, none⟩) (ps.drop k) := by
  obtain ⟨hl, h⟩ := h
  refine ⟨by rw [List.length_drop]; omega, ?_⟩
  rcases h with rfl | ⟨b', o', e, hb, h⟩
  · exact Or.inl (by simp)
  · obtain ⟨rfl, rfl⟩ : b = b' ∧ o = o' := by simpa using e
    refine Or.inr ⟨b, o + k * 2, rfl, hb, fun i p hp => ?_⟩
    rw [List.getElem?_drop] at hp
    obtain ⟨c0, c1⟩ := h (k + i) p hp
    rw [show o + k * 2 + i * 2 = o + (k + i) * 2 by omega]
    exact ⟨c0, c1⟩

theorem srt_snoc (l : List Pr) (p : Pr) : srt (·.1) (l ++ [p]) = ins (·.1) p (srt (·.1) l) := by
  unfold srt
  rw [List.foldl_append]
  rfl

set_option maxRecDepth 100000 in
set_option maxHeartbeats 6400000 in
theorem Sort_any (B : Nat) (ps : List Pr) (c : Option Addr) (cc : Nat) (w : World) (h : Prs B w c ps) (hB : B ≤ w.heap.size) (hl : ps.length ≤ 400) :
    Calls Try.prog 22 #[.slice c ps.length cc] w fun e w' => ∃ v, e = .returned v ∧ Below w.heap.size w w' ∧ RowP w.heap.size v (srt (·.1) ps) w' := by
  have HP : Hid (Prs B w c ps ∧ B ≤ w.heap.size) := ⟨h, hB⟩
  clear h hB
  go_enter Try.func22, Try.ntmps22
  go_wp2_with fail
  go_loopw [3, 9] (fun v i wr => ∃ (j : Nat) (qs : List Pr), j ≤ ps.length ∧ i = .int .i64 j ∧ Hid (qs = srt (·.1) (ps.take j)) ∧ Below w.heap.size w wr ∧ RowP w.heap.size v qs wr) (fun _ i _ => ps.length - (intOf i).toNat)
  case atStart => exact ⟨0, [], Nat.zero_le _, rfl, rfl, Below.refl _ _, RowP.nil _ _⟩
  case round =>
    obtain ⟨j, qs, hj, rfl, HQ, hb, hr⟩ := hrel
    have hql : qs.length ≤ 400 := by
      rw [HQ.out, (srt_perm _ _).length_eq, List.length_take]
      omega
    obtain ⟨oa, oc, hv, hpo⟩ := hr.lie (by omega)
    subst hv
    have hcap : qs.length ≤ oc := by
      rcases hr.2 with ⟨hv, h0⟩ | ⟨g, cap, cur, hv, hbg, hg, hnc, _⟩
      · omega
      · have := (by simpa using hv : oa = some ⟨g, 0, none⟩ ∧ oc = cap); omega
    have HR : Hid (Below w.heap.size w wr ∧ RowP w.heap.size (.slice oa qs.length oc) qs wr ∧ Prs wr.heap.size wr oa qs) := ⟨hb, hr, hpo⟩
    by_cases hlt : j < ps.length
    · obtain ⟨b, o, p, rfl, hbB, hs, hc0, hc1⟩ := HP.out.1.at hlt
      have k0 := (hb.cell (p := ⟨b, o + j * 2, none⟩) (Nat.lt_of_lt_of_le hbB HP.out.2)).trans hc0
      have k1 := (hb.cell (p := ⟨b, o + j * 2 + 1, none⟩) (Nat.lt_of_lt_of_le hbB HP.out.2)).trans hc1
      obtain ⟨p1, p2⟩ := p
      have HX : Hid (ps[j]? = some (p1, p2)) := hs
      simp only at k0 k1
      clear hc0 hc1 hs hb hr hpo
      go_wp2_with fail
      have HW0 : Hid (Below wr.heap.size wr (wr.alloc (.cells #[.string p1, .string p2] 43))) := (Below.refl _ _).alloc (Nat.le_refl _) _
      have cq0 : (wr.alloc (.cells #[.string p1, .string p2] 43)).cell? ⟨wr.heap.size, 0, none⟩ = some (.string p1) := by simp [go_sem]
      have cq1 : (wr.alloc (.cells #[.string p1, .string p2] 43)).cell? ⟨wr.heap.size, 1, none⟩ = some (.string p2) := by simp [go_sem]
      have hsW : (wr.alloc (.cells #[.string p1, .string p2] 43)).heap.size = wr.heap.size + 1 := by simp
      generalize (wr.alloc (.cells #[.string p1, .string p2] 43)) = W0 at HW0 cq0 cq1 hsW ⊢
      clear k0 k1
      go_loopw [6] (fun i wk => ∃ (k m : Nat), k ≤ qs.length ∧ i = .int .i64 k ∧ Hid (∀ x ∈ qs.take k, ltB x.1 p1 = true) ∧ wk = W0.drewN m) (fun i _ => qs.length - (intOf i).toNat)
      case atStart => exact ⟨0, 0, Nat.zero_le _, rfl, by show ∀ x ∈ _, _; simp, rfl⟩
      case round =>
        obtain ⟨k, m, hk, rfl, HLT, rfl⟩ := hrel
        by_cases hkl : k < qs.length
        · obtain ⟨b2, o2, q, rfl, hb2, hq, hq0, hq1⟩ := HR.out.2.2.at hkl
          have g0 := (HW0.out.cell (p := ⟨b2, o2 + k * 2, none⟩) hb2).trans hq0
          obtain ⟨q1, q2⟩ := q
          simp only at g0
          have HQX : Hid (qs[k]? = some (q1, q2)) := hq
          clear hq0 hq1 hq
          cases hbl : Op.bytesLess q1.toList p1.toList with
          | true =>
            have HBE : Hid (ltB q1 p1 = true) := by
              show ltB q1 p1 = true
              rw [← bytesLess_ltB]
              exact hbl
            go_wp2_with fail
            have hdk : decide (k < qs.length) = true := decide_eq_true hkl
            go_quiet (fail)
            go_wp2_with fail
            go_roundw
            case rel =>
              refine ⟨k + 1, _, by omega, by go_num, ?_, rfl⟩
              show ∀ x ∈ _, _
              rw [take_put HQX.out]
              intro x hx
              rcases List.mem_append.1 hx with hx | hx
              · exact HLT.out x hx
              · simp at hx
                subst hx
                exact HBE.out
            case measure => simp [intOf]; omega
          | false =>
            have HIN : Hid (ins (·.1) (p1, p2) qs = qs.take k ++ (p1, p2) :: qs.drop k) := ins_split qs k hk HLT.out (fun x hx => by
              rw [HQX.out] at hx
              cases hx
              show ltB q1 p1 = false
              rw [← bytesLess_ltB]
              exact hbl)
            have hock : ¬ oc = k := by omega
            have hkoc : k ≤ oc := by omega
            go_wp2_with fail
            have hdk : decide (k < qs.length) = true := decide_eq_true hkl
            go_quiet (fail)
            go_wp2_with fail
            obtain ⟨t1, HT1⟩ : ∃ t1, Hid (t1 = qs.take k) := ⟨_, rfl⟩
            obtain ⟨t2, HT2⟩ : ∃ t2, Hid (t2 = qs.drop k) := ⟨_, rfl⟩
            have HL1 : Hid (k = t1.length) := by show k = t1.length; rw [HT1.out, List.length_take]; omega
            have HL2 : Hid ((qs.length - k) = t2.length) := by show (qs.length - k) = t2.length; rw [HT2.out, List.length_drop]
            have HO : Hid (∀ W, Below (wr.heap.size + 1) W0 W → Src W (some ⟨b2, o2, none⟩) k (flatP t1) ∧ Src W (some ⟨b2, o2 + k * 2, none⟩) (qs.length - k) (flatP t2)) := fun W hb => by
              have hb' : Below wr.heap.size wr W := HW0.out.trans (hb.mono (Nat.le_succ _))
              refine ⟨?_, ?_⟩
              · have := Src.after (HR.out.2.2.take k) hb'
                rw [← HT1.out, ← HL1.out] at this
                exact this
              · have := Src.after (HR.out.2.2.drop k) hb'
                rw [← HT2.out, ← HL2.out] at this
                exact this
            have hbw : ∀ x, Below (wr.heap.size + 1) W0 (W0.drewN x) := fun x => below_drewN (Below.refl _ _) x
            have R1 : Hid (RowP (wr.heap.size + 1) (.slice (some ⟨wr.heap.size + 1, 0, none⟩) 0 0) [] ((W0.drewN (m + nq + 1)).alloc (.cells #[] 43))) := by
              have := RowP.lit (B := wr.heap.size + 1) (w := W0.drewN (m + nq + 1)) (by show wr.heap.size + 1 ≤ W0.heap.size; omega)
              rw [show (W0.drewN (m + nq + 1)).heap.size = wr.heap.size + 1 from hsW] at this
              exact this
            have R3 : Hid (RowP (wr.heap.size + 1) (.slice (some ⟨wr.heap.size + 1 + 1, 0, none⟩) 0 0) [] (((W0.drewN (m + nq + 1)).alloc (.cells #[.string p1, .string p2] 43)).alloc (.cells #[] 43))) := by
              have := RowP.lit (B := wr.heap.size + 1) (w := (W0.drewN (m + nq + 1)).alloc (.cells #[.string p1, .string p2] 43)) (by simp; omega)
              have e : ((W0.drewN (m + nq + 1)).alloc (.cells #[.string p1, .string p2] 43)).heap.size = wr.heap.size + 1 + 1 := by simp; exact hsW
              rw [e] at this
              exact this
            have BA : Hid (Below (wr.heap.size + 1) W0 ((W0.drewN (m + nq + 1)).alloc (.cells #[] 43)) ∧ Below (wr.heap.size + 1) W0 (((W0.drewN (m + nq + 1)).alloc (.cells #[] 43)).alloc (.cells #[.string p1, .string p2] 43)) ∧ Below (wr.heap.size + 1) W0 (((W0.drewN (m + nq + 1)).alloc (.cells #[.string p1, .string p2] 43)).alloc (.cells #[] 43))) :=
              ⟨(hbw _).alloc (by show wr.heap.size + 1 ≤ W0.heap.size; omega) _, ((hbw _).alloc (by show wr.heap.size + 1 ≤ W0.heap.size; omega) _).alloc (by simp; omega) _, ((hbw _).alloc (by show wr.heap.size + 1 ≤ W0.heap.size; omega) _).alloc (by simp; omega) _⟩
            have P2 : Hid (Src (((W0.drewN (m + nq + 1)).alloc (.cells #[] 43)).alloc (.cells #[.string p1, .string p2] 43)) (some ⟨wr.heap.size + 1 + 1, 0, none⟩) 1 (flatP [(p1, p2)])) := by
              have := two_src ((W0.drewN (m + nq + 1)).alloc (.cells #[] 43)) p1 p2
              have e : ((W0.drewN (m + nq + 1)).alloc (.cells #[] 43)).heap.size = wr.heap.size + 1 + 1 := by simp; exact hsW
              rw [e] at this
              exact this
            have P3 : Hid (Src (((W0.drewN (m + nq + 1)).alloc (.cells #[.string p1, .string p2] 43)).alloc (.cells #[] 43)) (some ⟨wr.heap.size + 1, 0, none⟩) 1 (flatP [(p1, p2)])) := by
              have := two_alloc (two_src (W0.drewN (m + nq + 1)) p1 p2) (.cells #[] 43)
              rw [show (W0.drewN (m + nq + 1)).heap.size = wr.heap.size + 1 from hsW] at this
              exact this
            have cz0 : ∀ x, (W0.drewN x).cell? ⟨wr.heap.size, 0, none⟩ = some (.string p1) := fun x => cq0
            have cz1 : ∀ x, (W0.drewN x).cell? ⟨wr.heap.size, 1, none⟩ = some (.string p2) := fun x => cq1
            clear hbw
            go_region_law (first
              | (refine step_joinP (by rfl) (.tmp 29) (.tmp 32) (by rfl) (wr.heap.size + 1) _ [] (by rfl) (by first | exact R1.out | exact R1.out.alloc _ | exact R3.out) (some ⟨b2, o2, none⟩) k _ (by rfl) t1 (by exact HL1.out) (by first | exact (HO.out _ BA.out.1).1 | exact (HO.out _ BA.out.2.1).1 | exact (HO.out _ BA.out.2.2).1) (by simp; omega) k (by have h1 := HL1.out; simp only [List.nil_append, List.length_append, List.length_cons, List.length_nil]; omega) (by omega) ?_; intro at1 cap1 w2 hr2 hb2 hg2; have hB2 : Below (wr.heap.size + 1) W0 w2 := (by first | exact BA.out.1.trans hb2 | exact BA.out.2.1.trans hb2 | exact BA.out.2.2.trans hb2); have d0 := (hB2.cell (p := ⟨wr.heap.size, 0, none⟩) (Nat.lt_succ_self _)).trans cq0; have d1 := (hB2.cell (p := ⟨wr.heap.size, 1, none⟩) (Nat.lt_succ_self _)).trans cq1)
              | (refine step_joinP (by rfl) (.tmp 33) (.tmp 35) (by rfl) (wr.heap.size + 1) _ ([] ++ t1) (by rfl) (by first | exact hr2 | exact hr2.alloc _) (some _) 1 1 (by rfl) [(p1, p2)] (by rfl) (by first | exact two_src _ _ _ | exact two_far P2.out hg2 (show some (wr.heap.size + 1 + 1) ≠ some (wr.heap.size + 1) by simp) | exact two_far P3.out hg2 (show some (wr.heap.size + 1) ≠ some (wr.heap.size + 1 + 1) by simp)) (by have := hB2.size; first | omega | (simp; omega)) (k + 1) (by have h1 := HL1.out; simp only [List.nil_append, List.length_append, List.length_cons, List.length_nil]; omega) (by omega) ?_; intro at2 cap2 w3 hr3 hb3 hg3; have hB3 : Below (wr.heap.size + 1) W0 w3 := (by first | exact hB2.trans hb3 | exact (hB2.alloc (by have := hB2.size; omega) _).trans hb3))
              | (refine step_joinP (by rfl) (.tmp 36) (.tmp 39) (by rfl) (wr.heap.size + 1) _ (([] ++ t1) ++ [(p1, p2)]) (by rfl) (by exact hr3) (some ⟨b2, o2 + k * 2, none⟩) (qs.length - k) _ (by rfl) t2 (by exact HL2.out) (by exact (HO.out _ hB3).2) (by have := hB3.size; omega) (qs.length + 1) (by have h1 := HL1.out; have h2 := HL2.out; simp only [List.nil_append, List.length_append, List.length_cons, List.length_nil]; omega) (by omega) ?_; intro at3 cap3 w4 hr4 hb4 hg4))
            all_goals
              have hB4 : Below w.heap.size w w4 := HR.out.1.trans ((HW0.out.trans ((hB3.trans hb4).mono (Nat.le_succ _))).mono HR.out.1.size)
              have H4 : Hid (Below w.heap.size w w4 ∧ RowP w.heap.size (.slice at3 (qs.length + 1) cap3) (ins (·.1) (p1, p2) qs) w4 ∧ ins (·.1) (p1, p2) qs = srt (·.1) (ps.take (j + 1))) := by
                refine ⟨hB4, ?_, ?_⟩
                · have e : (([] ++ t1) ++ [(p1, p2)]) ++ t2 = ins (·.1) (p1, p2) qs := by
                    rw [HIN.out, HT1.out, HT2.out]
                    simp
                  rw [← e]
                  exact World.ownsRow.mono hr4 (Nat.le_trans HR.out.1.size (Nat.le_succ _))
                · rw [take_put HX.out, srt_snoc, ← HQ.out]
              clear hr2 hb2 hg2 hr3 hb3 hg3 hr4 hb4 hg4 hB2 hB3 hB4 d0 d1 R1 R3 BA P2 P3 HO
              go_wp2_with fail
              go_roundw
              case rel => exact ⟨j + 1, _, by omega, by go_num, H4.out.2.2, H4.out.1, H4.out.2.1⟩
              case measure => simp [intOf]; omega
        · obtain rfl : k = qs.length := by omega
          have HIN : Hid (ins (·.1) (p1, p2) qs = qs.take qs.length ++ (p1, p2) :: qs.drop qs.length) := ins_split qs qs.length (Nat.le_refl _) HLT.out (fun x hx => by simp at hx)
          rcases HR.out.2.1.2 with ⟨hv, h0⟩ | ⟨g, cap, cur, hv, _⟩
          · have hq0 : qs = [] := List.length_eq_zero_iff.1 h0
            subst hq0
            obtain ⟨rfl, rfl⟩ : oa = none ∧ oc = 0 := by simpa using hv
            clear hv h0 hcap hql hk hkl
            go_wp2_with fail
            have hdk : decide (0 < ([] : List Pr).length) = false := by simp
            go_quiet (fail)
            go_wp2_with fail
            obtain ⟨t1, HT1⟩ : ∃ t1, Hid (t1 = ([] : List Pr).take 0) := ⟨_, rfl⟩
            obtain ⟨t2, HT2⟩ : ∃ t2, Hid (t2 = ([] : List Pr).drop 0) := ⟨_, rfl⟩
            have HL1 : Hid (0 = t1.length) := by show 0 = t1.length; rw [HT1.out]; simp
            have HL2 : Hid (0 = t2.length) := by show 0 = t2.length; rw [HT2.out]; simp
            have HO : Hid (∀ W, Below (wr.heap.size + 1) W0 W → Src W none 0 (flatP t1) ∧ True) := fun W hb => by
              have hb' : Below wr.heap.size wr W := HW0.out.trans (hb.mono (Nat.le_succ _))
              refine ⟨?_, ?_⟩
              · have := Src.after (HR.out.2.2.take 0) hb'
                rw [← HT1.out, ← HL1.out] at this
                exact this
              · trivial
            have hbw : ∀ x, Below (wr.heap.size + 1) W0 (W0.drewN x) := fun x => below_drewN (Below.refl _ _) x
            have R1 : Hid (RowP (wr.heap.size + 1) (.slice (some ⟨wr.heap.size + 1, 0, none⟩) 0 0) [] ((W0.drewN (m + nq + 1)).alloc (.cells #[] 43))) := by
              have := RowP.lit (B := wr.heap.size + 1) (w := W0.drewN (m + nq + 1)) (by show wr.heap.size + 1 ≤ W0.heap.size; omega)
              rw [show (W0.drewN (m + nq + 1)).heap.size = wr.heap.size + 1 from hsW] at this
              exact this
            have R3 : Hid (RowP (wr.heap.size + 1) (.slice (some ⟨wr.heap.size + 1 + 1, 0, none⟩) 0 0) [] (((W0.drewN (m + nq + 1)).alloc (.cells #[.string p1, .string p2] 43)).alloc (.cells #[] 43))) := by
              have := RowP.lit (B := wr.heap.size + 1) (w := (W0.drewN (m + nq + 1)).alloc (.cells #[.string p1, .string p2] 43)) (by simp; omega)
              have e : ((W0.drewN (m + nq + 1)).alloc (.cells #[.string p1, .string p2] 43)).heap.size = wr.heap.size + 1 + 1 := by simp; exact hsW
              rw [e] at this
              exact this
            have BA : Hid (Below (wr.heap.size + 1) W0 ((W0.drewN (m + nq + 1)).alloc (.cells #[] 43)) ∧ Below (wr.heap.size + 1) W0 (((W0.drewN (m + nq + 1)).alloc (.cells #[] 43)).alloc (.cells #[.string p1, .string p2] 43)) ∧ Below (wr.heap.size + 1) W0 (((W0.drewN (m + nq + 1)).alloc (.cells #[.string p1, .string p2] 43)).alloc (.cells #[] 43))) :=
              ⟨(hbw _).alloc (by show wr.heap.size + 1 ≤ W0.heap.size; omega) _, ((hbw _).alloc (by show wr.heap.size + 1 ≤ W0.heap.size; omega) _).alloc (by simp; omega) _, ((hbw _).alloc (by show wr.heap.size + 1 ≤ W0.heap.size; omega) _).alloc (by simp; omega) _⟩
            have P2 : Hid (Src (((W0.drewN (m + nq + 1)).alloc (.cells #[] 43)).alloc (.cells #[.string p1, .string p2] 43)) (some ⟨wr.heap.size + 1 + 1, 0, none⟩) 1 (flatP [(p1, p2)])) := by
              have := two_src ((W0.drewN (m + nq + 1)).alloc (.cells #[] 43)) p1 p2
              have e : ((W0.drewN (m + nq + 1)).alloc (.cells #[] 43)).heap.size = wr.heap.size + 1 + 1 := by simp; exact hsW
              rw [e] at this
              exact this
            have P3 : Hid (Src (((W0.drewN (m + nq + 1)).alloc (.cells #[.string p1, .string p2] 43)).alloc (.cells #[] 43)) (some ⟨wr.heap.size + 1, 0, none⟩) 1 (flatP [(p1, p2)])) := by
              have := two_alloc (two_src (W0.drewN (m + nq + 1)) p1 p2) (.cells #[] 43)
              rw [show (W0.drewN (m + nq + 1)).heap.size = wr.heap.size + 1 from hsW] at this
              exact this
            have cz0 : ∀ x, (W0.drewN x).cell? ⟨wr.heap.size, 0, none⟩ = some (.string p1) := fun x => cq0
            have cz1 : ∀ x, (W0.drewN x).cell? ⟨wr.heap.size, 1, none⟩ = some (.string p2) := fun x => cq1
            clear hbw
            go_region_law (first
              | (refine step_joinP (by rfl) (.tmp 29) (.tmp 32) (by rfl) (wr.heap.size + 1) _ [] (by rfl) (by first | exact R1.out | exact R1.out.alloc _ | exact R3.out) none 0 _ (by rfl) t1 (by exact HL1.out) (by first | exact (HO.out _ BA.out.1).1 | exact (HO.out _ BA.out.2.1).1 | exact (HO.out _ BA.out.2.2).1) (by simp; omega) 0 (by have h1 := HL1.out; simp only [List.nil_append, List.length_append, List.length_cons, List.length_nil]; omega) (by omega) ?_; intro at1 cap1 w2 hr2 hb2 hg2; have hB2 : Below (wr.heap.size + 1) W0 w2 := (by first | exact BA.out.1.trans hb2 | exact BA.out.2.1.trans hb2 | exact BA.out.2.2.trans hb2); have d0 := (hB2.cell (p := ⟨wr.heap.size, 0, none⟩) (Nat.lt_succ_self _)).trans cq0; have d1 := (hB2.cell (p := ⟨wr.heap.size, 1, none⟩) (Nat.lt_succ_self _)).trans cq1)
              | (refine step_joinP (by rfl) (.tmp 33) (.tmp 35) (by rfl) (wr.heap.size + 1) _ ([] ++ t1) (by rfl) (by first | exact hr2 | exact hr2.alloc _) (some _) 1 1 (by rfl) [(p1, p2)] (by rfl) (by first | exact two_src _ _ _ | exact two_far P2.out hg2 (show some (wr.heap.size + 1 + 1) ≠ some (wr.heap.size + 1) by simp) | exact two_far P3.out hg2 (show some (wr.heap.size + 1) ≠ some (wr.heap.size + 1 + 1) by simp)) (by have := hB2.size; first | omega | (simp; omega)) 1 (by have h1 := HL1.out; simp only [List.nil_append, List.length_append, List.length_cons, List.length_nil]; omega) (by omega) ?_; intro at2 cap2 w3 hr3 hb3 hg3; have hB3 : Below (wr.heap.size + 1) W0 w3 := (by first | exact hB2.trans hb3 | exact (hB2.alloc (by have := hB2.size; omega) _).trans hb3))
              | (refine step_joinP (by rfl) (.tmp 36) (.tmp 39) (by rfl) (wr.heap.size + 1) _ (([] ++ t1) ++ [(p1, p2)]) (by rfl) (by exact hr3) _ 0 _ (by rfl) t2 (by exact HL2.out) (Or.inl rfl) (by have := hB3.size; omega) 1 (by have h1 := HL1.out; have h2 := HL2.out; simp only [List.nil_append, List.length_append, List.length_cons, List.length_nil]; omega) (by omega) ?_; intro at3 cap3 w4 hr4 hb4 hg4))
            all_goals
              have hB4 : Below w.heap.size w w4 := HR.out.1.trans ((HW0.out.trans ((hB3.trans hb4).mono (Nat.le_succ _))).mono HR.out.1.size)
              have H4 : Hid (Below w.heap.size w w4 ∧ RowP w.heap.size (.slice at3 1 cap3) (ins (·.1) (p1, p2) ([] : List Pr)) w4 ∧ ins (·.1) (p1, p2) ([] : List Pr) = srt (·.1) (ps.take (j + 1))) := by
                refine ⟨hB4, ?_, ?_⟩
                · have e : (([] ++ t1) ++ [(p1, p2)]) ++ t2 = ins (·.1) (p1, p2) ([] : List Pr) := by
                    rw [HIN.out, HT1.out, HT2.out]
                    simp
                  rw [← e]
                  exact World.ownsRow.mono hr4 (Nat.le_trans HR.out.1.size (Nat.le_succ _))
                · rw [take_put HX.out, srt_snoc, ← HQ.out]
              clear hr2 hb2 hg2 hr3 hb3 hg3 hr4 hb4 hg4 hB2 hB3 hB4 d0 d1 R1 R3 BA P2 P3 HO
              go_wp2_with fail
              go_roundw
              case rel => exact ⟨j + 1, _, by omega, by go_num, H4.out.2.2, H4.out.1, H4.out.2.1⟩
              case measure => simp [intOf]; omega
          · obtain ⟨rfl, rfl⟩ : oa = some ⟨g, 0, none⟩ ∧ oc = cap := by simpa using hv
            clear hv
            go_wp2_with fail
            have hdk : decide (qs.length < qs.length) = false := decide_eq_false (by omega)
            go_quiet (fail)
            go_wp2_with fail
            obtain ⟨t1, HT1⟩ : ∃ t1, Hid (t1 = qs.take qs.length) := ⟨_, rfl⟩
            obtain ⟨t2, HT2⟩ : ∃ t2, Hid (t2 = qs.drop qs.length) := ⟨_, rfl⟩
            have HL1 : Hid (qs.length = t1.length) := by show qs.length = t1.length; rw [HT1.out, List.length_take]; omega
            have HL2 : Hid (0 = t2.length) := by show 0 = t2.length; rw [HT2.out, List.length_drop]; omega
            have HO : Hid (∀ W, Below (wr.heap.size + 1) W0 W → Src W (some ⟨g, 0, none⟩) qs.length (flatP t1) ∧ True) := fun W hb => by
              have hb' : Below wr.heap.size wr W := HW0.out.trans (hb.mono (Nat.le_succ _))
              refine ⟨?_, ?_⟩
              · have := Src.after (HR.out.2.2.take qs.length) hb'
                rw [← HT1.out, ← HL1.out] at this
                exact this
              · trivial
            have hbw : ∀ x, Below (wr.heap.size + 1) W0 (W0.drewN x) := fun x => below_drewN (Below.refl _ _) x
            have R1 : Hid (RowP (wr.heap.size + 1) (.slice (some ⟨wr.heap.size + 1, 0, none⟩) 0 0) [] ((W0.drewN (m + nq + 1)).alloc (.cells #[] 43))) := by
              have := RowP.lit (B := wr.heap.size + 1) (w := W0.drewN (m + nq + 1)) (by show wr.heap.size + 1 ≤ W0.heap.size; omega)
              rw [show (W0.drewN (m + nq + 1)).heap.size = wr.heap.size + 1 from hsW] at this
              exact this
            have R3 : Hid (RowP (wr.heap.size + 1) (.slice (some ⟨wr.heap.size + 1 + 1, 0, none⟩) 0 0) [] (((W0.drewN (m + nq + 1)).alloc (.cells #[.string p1, .string p2] 43)).alloc (.cells #[] 43))) := by
              have := RowP.lit (B := wr.heap.size + 1) (w := (W0.drewN (m + nq + 1)).alloc (.cells #[.string p1, .string p2] 43)) (by simp; omega)
              have e : ((W0.drewN (m + nq + 1)).alloc (.cells #[.string p1, .string p2] 43)).heap.size = wr.heap.size + 1 + 1 := by simp; exact hsW
              rw [e] at this
              exact this
            have BA : Hid (Below (wr.heap.size + 1) W0 ((W0.drewN (m + nq + 1)).alloc (.cells #[] 43)) ∧ Below (wr.heap.size + 1) W0 (((W0.drewN (m + nq + 1)).alloc (.cells #[] 43)).alloc (.cells #[.string p1, .string p2] 43)) ∧ Below (wr.heap.size + 1) W0 (((W0.drewN (m + nq + 1)).alloc (.cells #[.string p1, .string p2] 43)).alloc (.cells #[] 43))) :=
              ⟨(hbw _).alloc (by show wr.heap.size + 1 ≤ W0.heap.size; omega) _, ((hbw _).alloc (by show wr.heap.size + 1 ≤ W0.heap.size; omega) _).alloc (by simp; omega) _, ((hbw _).alloc (by show wr.heap.size + 1 ≤ W0.heap.size; omega) _).alloc (by simp; omega) _⟩
            have P2 : Hid (Src (((W0.drewN (m + nq + 1)).alloc (.cells #[] 43)).alloc (.cells #[.string p1, .string p2] 43)) (some ⟨wr.heap.size + 1 + 1, 0, none⟩) 1 (flatP [(p1, p2)])) := by
              have := two_src ((W0.drewN (m + nq + 1)).alloc (.cells #[] 43)) p1 p2
              have e : ((W0.drewN (m + nq + 1)).alloc (.cells #[] 43)).heap.size = wr.heap.size + 1 + 1 := by simp; exact hsW
              rw [e] at this
              exact this
            have P3 : Hid (Src (((W0.drewN (m + nq + 1)).alloc (.cells #[.string p1, .string p2] 43)).alloc (.cells #[] 43)) (some ⟨wr.heap.size + 1, 0, none⟩) 1 (flatP [(p1, p2)])) := by
              have := two_alloc (two_src (W0.drewN (m + nq + 1)) p1 p2) (.cells #[] 43)
              rw [show (W0.drewN (m + nq + 1)).heap.size = wr.heap.size + 1 from hsW] at this
              exact this
            have cz0 : ∀ x, (W0.drewN x).cell? ⟨wr.heap.size, 0, none⟩ = some (.string p1) := fun x => cq0
            have cz1 : ∀ x, (W0.drewN x).cell? ⟨wr.heap.size, 1, none⟩ = some (.string p2) := fun x => cq1
            clear hbw
            go_region_law (first
              | (refine step_joinP (by rfl) (.tmp 29) (.tmp 32) (by rfl) (wr.heap.size + 1) _ [] (by rfl) (by first | exact R1.out | exact R1.out.alloc _ | exact R3.out) (some ⟨g, 0, none⟩) qs.length _ (by rfl) t1 (by exact HL1.out) (by first | exact (HO.out _ BA.out.1).1 | exact (HO.out _ BA.out.2.1).1 | exact (HO.out _ BA.out.2.2).1) (by simp; omega) qs.length (by have h1 := HL1.out; simp only [List.nil_append, List.length_append, List.length_cons, List.length_nil]; omega) (by omega) ?_; intro at1 cap1 w2 hr2 hb2 hg2; have hB2 : Below (wr.heap.size + 1) W0 w2 := (by first | exact BA.out.1.trans hb2 | exact BA.out.2.1.trans hb2 | exact BA.out.2.2.trans hb2); have d0 := (hB2.cell (p := ⟨wr.heap.size, 0, none⟩) (Nat.lt_succ_self _)).trans cq0; have d1 := (hB2.cell (p := ⟨wr.heap.size, 1, none⟩) (Nat.lt_succ_self _)).trans cq1)
              | (refine step_joinP (by rfl) (.tmp 33) (.tmp 35) (by rfl) (wr.heap.size + 1) _ ([] ++ t1) (by rfl) (by first | exact hr2 | exact hr2.alloc _) (some _) 1 1 (by rfl) [(p1, p2)] (by rfl) (by first | exact two_src _ _ _ | exact two_far P2.out hg2 (show some (wr.heap.size + 1 + 1) ≠ some (wr.heap.size + 1) by simp) | exact two_far P3.out hg2 (show some (wr.heap.size + 1) ≠ some (wr.heap.size + 1 + 1) by simp)) (by have := hB2.size; first | omega | (simp; omega)) (qs.length + 1) (by have h1 := HL1.out; simp only [List.nil_append, List.length_append, List.length_cons, List.length_nil]; omega) (by omega) ?_; intro at2 cap2 w3 hr3 hb3 hg3; have hB3 : Below (wr.heap.size + 1) W0 w3 := (by first | exact hB2.trans hb3 | exact (hB2.alloc (by have := hB2.size; omega) _).trans hb3))
              | (refine step_joinP (by rfl) (.tmp 36) (.tmp 39) (by rfl) (wr.heap.size + 1) _ (([] ++ t1) ++ [(p1, p2)]) (by rfl) (by exact hr3) _ 0 _ (by rfl) t2 (by exact HL2.out) (Or.inl rfl) (by have := hB3.size; omega) (qs.length + 1) (by have h1 := HL1.out; have h2 := HL2.out; simp only [List.nil_append, List.length_append, List.length_cons, List.length_nil]; omega) (by omega) ?_; intro at3 cap3 w4 hr4 hb4 hg4))
            all_goals
              have hB4 : Below w.heap.size w w4 := HR.out.1.trans ((HW0.out.trans ((hB3.trans hb4).mono (Nat.le_succ _))).mono HR.out.1.size)
              have H4 : Hid (Below w.heap.size w w4 ∧ RowP w.heap.size (.slice at3 (qs.length + 1) cap3) (ins (·.1) (p1, p2) qs) w4 ∧ ins (·.1) (p1, p2) qs = srt (·.1) (ps.take (j + 1))) := by
                refine ⟨hB4, ?_, ?_⟩
                · have e : (([] ++ t1) ++ [(p1, p2)]) ++ t2 = ins (·.1) (p1, p2) qs := by
                    rw [HIN.out, HT1.out, HT2.out]
                    simp
                  rw [← e]
                  exact World.ownsRow.mono hr4 (Nat.le_trans HR.out.1.size (Nat.le_succ _))
                · rw [take_put HX.out, srt_snoc, ← HQ.out]
              clear hr2 hb2 hg2 hr3 hb3 hg3 hr4 hb4 hg4 hB2 hB3 hB4 d0 d1 R1 R3 BA P2 P3 HO
              go_wp2_with fail
              go_roundw
              case rel => exact ⟨j + 1, _, by omega, by go_num, H4.out.2.2, H4.out.1, H4.out.2.1⟩
              case measure => simp [intOf]; omega
    · obtain rfl : j = ps.length := by omega
      clear hb hr hpo
      go_wp2_with fail
      go_ret
      refine ⟨_, rfl, HR.out.1, ?_⟩
      have := HR.out.2.1
      rw [HQ.out, List.take_length] at this
      rw [HQ.out, List.take_length]
      exact this
end Go.Proofs.Ytckiihbnjfeplaa
