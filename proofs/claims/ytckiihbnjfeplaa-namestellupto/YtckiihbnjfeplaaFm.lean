/- The document's own answer: Merge, walked. -/
import Derived.Test.YtckiihbnjfeplaaFl
import Derived.Test.YtckiihbnjfeplaaFj
namespace Go.Proofs.Ytckiihbnjfeplaa
set_option linter.unusedVariables false
set_option linter.unusedSimpArgs false
open Go.RowKit

theorem beqS_ne {a b : ByteArray} (h : ¬ a = b) : (a.toList == b.toList) = false := by
  cases e : (a.toList == b.toList) with
  | false => rfl
  | true => exact absurd (beqS_true e) h

theorem set2Y {w : World} {b : Nat} {y0 y1 : Value} (h : w.heap[b]? = some (.cells #[y0, y1] 34 (0, 0))) (x0 x1 : Value) : ((w.setCell ⟨b, 0, none⟩ x0).setCell ⟨b, 1, none⟩ x1).heap[b]? = some (.cells #[x0, x1] 34 (0, 0)) := by
  rw [heap_setCellY (i := 1) (heap_setCellY (i := 0) h (by simp) x0) (by simp) x1]
  rfl
theorem mergeL_of {l : List Bd} {x : Int × Int} (h : mg [] 0 l = .inl x) : mergeL l = .inl x := by
  unfold mergeL
  rw [h]

theorem ret10 (tmps : Array Value) (b : Nat) (x y : Value) (w : World) (h4 : tmps.getD 3 undef = .pointer (some ⟨b, 0, none⟩)) (h : w.heap[b]? = some (.cells #[x, y] 34 (0, 0))) :
    (results Try.f10 tmps).run Try.prog w = .ok (.tuple #[tmps.getD 2 undef, .agg #[x, y]]) w := by
  have c0 : w.cell? ⟨b, 0, none⟩ = some x := by simp [World.cell?, h]
  have c1 : w.cell? ⟨b, 1, none⟩ = some y := by simp [World.cell?, h]
  rw [Array.getD_eq_getD_getElem?] at h4
  simp [results, Try.results10, h4, go_sem, c0, c1]

set_option maxRecDepth 100000 in
set_option maxHeartbeats 6400000 in
theorem refMerge_any (B : Nat) (l : List Bd) (c : Option Addr) (cc : Nat) (w : World) (h : Bns B w c l) (hB : B ≤ w.heap.size) (hl : l.length ≤ 4000000) :
    Calls Try.prog 10 #[.slice c l.length cc] w (OutM (mergeL l) w) := by
  have HP : Hid (Bns B w c l ∧ B ≤ w.heap.size) := ⟨h, hB⟩
  clear h hB
  go_enter Try.func10, Try.ntmps10
  go_wp2_with fail
  go_loopw [4, 10] (fun v i wr => ∃ (j : Nat) (out qs : List Bd), j ≤ l.length ∧ i = .int .i64 j ∧ Hid (qs = srt (·.1) out) ∧ Hid (mg [] 0 l = mg out j (l.drop j) ∧ (out.map (·.1)).Nodup ∧ out.length ≤ 200) ∧ Hid (wr.heap[w.heap.size]? = some (.cells #[.int .i64 0, .int .i64 0] 34 (0, 0))) ∧ Below w.heap.size w wr ∧ RowB (w.heap.size + 1) v qs wr) (fun _ i _ => l.length - (intOf i).toNat)
  case atStart => exact ⟨0, [], [], Nat.zero_le _, rfl, (rfl : ([] : List Bd) = srt (·.1) []), ⟨by simp, by simp, by simp⟩, heap_alloc_new w _, (Below.refl _ _).alloc (Nat.le_refl _) _, RowB.nil _ _⟩
  case round =>
    obtain ⟨j, out, qs, hj, rfl, HQ, HM, HFC, hb, hr⟩ := hrel
    have hql : qs.length ≤ 200 := by
      rw [HQ.out, (srt_perm _ _).length_eq]
      exact HM.out.2.2
    have hqo : qs.length = out.length := by rw [HQ.out, (srt_perm _ _).length_eq]
    have HQO : Hid (qs.length = out.length) := hqo
    clear hqo
    obtain ⟨oa, oc, hv, hpo⟩ := hr.lie (by omega)
    subst hv
    have hcap : qs.length ≤ oc := by
      rcases hr.2 with ⟨hv, h0⟩ | ⟨g, cap, cur, hv, hbg, hg, hnc, _⟩
      · omega
      · have := (by simpa using hv : oa = some ⟨g, 0, none⟩ ∧ oc = cap); omega
    have HR : Hid (Below w.heap.size w wr ∧ RowB (w.heap.size + 1) (.slice oa qs.length oc) qs wr ∧ Bns wr.heap.size wr oa qs) := ⟨hb, hr, hpo⟩
    have hrl : w.heap.size + 1 ≤ wr.heap.size := (Array.getElem?_eq_some_iff.1 HFC.out).1
    by_cases hlt : j < l.length
    · obtain ⟨b, o, p, rfl, hbB, hs, hc0, hc1, hc2⟩ := HP.out.1.at hlt
      have k0 := (hb.cell (p := ⟨b, o + j * 3, none⟩) (Nat.lt_of_lt_of_le hbB HP.out.2)).trans hc0
      have k1 := (hb.cell (p := ⟨b, o + j * 3 + 1, none⟩) (Nat.lt_of_lt_of_le hbB HP.out.2)).trans hc1
      have k2 := (hb.cell (p := ⟨b, o + j * 3 + 2, none⟩) (Nat.lt_of_lt_of_le hbB HP.out.2)).trans hc2
      obtain ⟨p1, p2, p3⟩ := p
      have HX : Hid (l[j]? = some (p1, p2, p3)) := hs
      have HD : Hid (l.drop j = (p1, p2, p3) :: l.drop (j + 1)) := by
        obtain ⟨q1, q2⟩ := List.getElem?_eq_some_iff.1 hs
        show l.drop j = _
        rw [List.drop_eq_getElem_cons q1, q2]
      simp only at k0 k1 k2
      clear hc0 hc1 hc2 hs hb hr hpo
      go_wp2_with fail
      have HW0 : Hid (Below wr.heap.size wr (wr.alloc (.cells #[.string p1, .string p2, .string p3] 53))) := (Below.refl _ _).alloc (Nat.le_refl _) _
      have cq0 : (wr.alloc (.cells #[.string p1, .string p2, .string p3] 53)).cell? ⟨wr.heap.size, 0, none⟩ = some (.string p1) := by simp [go_sem]
      have cq1 : (wr.alloc (.cells #[.string p1, .string p2, .string p3] 53)).cell? ⟨wr.heap.size, 1, none⟩ = some (.string p2) := by simp [go_sem]
      have cq2 : (wr.alloc (.cells #[.string p1, .string p2, .string p3] 53)).cell? ⟨wr.heap.size, 2, none⟩ = some (.string p3) := by simp [go_sem]
      have hsW : (wr.alloc (.cells #[.string p1, .string p2, .string p3] 53)).heap.size = wr.heap.size + 1 := by simp
      generalize (wr.alloc (.cells #[.string p1, .string p2, .string p3] 53)) = W0 at HW0 cq0 cq1 cq2 hsW ⊢
      clear k0 k1 k2
      have HFW : Hid (∀ W, Below (wr.heap.size + 1) W0 W → W.heap[w.heap.size]? = some (.cells #[.int .i64 0, .int .i64 0] 34 (0, 0))) := fun W hW => (hW.block _ (by omega)).trans ((HW0.out.block _ (by omega)).trans HFC.out)
      have fz0 : ∀ x, (W0.drewN x).cell? ⟨w.heap.size, 0, none⟩ = some (.int .i64 0) := fun x => by simp only [World.cell?, HFW.out _ (below_drewN (Below.refl _ _) x)]; rfl
      have fz1 : ∀ x, (W0.drewN x).cell? ⟨w.heap.size, 1, none⟩ = some (.int .i64 0) := fun x => by simp only [World.cell?, HFW.out _ (below_drewN (Below.refl _ _) x)]; rfl
      have ff0 : ∀ x q, (W0.drewN x).frozen? ⟨w.heap.size, q, none⟩ = false := fun x q => by
        have e := HFW.out _ (below_drewN (Below.refl _ _) x)
        simp only [World.frozen?, e]
        simp
      go_loopw [7] (fun i wk => ∃ (k m : Nat), k ≤ qs.length ∧ i = .int .i64 k ∧ Hid (∀ x ∈ qs.take k, ltB x.1 p1 = true) ∧ wk = W0.drewN m) (fun i _ => qs.length - (intOf i).toNat)
      case atStart => exact ⟨0, 0, Nat.zero_le _, rfl, by show ∀ x ∈ _, _; simp, rfl⟩
      case round =>
        obtain ⟨k, m, hk, rfl, HLT, rfl⟩ := hrel
        by_cases hkl : k < qs.length
        · obtain ⟨b2, o2, q, rfl, hb2, hq, hq0, hq1, hq2⟩ := HR.out.2.2.at hkl
          have g0 := (HW0.out.cell (p := ⟨b2, o2 + k * 3, none⟩) hb2).trans hq0
          have g1 := (HW0.out.cell (p := ⟨b2, o2 + k * 3 + 1, none⟩) hb2).trans hq1
          have g2 := (HW0.out.cell (p := ⟨b2, o2 + k * 3 + 2, none⟩) hb2).trans hq2
          obtain ⟨q1, q2, q3⟩ := q
          simp only at g0 g1 g2
          have HQX : Hid (qs[k]? = some (q1, q2, q3)) := hq
          clear hq0 hq1 hq2 hq
          have hdk : decide (k < qs.length) = true := decide_eq_true hkl
          cases hbl : Op.bytesLess q1.toList p1.toList with
          | true =>
            have HBE : Hid (ltB q1 p1 = true) := by
              show ltB q1 p1 = true
              rw [← bytesLess_ltB]
              exact hbl
            go_wp2_with fail
            go_quiet (fail)
            go_wp2_with fail
            go_roundw
            case rel =>
              refine ⟨k + 1, _, by omega, by go_num, ?_, rfl⟩
              show ∀ x ∈ _, _
              rw [take_put HQX.out]
              intro x hx
              rcases List.mem_append.1 hx with hx | hx
              · exact HLT.out x hx
              · simp at hx
                subst hx
                exact HBE.out
            case measure => simp [intOf]; omega
          | false =>
            have HGE : Hid (ltB q1 p1 = false) := by
              show ltB q1 p1 = false
              rw [← bytesLess_ltB]
              exact hbl
            have hock : ¬ oc = k := by omega
            have hkoc : k ≤ oc := by omega
            have HIN : Hid (ins (·.1) (p1, p2, p3) qs = qs.take k ++ (p1, p2, p3) :: qs.drop k) := ins_splitB qs k hk HLT.out (fun x hx => by
              rw [HQX.out] at hx
              cases hx
              exact HGE.out)
            by_cases hsame : q1 = p1
            · subst hsame
              have hqq : (q1.toList == q1.toList) = true := beqS_self q1
              by_cases hall : q2 = p2 ∧ q3 = p3
              · obtain ⟨rfl, rfl⟩ := hall
                have HM2 : Hid (mg [] 0 l = mg out (j + 1) (l.drop (j + 1)) ∧ (out.map (·.1)).Nodup ∧ out.length ≤ 200) := by
                  refine ⟨?_, HM.out.2.1, HM.out.2.2⟩
                  rw [HM.out.1, HD.out]
                  exact mg_same HM.out.2.1 (by rw [← HQ.out]; exact HQX.out)
                go_wp2_with fail
                go_quiet (fail)
                obtain ⟨n1, hn1⟩ : ∃ n1, n1 = nq := ⟨_, rfl⟩
                subst hn1
                go_wp2_with fail
                go_quiet (fail)
                obtain ⟨n2, hn2⟩ : ∃ n2, n2 = nq := ⟨_, rfl⟩
                subst hn2
                go_wp2_with fail
                go_quiet (fail)
                go_wp2_with fail
                exact ⟨⟨j + 1, out, qs, by omega, by go_num, HQ.out, HM2.out, HFW.out _ (below_drewN (Below.refl _ _) _), HR.out.1.trans ((HW0.out.trans ((below_drewN (Below.refl _ _) _ : Below (wr.heap.size + 1) W0 (W0.drewN (m + n1 + n2 + nq))).mono (Nat.le_succ _))).mono HR.out.1.size), HR.out.2.1.below (HW0.out.trans ((below_drewN (Below.refl _ _) _ : Below (wr.heap.size + 1) W0 (W0.drewN (m + n1 + n2 + nq))).mono (Nat.le_succ _)))⟩, by simp [intOf]; omega⟩
              · have HRES : Hid (mergeL l = .inl (8, (j : Int))) := by
                  show mergeL l = _
                  refine mergeL_of ?_
                  rw [HM.out.1, HD.out]
                  refine mg_differ (x := (q1, q2, q3)) HM.out.2.1 (by rw [← HQ.out]; exact HQX.out) rfl (fun e => hall ?_)
                  simpa using e
                by_cases hq2 : q2 = p2
                · subst hq2
                  have hq3 := beqS_ne (fun e : q3 = p3 => hall ⟨rfl, e⟩)
                  have hq4 : (q2.toList == q2.toList) = true := beqS_self q2
                  go_wp2_with fail
                  go_quiet (fail)
                  obtain ⟨n1, hn1⟩ : ∃ n1, n1 = nq := ⟨_, rfl⟩
                  subst hn1
                  go_wp2_with fail
                  go_quiet (fail)
                  obtain ⟨n2, hn2⟩ : ∃ n2, n2 = nq := ⟨_, rfl⟩
                  subst hn2
                  go_wp2_with fail
                  go_quiet (fail)
                  go_wp2_with fail
                  have HB9 : Hid (Below w.heap.size w (((W0.drewN (m + n1 + n2 + nq)).setCell ⟨w.heap.size, 0, none⟩ (.int .i64 8)).setCell ⟨w.heap.size, 1, none⟩ (.int .i64 j))) := (((HR.out.1.trans ((HW0.out.trans ((below_drewN (Below.refl _ _) _ : Below (wr.heap.size + 1) W0 (W0.drewN (m + n1 + n2 + nq))).mono (Nat.le_succ _))).mono HR.out.1.size)).setCell (p := ⟨w.heap.size, 0, none⟩) (Nat.le_refl _) _).setCell (p := ⟨w.heap.size, 1, none⟩) (Nat.le_refl _) _)
                  refine bodyPost_ret (ret10 _ w.heap.size _ _ _ rfl (set2Y (HFW.out _ (below_drewN (Below.refl _ _) _)) _ _)) rfl ?_
                  rw [HRES.out]
                  exact ⟨HB9.out, rfl⟩
                · have hq3 := beqS_ne hq2
                  go_wp2_with fail
                  go_quiet (fail)
                  obtain ⟨n1, hn1⟩ : ∃ n1, n1 = nq := ⟨_, rfl⟩
                  subst hn1
                  go_wp2_with fail
                  go_quiet (fail)
                  obtain ⟨n2, hn2⟩ : ∃ n2, n2 = nq := ⟨_, rfl⟩
                  subst hn2
                  go_wp2_with fail
                  go_quiet (fail)
                  go_wp2_with fail
                  have HB9 : Hid (Below w.heap.size w (((W0.drewN (m + n1 + n2 + nq)).setCell ⟨w.heap.size, 0, none⟩ (.int .i64 8)).setCell ⟨w.heap.size, 1, none⟩ (.int .i64 j))) := (((HR.out.1.trans ((HW0.out.trans ((below_drewN (Below.refl _ _) _ : Below (wr.heap.size + 1) W0 (W0.drewN (m + n1 + n2 + nq))).mono (Nat.le_succ _))).mono HR.out.1.size)).setCell (p := ⟨w.heap.size, 0, none⟩) (Nat.le_refl _) _).setCell (p := ⟨w.heap.size, 1, none⟩) (Nat.le_refl _) _)
                  refine bodyPost_ret (ret10 _ w.heap.size _ _ _ rfl (set2Y (HFW.out _ (below_drewN (Below.refl _ _) _)) _ _)) rfl ?_
                  rw [HRES.out]
                  exact ⟨HB9.out, rfl⟩
            · have hq := beqS_ne hsame
              have HNO : Hid (∀ x ∈ srt (·.1) out, x.1 ≠ (p1, p2, p3).1) := by
                show ∀ x ∈ _, _
                rw [← HQ.out]
                intro x hx e
                have e' : x.1 = p1 := e
                have hasc : Asc (·.1) qs := by rw [HQ.out]; exact srt_asc _ HM.out.2.1
                obtain ⟨t, ht⟩ := List.mem_iff_getElem?.1 hx
                rcases Nat.lt_trichotomy t k with c | c | c
                · have := HLT.out x (by rw [List.mem_iff_getElem?]; exact ⟨t, by rw [List.getElem?_take, if_pos c]; exact ht⟩)
                  rw [e', ltB_irrefl] at this
                  cases this
                · subst c
                  rw [HQX.out] at ht
                  cases ht
                  exact hsame e'
                · obtain ⟨lt, et⟩ := List.getElem?_eq_some_iff.1 ht
                  obtain ⟨lk, ek⟩ := List.getElem?_eq_some_iff.1 HQX.out
                  have h1 := List.pairwise_iff_getElem.1 hasc k t lk lt c
                  rw [et, ek] at h1
                  simp only at h1
                  rw [e'] at h1
                  have h2 := HGE.out
                  rw [h1] at h2
                  cases h2
              have HMG := mg_none (r := l.drop (j + 1)) (i := j) HNO.out
              have HMN : Hid (mg [] 0 l = if out.length = 200 then .inl (5, (j : Int)) else mg (out ++ [(p1, p2, p3)]) (j + 1) (l.drop (j + 1))) := by
                show mg [] 0 l = _
                rw [HM.out.1, HD.out]
                exact HMG
              clear HMG
              by_cases h200 : 200 ≤ qs.length
              · have HRES : Hid (mergeL l = .inl (5, (j : Int))) := by
                  have : out.length = 200 := by have := HQO.out; have := HM.out.2.2; omega
                  show mergeL l = _
                  refine mergeL_of ?_
                  rw [HMN.out, if_pos this]
                go_wp2_with fail
                go_quiet (fail)
                obtain ⟨n1, hn1⟩ : ∃ n1, n1 = nq := ⟨_, rfl⟩
                subst hn1
                go_wp2_with fail
                go_quiet (fail)
                go_wp2_with fail
                have HB9 : Hid (Below w.heap.size w (((W0.drewN (m + n1 + nq)).setCell ⟨w.heap.size, 0, none⟩ (.int .i64 5)).setCell ⟨w.heap.size, 1, none⟩ (.int .i64 j))) := (((HR.out.1.trans ((HW0.out.trans ((below_drewN (Below.refl _ _) _ : Below (wr.heap.size + 1) W0 (W0.drewN (m + n1 + nq))).mono (Nat.le_succ _))).mono HR.out.1.size)).setCell (p := ⟨w.heap.size, 0, none⟩) (Nat.le_refl _) _).setCell (p := ⟨w.heap.size, 1, none⟩) (Nat.le_refl _) _)
                refine bodyPost_ret (ret10 _ w.heap.size _ _ _ rfl (set2Y (HFW.out _ (below_drewN (Below.refl _ _) _)) _ _)) rfl ?_
                rw [HRES.out]
                exact ⟨HB9.out, rfl⟩
              · have HM2 : Hid (mg [] 0 l = mg (out ++ [(p1, p2, p3)]) (j + 1) (l.drop (j + 1)) ∧ ((out ++ [(p1, p2, p3)]).map (·.1)).Nodup ∧ (out ++ [(p1, p2, p3)]).length ≤ 200) := by
                  have h2 : ¬ out.length = 200 := by have := HQO.out; omega
                  refine ⟨?_, nodup_snoc HM.out.2.1 (fun x hx => HNO.out x ((srt_perm _ out).mem_iff.2 hx)), ?_⟩
                  · rw [HMN.out, if_neg h2]
                  · have := HQO.out
                    simp
                    omega
                go_wp2_with fail
                go_quiet (fail)
                obtain ⟨n1, hn1⟩ : ∃ n1, n1 = nq := ⟨_, rfl⟩
                subst hn1
                go_wp2_with fail
                go_quiet (fail)
                go_wp2_with fail
                have HW1 : Hid (Below (wr.heap.size + 1) W0 (W0.drewN (m + n1 + nq))) := below_drewN (Below.refl _ _) _
                have HF1 : Hid (∀ W, Below (wr.heap.size + 1) W0 W → W.heap[w.heap.size]? = some (.cells #[.int .i64 0, .int .i64 0] 34 (0, 0))) := HFW.out
                have hsW1 : (W0.drewN (m + n1 + nq)).heap.size = wr.heap.size + 1 := hsW
                have cw0 : (W0.drewN (m + n1 + nq)).cell? ⟨wr.heap.size, 0, none⟩ = some (.string p1) := cq0
                have cw1 : (W0.drewN (m + n1 + nq)).cell? ⟨wr.heap.size, 1, none⟩ = some (.string p2) := cq1
                have cw2 : (W0.drewN (m + n1 + nq)).cell? ⟨wr.heap.size, 2, none⟩ = some (.string p3) := cq2
                generalize W0.drewN (m + n1 + nq) = W1 at HW1 hsW1 cw0 cw1 cw2 ⊢
                obtain ⟨t1, HT1⟩ : ∃ t1, Hid (t1 = qs.take k) := ⟨_, rfl⟩
                obtain ⟨t2, HT2⟩ : ∃ t2, Hid (t2 = qs.drop k) := ⟨_, rfl⟩
                have HL1 : Hid (k = t1.length) := by show k = t1.length; rw [HT1.out, List.length_take]; omega
                have HL2 : Hid ((qs.length - k) = t2.length) := by show (qs.length - k) = t2.length; rw [HT2.out, List.length_drop]
                have HO : Hid (∀ W, Below (wr.heap.size + 1) W0 W → Src W (some ⟨b2, o2, none⟩) k (flatB t1) ∧ Src W (some ⟨b2, o2 + k * 3, none⟩) (qs.length - k) (flatB t2)) := fun W hb => by
                  have hb' : Below wr.heap.size wr W := HW0.out.trans (hb.mono (Nat.le_succ _))
                  refine ⟨?_, ?_⟩
                  · have := Src.afterB (HR.out.2.2.take k) hb'
                    rw [← HT1.out, ← HL1.out] at this
                    exact this
                  · have := Src.afterB (HR.out.2.2.drop k) hb'
                    rw [← HT2.out, ← HL2.out] at this
                    exact this
                have hbw : ∀ x, Below (wr.heap.size + 1) W0 (W1.drewN x) := fun x => below_drewN HW1.out x
                have R1 : Hid (RowB (wr.heap.size + 1) (.slice (some ⟨wr.heap.size + 1, 0, none⟩) 0 0) [] ((W1.drew).alloc (.cells #[] 53))) := by
                  have := RowB.lit (B := wr.heap.size + 1) (w := W1.drew) (by show wr.heap.size + 1 ≤ W1.heap.size; omega)
                  rw [show (W1.drew).heap.size = wr.heap.size + 1 from hsW1] at this
                  exact this
                have R3 : Hid (RowB (wr.heap.size + 1) (.slice (some ⟨wr.heap.size + 1 + 1, 0, none⟩) 0 0) [] (((W1.drew).alloc (.cells #[.string p1, .string p2, .string p3] 53)).alloc (.cells #[] 53))) := by
                  have := RowB.lit (B := wr.heap.size + 1) (w := (W1.drew).alloc (.cells #[.string p1, .string p2, .string p3] 53)) (by simp; omega)
                  have e : ((W1.drew).alloc (.cells #[.string p1, .string p2, .string p3] 53)).heap.size = wr.heap.size + 1 + 1 := by simp; exact hsW1
                  rw [e] at this
                  exact this
                have BA : Hid (Below (wr.heap.size + 1) W0 ((W1.drew).alloc (.cells #[] 53)) ∧ Below (wr.heap.size + 1) W0 (((W1.drew).alloc (.cells #[] 53)).alloc (.cells #[.string p1, .string p2, .string p3] 53)) ∧ Below (wr.heap.size + 1) W0 (((W1.drew).alloc (.cells #[.string p1, .string p2, .string p3] 53)).alloc (.cells #[] 53))) :=
                  ⟨(hbw _).alloc (by show wr.heap.size + 1 ≤ W1.heap.size; omega) _, ((hbw _).alloc (by show wr.heap.size + 1 ≤ W1.heap.size; omega) _).alloc (by simp; omega) _, ((hbw _).alloc (by show wr.heap.size + 1 ≤ W1.heap.size; omega) _).alloc (by simp; omega) _⟩
                have P2 : Hid (Src (((W1.drew).alloc (.cells #[] 53)).alloc (.cells #[.string p1, .string p2, .string p3] 53)) (some ⟨wr.heap.size + 1 + 1, 0, none⟩) 1 (flatB [(p1, p2, p3)])) := by
                  have := three_src ((W1.drew).alloc (.cells #[] 53)) p1 p2 p3
                  have e : ((W1.drew).alloc (.cells #[] 53)).heap.size = wr.heap.size + 1 + 1 := by simp; exact hsW1
                  rw [e] at this
                  exact this
                have P3 : Hid (Src (((W1.drew).alloc (.cells #[.string p1, .string p2, .string p3] 53)).alloc (.cells #[] 53)) (some ⟨wr.heap.size + 1, 0, none⟩) 1 (flatB [(p1, p2, p3)])) := by
                  have := three_alloc (three_src (W1.drew) p1 p2 p3) (.cells #[] 53)
                  rw [show (W1.drew).heap.size = wr.heap.size + 1 from hsW1] at this
                  exact this
                have cz0 : ∀ x, (W1.drewN x).cell? ⟨wr.heap.size, 0, none⟩ = some (.string p1) := fun x => cw0
                have cz1 : ∀ x, (W1.drewN x).cell? ⟨wr.heap.size, 1, none⟩ = some (.string p2) := fun x => cw1
                have cz2 : ∀ x, (W1.drewN x).cell? ⟨wr.heap.size, 2, none⟩ = some (.string p3) := fun x => cw2
                clear hbw
                go_region_law (first
                  | (refine step_joinB (by rfl) (.tmp 70) (.tmp 73) (by rfl) (wr.heap.size + 1) _ [] (by rfl) (by first | exact R1.out | exact R1.out.alloc _ | exact R3.out) (some ⟨b2, o2, none⟩) k _ (by rfl) t1 (by exact HL1.out) (by first | exact (HO.out _ BA.out.1).1 | exact (HO.out _ BA.out.2.1).1 | exact (HO.out _ BA.out.2.2).1) (by simp; omega) k (by have h1 := HL1.out; simp only [List.nil_append, List.length_append, List.length_cons, List.length_nil]; omega) (by omega) ?_; intro at1 cap1 w2 hr2 hb2 hg2; have hB2 : Below (wr.heap.size + 1) W0 w2 := (by first | exact BA.out.1.trans hb2 | exact BA.out.2.1.trans hb2 | exact BA.out.2.2.trans hb2); have d0 := (hB2.cell (p := ⟨wr.heap.size, 0, none⟩) (Nat.lt_succ_self _)).trans cq0; have d1 := (hB2.cell (p := ⟨wr.heap.size, 1, none⟩) (Nat.lt_succ_self _)).trans cq1; have d2 := (hB2.cell (p := ⟨wr.heap.size, 2, none⟩) (Nat.lt_succ_self _)).trans cq2)
                  | (refine step_joinB (by rfl) (.tmp 74) (.tmp 76) (by rfl) (wr.heap.size + 1) _ ([] ++ t1) (by rfl) (by first | exact hr2 | exact hr2.alloc _) (some _) 1 1 (by rfl) [(p1, p2, p3)] (by rfl) (by first | exact three_src _ _ _ _ | exact three_far P2.out hg2 (show some (wr.heap.size + 1 + 1) ≠ some (wr.heap.size + 1) by simp) | exact three_far P3.out hg2 (show some (wr.heap.size + 1) ≠ some (wr.heap.size + 1 + 1) by simp)) (by have := hB2.size; first | omega | (simp; omega)) (k + 1) (by have h1 := HL1.out; simp only [List.nil_append, List.length_append, List.length_cons, List.length_nil]; omega) (by omega) ?_; intro at2 cap2 w3 hr3 hb3 hg3; have hB3 : Below (wr.heap.size + 1) W0 w3 := (by first | exact hB2.trans hb3 | exact (hB2.alloc (by have := hB2.size; omega) _).trans hb3))
                  | (refine step_joinB (by rfl) (.tmp 77) (.tmp 80) (by rfl) (wr.heap.size + 1) _ (([] ++ t1) ++ [(p1, p2, p3)]) (by rfl) (by exact hr3) (some ⟨b2, o2 + k * 3, none⟩) (qs.length - k) _ (by rfl) t2 (by exact HL2.out) (by exact (HO.out _ hB3).2) (by have := hB3.size; omega) (qs.length + 1) (by have h1 := HL1.out; have h2 := HL2.out; simp only [List.nil_append, List.length_append, List.length_cons, List.length_nil]; omega) (by omega) ?_; intro at3 cap3 w4 hr4 hb4 hg4))
                all_goals
                  have hB4 : Below w.heap.size w w4 := HR.out.1.trans ((HW0.out.trans ((hB3.trans hb4).mono (Nat.le_succ _))).mono HR.out.1.size)
                  have H4 : Hid (Below w.heap.size w w4 ∧ RowB (w.heap.size + 1) (.slice at3 (qs.length + 1) cap3) (ins (·.1) (p1, p2, p3) qs) w4 ∧ ins (·.1) (p1, p2, p3) qs = srt (·.1) (out ++ [(p1, p2, p3)])) := by
                    refine ⟨hB4, ?_, ?_⟩
                    · have e : (([] ++ t1) ++ [(p1, p2, p3)]) ++ t2 = ins (·.1) (p1, p2, p3) qs := by
                        rw [HIN.out, HT1.out, HT2.out]
                        simp
                      rw [← e]
                      exact World.ownsRow.mono hr4 (by omega)
                    · rw [srt_snocB, ← HQ.out]
                  have HFC4 : Hid (w4.heap[w.heap.size]? = some (.cells #[.int .i64 0, .int .i64 0] 34 (0, 0))) := HF1.out _ (hB3.trans hb4)
                  clear hr2 hb2 hg2 hr3 hb3 hg3 hr4 hb4 hg4 hB2 hB3 hB4 d0 d1 d2 R1 R3 BA P2 P3 HO
                  go_wp2_with fail
                  go_roundw
                  case rel => exact ⟨j + 1, _, _, by omega, by go_num, H4.out.2.2, HM2.out, HFC4.out, H4.out.1, H4.out.2.1⟩
                  case measure => simp [intOf]; omega
        · obtain rfl : k = qs.length := by omega
          have HIN : Hid (ins (·.1) (p1, p2, p3) qs = qs.take qs.length ++ (p1, p2, p3) :: qs.drop qs.length) := ins_splitB qs qs.length (Nat.le_refl _) HLT.out (fun x hx => by simp at hx)
          have HNO : Hid (∀ x ∈ srt (·.1) out, x.1 ≠ (p1, p2, p3).1) := by
            show ∀ x ∈ _, _
            rw [← HQ.out]
            intro x hx e
            have e' : x.1 = p1 := e
            have := HLT.out x (by rw [List.take_length]; exact hx)
            rw [e', ltB_irrefl] at this
            cases this
          have HMN : Hid (mg [] 0 l = if out.length = 200 then .inl (5, (j : Int)) else mg (out ++ [(p1, p2, p3)]) (j + 1) (l.drop (j + 1))) := by
            show mg [] 0 l = _
            rw [HM.out.1, HD.out]
            exact mg_none HNO.out
          have hdk : decide (qs.length < qs.length) = false := decide_eq_false (by omega)
          by_cases h200 : 200 ≤ qs.length
          · have HRES : Hid (mergeL l = .inl (5, (j : Int))) := by
              have : out.length = 200 := by have := HQO.out; have := HM.out.2.2; omega
              show mergeL l = _
              refine mergeL_of ?_
              rw [HMN.out, if_pos this]
            go_wp2_with fail
            go_quiet (fail)
            obtain ⟨n1, hn1⟩ : ∃ n1, n1 = nq := ⟨_, rfl⟩
            subst hn1
            go_wp2_with fail
            go_quiet (fail)
            go_wp2_with fail
            have HB9 : Hid (Below w.heap.size w (((W0.drewN (m + n1 + nq)).setCell ⟨w.heap.size, 0, none⟩ (.int .i64 5)).setCell ⟨w.heap.size, 1, none⟩ (.int .i64 j))) := (((HR.out.1.trans ((HW0.out.trans ((below_drewN (Below.refl _ _) _ : Below (wr.heap.size + 1) W0 (W0.drewN (m + n1 + nq))).mono (Nat.le_succ _))).mono HR.out.1.size)).setCell (p := ⟨w.heap.size, 0, none⟩) (Nat.le_refl _) _).setCell (p := ⟨w.heap.size, 1, none⟩) (Nat.le_refl _) _)
            refine bodyPost_ret (ret10 _ w.heap.size _ _ _ rfl (set2Y (HFW.out _ (below_drewN (Below.refl _ _) _)) _ _)) rfl ?_
            rw [HRES.out]
            exact ⟨HB9.out, rfl⟩
          · have HM2 : Hid (mg [] 0 l = mg (out ++ [(p1, p2, p3)]) (j + 1) (l.drop (j + 1)) ∧ ((out ++ [(p1, p2, p3)]).map (·.1)).Nodup ∧ (out ++ [(p1, p2, p3)]).length ≤ 200) := by
              have h2 : ¬ out.length = 200 := by have := HQO.out; omega
              refine ⟨?_, nodup_snoc HM.out.2.1 (fun x hx => HNO.out x ((srt_perm _ out).mem_iff.2 hx)), ?_⟩
              · rw [HMN.out, if_neg h2]
              · have := HQO.out
                simp
                omega
            rcases HR.out.2.1.2 with ⟨hv, h0⟩ | ⟨g, cap, cur, hv, _⟩
            · have hq0 : qs = [] := List.length_eq_zero_iff.1 h0
              subst hq0
              obtain ⟨rfl, rfl⟩ : oa = none ∧ oc = 0 := by simpa using hv
              clear hv h0 hcap hql hk hkl h200 hdk
              have hdk : decide (0 < ([] : List Bd).length) = false := by simp
              go_wp2_with fail
              go_quiet (fail)
              obtain ⟨n1, hn1⟩ : ∃ n1, n1 = nq := ⟨_, rfl⟩
              subst hn1
              go_wp2_with fail
              go_quiet (fail)
              go_wp2_with fail
              have HW1 : Hid (Below (wr.heap.size + 1) W0 (W0.drewN (m + n1 + nq))) := below_drewN (Below.refl _ _) _
              have HF1 : Hid (∀ W, Below (wr.heap.size + 1) W0 W → W.heap[w.heap.size]? = some (.cells #[.int .i64 0, .int .i64 0] 34 (0, 0))) := HFW.out
              have hsW1 : (W0.drewN (m + n1 + nq)).heap.size = wr.heap.size + 1 := hsW
              have cw0 : (W0.drewN (m + n1 + nq)).cell? ⟨wr.heap.size, 0, none⟩ = some (.string p1) := cq0
              have cw1 : (W0.drewN (m + n1 + nq)).cell? ⟨wr.heap.size, 1, none⟩ = some (.string p2) := cq1
              have cw2 : (W0.drewN (m + n1 + nq)).cell? ⟨wr.heap.size, 2, none⟩ = some (.string p3) := cq2
              generalize W0.drewN (m + n1 + nq) = W1 at HW1 hsW1 cw0 cw1 cw2 ⊢
              obtain ⟨t1, HT1⟩ : ∃ t1, Hid (t1 = ([] : List Bd).take 0) := ⟨_, rfl⟩
              obtain ⟨t2, HT2⟩ : ∃ t2, Hid (t2 = ([] : List Bd).drop 0) := ⟨_, rfl⟩
              have HL1 : Hid (0 = t1.length) := by show 0 = t1.length; rw [HT1.out]; simp
              have HL2 : Hid (0 = t2.length) := by show 0 = t2.length; rw [HT2.out]; simp
              have HO : Hid (∀ W, Below (wr.heap.size + 1) W0 W → Src W none 0 (flatB t1) ∧ True) := fun W hb => by
                have hb' : Below wr.heap.size wr W := HW0.out.trans (hb.mono (Nat.le_succ _))
                refine ⟨?_, ?_⟩
                · have := Src.afterB (HR.out.2.2.take 0) hb'
                  rw [← HT1.out, ← HL1.out] at this
                  exact this
                · trivial
              have hbw : ∀ x, Below (wr.heap.size + 1) W0 (W1.drewN x) := fun x => below_drewN HW1.out x
              have R1 : Hid (RowB (wr.heap.size + 1) (.slice (some ⟨wr.heap.size + 1, 0, none⟩) 0 0) [] ((W1.drew).alloc (.cells #[] 53))) := by
                have := RowB.lit (B := wr.heap.size + 1) (w := W1.drew) (by show wr.heap.size + 1 ≤ W1.heap.size; omega)
                rw [show (W1.drew).heap.size = wr.heap.size + 1 from hsW1] at this
                exact this
              have R3 : Hid (RowB (wr.heap.size + 1) (.slice (some ⟨wr.heap.size + 1 + 1, 0, none⟩) 0 0) [] (((W1.drew).alloc (.cells #[.string p1, .string p2, .string p3] 53)).alloc (.cells #[] 53))) := by
                have := RowB.lit (B := wr.heap.size + 1) (w := (W1.drew).alloc (.cells #[.string p1, .string p2, .string p3] 53)) (by simp; omega)
                have e : ((W1.drew).alloc (.cells #[.string p1, .string p2, .string p3] 53)).heap.size = wr.heap.size + 1 + 1 := by simp; exact hsW1
                rw [e] at this
                exact this
              have BA : Hid (Below (wr.heap.size + 1) W0 ((W1.drew).alloc (.cells #[] 53)) ∧ Below (wr.heap.size + 1) W0 (((W1.drew).alloc (.cells #[] 53)).alloc (.cells #[.string p1, .string p2, .string p3] 53)) ∧ Below (wr.heap.size + 1) W0 (((W1.drew).alloc (.cells #[.string p1, .string p2, .string p3] 53)).alloc (.cells #[] 53))) :=
                ⟨(hbw _).alloc (by show wr.heap.size + 1 ≤ W1.heap.size; omega) _, ((hbw _).alloc (by show wr.heap.size + 1 ≤ W1.heap.size; omega) _).alloc (by simp; omega) _, ((hbw _).alloc (by show wr.heap.size + 1 ≤ W1.heap.size; omega) _).alloc (by simp; omega) _⟩
              have P2 : Hid (Src (((W1.drew).alloc (.cells #[] 53)).alloc (.cells #[.string p1, .string p2, .string p3] 53)) (some ⟨wr.heap.size + 1 + 1, 0, none⟩) 1 (flatB [(p1, p2, p3)])) := by
                have := three_src ((W1.drew).alloc (.cells #[] 53)) p1 p2 p3
                have e : ((W1.drew).alloc (.cells #[] 53)).heap.size = wr.heap.size + 1 + 1 := by simp; exact hsW1
                rw [e] at this
                exact this
              have P3 : Hid (Src (((W1.drew).alloc (.cells #[.string p1, .string p2, .string p3] 53)).alloc (.cells #[] 53)) (some ⟨wr.heap.size + 1, 0, none⟩) 1 (flatB [(p1, p2, p3)])) := by
                have := three_alloc (three_src (W1.drew) p1 p2 p3) (.cells #[] 53)
                rw [show (W1.drew).heap.size = wr.heap.size + 1 from hsW1] at this
                exact this
              have cz0 : ∀ x, (W1.drewN x).cell? ⟨wr.heap.size, 0, none⟩ = some (.string p1) := fun x => cw0
              have cz1 : ∀ x, (W1.drewN x).cell? ⟨wr.heap.size, 1, none⟩ = some (.string p2) := fun x => cw1
              have cz2 : ∀ x, (W1.drewN x).cell? ⟨wr.heap.size, 2, none⟩ = some (.string p3) := fun x => cw2
              clear hbw
              go_region_law (first
                | (refine step_joinB (by rfl) (.tmp 70) (.tmp 73) (by rfl) (wr.heap.size + 1) _ [] (by rfl) (by first | exact R1.out | exact R1.out.alloc _ | exact R3.out) none 0 _ (by rfl) t1 (by exact HL1.out) (by first | exact (HO.out _ BA.out.1).1 | exact (HO.out _ BA.out.2.1).1 | exact (HO.out _ BA.out.2.2).1) (by simp; omega) 0 (by have h1 := HL1.out; simp only [List.nil_append, List.length_append, List.length_cons, List.length_nil]; omega) (by omega) ?_; intro at1 cap1 w2 hr2 hb2 hg2; have hB2 : Below (wr.heap.size + 1) W0 w2 := (by first | exact BA.out.1.trans hb2 | exact BA.out.2.1.trans hb2 | exact BA.out.2.2.trans hb2); have d0 := (hB2.cell (p := ⟨wr.heap.size, 0, none⟩) (Nat.lt_succ_self _)).trans cq0; have d1 := (hB2.cell (p := ⟨wr.heap.size, 1, none⟩) (Nat.lt_succ_self _)).trans cq1; have d2 := (hB2.cell (p := ⟨wr.heap.size, 2, none⟩) (Nat.lt_succ_self _)).trans cq2)
                | (refine step_joinB (by rfl) (.tmp 74) (.tmp 76) (by rfl) (wr.heap.size + 1) _ ([] ++ t1) (by rfl) (by first | exact hr2 | exact hr2.alloc _) (some _) 1 1 (by rfl) [(p1, p2, p3)] (by rfl) (by first | exact three_src _ _ _ _ | exact three_far P2.out hg2 (show some (wr.heap.size + 1 + 1) ≠ some (wr.heap.size + 1) by simp) | exact three_far P3.out hg2 (show some (wr.heap.size + 1) ≠ some (wr.heap.size + 1 + 1) by simp)) (by have := hB2.size; first | omega | (simp; omega)) 1 (by have h1 := HL1.out; simp only [List.nil_append, List.length_append, List.length_cons, List.length_nil]; omega) (by omega) ?_; intro at2 cap2 w3 hr3 hb3 hg3; have hB3 : Below (wr.heap.size + 1) W0 w3 := (by first | exact hB2.trans hb3 | exact (hB2.alloc (by have := hB2.size; omega) _).trans hb3))
                | (refine step_joinB (by rfl) (.tmp 77) (.tmp 80) (by rfl) (wr.heap.size + 1) _ (([] ++ t1) ++ [(p1, p2, p3)]) (by rfl) (by exact hr3) _ 0 _ (by rfl) t2 (by exact HL2.out) (Or.inl rfl) (by have := hB3.size; omega) 1 (by have h1 := HL1.out; have h2 := HL2.out; simp only [List.nil_append, List.length_append, List.length_cons, List.length_nil]; omega) (by omega) ?_; intro at3 cap3 w4 hr4 hb4 hg4))
              all_goals
                have hB4 : Below w.heap.size w w4 := HR.out.1.trans ((HW0.out.trans ((hB3.trans hb4).mono (Nat.le_succ _))).mono HR.out.1.size)
                have H4 : Hid (Below w.heap.size w w4 ∧ RowB (w.heap.size + 1) (.slice at3 1 cap3) (ins (·.1) (p1, p2, p3) ([] : List Bd)) w4 ∧ ins (·.1) (p1, p2, p3) ([] : List Bd) = srt (·.1) (out ++ [(p1, p2, p3)])) := by
                  refine ⟨hB4, ?_, ?_⟩
                  · have e : (([] ++ t1) ++ [(p1, p2, p3)]) ++ t2 = ins (·.1) (p1, p2, p3) ([] : List Bd) := by
                      rw [HIN.out, HT1.out, HT2.out]
                      simp
                    rw [← e]
                    exact World.ownsRow.mono hr4 (by omega)
                  · rw [srt_snocB, ← HQ.out]
                have HFC4 : Hid (w4.heap[w.heap.size]? = some (.cells #[.int .i64 0, .int .i64 0] 34 (0, 0))) := HF1.out _ (hB3.trans hb4)
                clear hr2 hb2 hg2 hr3 hb3 hg3 hr4 hb4 hg4 hB2 hB3 hB4 d0 d1 d2 R1 R3 BA P2 P3 HO
                go_wp2_with fail
                go_roundw
                case rel => exact ⟨j + 1, _, _, by omega, by go_num, H4.out.2.2, HM2.out, HFC4.out, H4.out.1, H4.out.2.1⟩
                case measure => simp [intOf]; omega
            · obtain ⟨rfl, rfl⟩ : oa = some ⟨g, 0, none⟩ ∧ oc = cap := by simpa using hv
              clear hv
              go_wp2_with fail
              go_quiet (fail)
              obtain ⟨n1, hn1⟩ : ∃ n1, n1 = nq := ⟨_, rfl⟩
              subst hn1
              go_wp2_with fail
              go_quiet (fail)
              go_wp2_with fail
              have HW1 : Hid (Below (wr.heap.size + 1) W0 (W0.drewN (m + n1 + nq))) := below_drewN (Below.refl _ _) _
              have HF1 : Hid (∀ W, Below (wr.heap.size + 1) W0 W → W.heap[w.heap.size]? = some (.cells #[.int .i64 0, .int .i64 0] 34 (0, 0))) := HFW.out
              have hsW1 : (W0.drewN (m + n1 + nq)).heap.size = wr.heap.size + 1 := hsW
              have cw0 : (W0.drewN (m + n1 + nq)).cell? ⟨wr.heap.size, 0, none⟩ = some (.string p1) := cq0
              have cw1 : (W0.drewN (m + n1 + nq)).cell? ⟨wr.heap.size, 1, none⟩ = some (.string p2) := cq1
              have cw2 : (W0.drewN (m + n1 + nq)).cell? ⟨wr.heap.size, 2, none⟩ = some (.string p3) := cq2
              generalize W0.drewN (m + n1 + nq) = W1 at HW1 hsW1 cw0 cw1 cw2 ⊢
              obtain ⟨t1, HT1⟩ : ∃ t1, Hid (t1 = qs.take qs.length) := ⟨_, rfl⟩
              obtain ⟨t2, HT2⟩ : ∃ t2, Hid (t2 = qs.drop qs.length) := ⟨_, rfl⟩
              have HL1 : Hid (qs.length = t1.length) := by show qs.length = t1.length; rw [HT1.out, List.length_take]; omega
              have HL2 : Hid (0 = t2.length) := by show 0 = t2.length; rw [HT2.out, List.length_drop]; omega
              have HO : Hid (∀ W, Below (wr.heap.size + 1) W0 W → Src W (some ⟨g, 0, none⟩) qs.length (flatB t1) ∧ True) := fun W hb => by
                have hb' : Below wr.heap.size wr W := HW0.out.trans (hb.mono (Nat.le_succ _))
                refine ⟨?_, ?_⟩
                · have := Src.afterB (HR.out.2.2.take qs.length) hb'
                  rw [← HT1.out, ← HL1.out] at this
                  exact this
                · trivial
              have hbw : ∀ x, Below (wr.heap.size + 1) W0 (W1.drewN x) := fun x => below_drewN HW1.out x
              have R1 : Hid (RowB (wr.heap.size + 1) (.slice (some ⟨wr.heap.size + 1, 0, none⟩) 0 0) [] ((W1.drew).alloc (.cells #[] 53))) := by
                have := RowB.lit (B := wr.heap.size + 1) (w := W1.drew) (by show wr.heap.size + 1 ≤ W1.heap.size; omega)
                rw [show (W1.drew).heap.size = wr.heap.size + 1 from hsW1] at this
                exact this
              have R3 : Hid (RowB (wr.heap.size + 1) (.slice (some ⟨wr.heap.size + 1 + 1, 0, none⟩) 0 0) [] (((W1.drew).alloc (.cells #[.string p1, .string p2, .string p3] 53)).alloc (.cells #[] 53))) := by
                have := RowB.lit (B := wr.heap.size + 1) (w := (W1.drew).alloc (.cells #[.string p1, .string p2, .string p3] 53)) (by simp; omega)
                have e : ((W1.drew).alloc (.cells #[.string p1, .string p2, .string p3] 53)).heap.size = wr.heap.size + 1 + 1 := by simp; exact hsW1
                rw [e] at this
                exact this
              have BA : Hid (Below (wr.heap.size + 1) W0 ((W1.drew).alloc (.cells #[] 53)) ∧ Below (wr.heap.size + 1) W0 (((W1.drew).alloc (.cells #[] 53)).alloc (.cells #[.string p1, .string p2, .string p3] 53)) ∧ Below (wr.heap.size + 1) W0 (((W1.drew).alloc (.cells #[.string p1, .string p2, .string p3] 53)).alloc (.cells #[] 53))) :=
                ⟨(hbw _).alloc (by show wr.heap.size + 1 ≤ W1.heap.size; omega) _, ((hbw _).alloc (by show wr.heap.size + 1 ≤ W1.heap.size; omega) _).alloc (by simp; omega) _, ((hbw _).alloc (by show wr.heap.size + 1 ≤ W1.heap.size; omega) _).alloc (by simp; omega) _⟩
              have P2 : Hid (Src (((W1.drew).alloc (.cells #[] 53)).alloc (.cells #[.string p1, .string p2, .string p3] 53)) (some ⟨wr.heap.size + 1 + 1, 0, none⟩) 1 (flatB [(p1, p2, p3)])) := by
                have := three_src ((W1.drew).alloc (.cells #[] 53)) p1 p2 p3
                have e : ((W1.drew).alloc (.cells #[] 53)).heap.size = wr.heap.size + 1 + 1 := by simp; exact hsW1
                rw [e] at this
                exact this
              have P3 : Hid (Src (((W1.drew).alloc (.cells #[.string p1, .string p2, .string p3] 53)).alloc (.cells #[] 53)) (some ⟨wr.heap.size + 1, 0, none⟩) 1 (flatB [(p1, p2, p3)])) := by
                have := three_alloc (three_src (W1.drew) p1 p2 p3) (.cells #[] 53)
                rw [show (W1.drew).heap.size = wr.heap.size + 1 from hsW1] at this
                exact this
              have cz0 : ∀ x, (W1.drewN x).cell? ⟨wr.heap.size, 0, none⟩ = some (.string p1) := fun x => cw0
              have cz1 : ∀ x, (W1.drewN x).cell? ⟨wr.heap.size, 1, none⟩ = some (.string p2) := fun x => cw1
              have cz2 : ∀ x, (W1.drewN x).cell? ⟨wr.heap.size, 2, none⟩ = some (.string p3) := fun x => cw2
              clear hbw
              go_region_law (first
                | (refine step_joinB (by rfl) (.tmp 70) (.tmp 73) (by rfl) (wr.heap.size + 1) _ [] (by rfl) (by first | exact R1.out | exact R1.out.alloc _ | exact R3.out) (some ⟨g, 0, none⟩) qs.length _ (by rfl) t1 (by exact HL1.out) (by first | exact (HO.out _ BA.out.1).1 | exact (HO.out _ BA.out.2.1).1 | exact (HO.out _ BA.out.2.2).1) (by simp; omega) qs.length (by have h1 := HL1.out; simp only [List.nil_append, List.length_append, List.length_cons, List.length_nil]; omega) (by omega) ?_; intro at1 cap1 w2 hr2 hb2 hg2; have hB2 : Below (wr.heap.size + 1) W0 w2 := (by first | exact BA.out.1.trans hb2 | exact BA.out.2.1.trans hb2 | exact BA.out.2.2.trans hb2); have d0 := (hB2.cell (p := ⟨wr.heap.size, 0, none⟩) (Nat.lt_succ_self _)).trans cq0; have d1 := (hB2.cell (p := ⟨wr.heap.size, 1, none⟩) (Nat.lt_succ_self _)).trans cq1; have d2 := (hB2.cell (p := ⟨wr.heap.size, 2, none⟩) (Nat.lt_succ_self _)).trans cq2)
                | (refine step_joinB (by rfl) (.tmp 74) (.tmp 76) (by rfl) (wr.heap.size + 1) _ ([] ++ t1) (by rfl) (by first | exact hr2 | exact hr2.alloc _) (some _) 1 1 (by rfl) [(p1, p2, p3)] (by rfl) (by first | exact three_src _ _ _ _ | exact three_far P2.out hg2 (show some (wr.heap.size + 1 + 1) ≠ some (wr.heap.size + 1) by simp) | exact three_far P3.out hg2 (show some (wr.heap.size + 1) ≠ some (wr.heap.size + 1 + 1) by simp)) (by have := hB2.size; first | omega | (simp; omega)) (qs.length + 1) (by have h1 := HL1.out; simp only [List.nil_append, List.length_append, List.length_cons, List.length_nil]; omega) (by omega) ?_; intro at2 cap2 w3 hr3 hb3 hg3; have hB3 : Below (wr.heap.size + 1) W0 w3 := (by first | exact hB2.trans hb3 | exact (hB2.alloc (by have := hB2.size; omega) _).trans hb3))
                | (refine step_joinB (by rfl) (.tmp 77) (.tmp 80) (by rfl) (wr.heap.size + 1) _ (([] ++ t1) ++ [(p1, p2, p3)]) (by rfl) (by exact hr3) _ 0 _ (by rfl) t2 (by exact HL2.out) (Or.inl rfl) (by have := hB3.size; omega) (qs.length + 1) (by have h1 := HL1.out; have h2 := HL2.out; simp only [List.nil_append, List.length_append, List.length_cons, List.length_nil]; omega) (by omega) ?_; intro at3 cap3 w4 hr4 hb4 hg4))
              all_goals
                have hB4 : Below w.heap.size w w4 := HR.out.1.trans ((HW0.out.trans ((hB3.trans hb4).mono (Nat.le_succ _))).mono HR.out.1.size)
                have H4 : Hid (Below w.heap.size w w4 ∧ RowB (w.heap.size + 1) (.slice at3 (qs.length + 1) cap3) (ins (·.1) (p1, p2, p3) qs) w4 ∧ ins (·.1) (p1, p2, p3) qs = srt (·.1) (out ++ [(p1, p2, p3)])) := by
                  refine ⟨hB4, ?_, ?_⟩
                  · have e : (([] ++ t1) ++ [(p1, p2, p3)]) ++ t2 = ins (·.1) (p1, p2, p3) qs := by
                      rw [HIN.out, HT1.out, HT2.out]
                      simp
                    rw [← e]
                    exact World.ownsRow.mono hr4 (by omega)
                  · rw [srt_snocB, ← HQ.out]
                have HFC4 : Hid (w4.heap[w.heap.size]? = some (.cells #[.int .i64 0, .int .i64 0] 34 (0, 0))) := HF1.out _ (hB3.trans hb4)
                clear hr2 hb2 hg2 hr3 hb3 hg3 hr4 hb4 hg4 hB2 hB3 hB4 d0 d1 d2 R1 R3 BA P2 P3 HO
                go_wp2_with fail
                go_roundw
                case rel => exact ⟨j + 1, _, _, by omega, by go_num, H4.out.2.2, HM2.out, HFC4.out, H4.out.1, H4.out.2.1⟩
                case measure => simp [intOf]; omega
    · obtain rfl : j = l.length := by omega
      have HRES : Hid (mergeL l = .inr qs) := by
        show mergeL l = _
        unfold mergeL
        rw [HM.out.1, List.drop_length, HQ.out]
        rfl
      have u0 : wr.cell? ⟨w.heap.size, 0, none⟩ = some (.int .i64 0) := by simp only [World.cell?, HFC.out]; rfl
      have u1 : wr.cell? ⟨w.heap.size, 1, none⟩ = some (.int .i64 0) := by simp only [World.cell?, HFC.out]; rfl
      have ff : ∀ q, wr.frozen? ⟨w.heap.size, q, none⟩ = false := fun q => by simp only [World.frozen?, HFC.out]; simp
      clear hb hr hpo
      go_wp2_with fail
      refine bodyPost_ret (ret10 _ w.heap.size _ _ _ rfl (set2Y HFC.out _ _)) rfl ?_
      rw [HRES.out]
      refine ⟨below_set2 HR.out.1 (Nat.le_refl _) _ _, oa, oc, rfl, ?_⟩
      have hne : ∀ b o, oa = some ⟨b, o, none⟩ → b ≠ w.heap.size := fun b o e q => by
        subst e
        have := (World.ownsRow.lt HR.out.2.1 b rfl).1
        omega
      have := HR.out.2.2.set hne (.int .i64 0) (.int .i64 0)
      simpa using this
end Go.Proofs.Ytckiihbnjfeplaa
