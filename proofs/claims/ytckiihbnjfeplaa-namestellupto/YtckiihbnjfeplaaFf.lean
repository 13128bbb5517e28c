/- The document's own answer: Bring, by kind: rename. -/
import Derived.Test.YtckiihbnjfeplaaFd
import Derived.Test.YtckiihbnjfeplaaWh
namespace Go.Proofs.Ytckiihbnjfeplaa
set_option linter.unusedVariables false
set_option linter.unusedSimpArgs false
open Go.RowKit

set_option maxRecDepth 100000 in
set_option maxHeartbeats 6400000 in
theorem Bring_ren (na : ByteArray) (nn nas : List ByteArray) (pr : ByteArray) (B : Nat) (a0 a1 : Option Addr) (b o c0 c1 c2 : Nat) (w : World)
    (h : LiesL B w ⟨5, na, nn, nas, pr⟩ a0 a1) (hB : B ≤ w.heap.size) (hle : nas.length = nn.length) (hall : nas.all namedB = true) (hb : b < B) (R : Sum Int (List Pr)) (hfine : ∀ ps, R = .inr ps → Fine ps)
    (l : Ly) (e0 e1 e2 : Option Addr) (f0 f1 f2 m : Nat) (hc : ∀ (i : Nat) (v : Value), (setV l e0 e1 e2 f0 f1 f2 m)[i]? = some v → w.cell? ⟨b, o + i, none⟩ = some v)
    (pv : Value) (hcall : ∀ w', Below w.heap.size w w' → Calls Try.prog 21 #[setA l e0 e1 e2 f0 f1 f2 m, pv] w' fun e w'' => Below w'.heap.size w' w'' ∧ Brings R e w'') :
    Calls Try.prog 21 #[.agg #[.int .i64 5, .string na, .slice a0 nn.length c0, .slice a1 nas.length c1, .string pr, .slice (some ⟨b, o, none⟩) 1 c2], pv] w fun e w' => Below w.heap.size w w' ∧ Brings (onto ⟨5, na, nn, nas, pr⟩ R) e w' := by
  have HC : Hid (∀ w', Below w.heap.size w w' → Calls Try.prog 21 #[setA l e0 e1 e2 f0 f1 f2 m, pv] w' fun e w'' => Below w'.heap.size w' w'' ∧ Brings R e w'') := hcall
  have HBW : Hid (Below w.heap.size w (w.alloc (.cells #[.int .i64 5, .string na, .slice a0 nn.length c0, .slice a1 nas.length c1, .string pr, .slice (some ⟨b, o, none⟩) 1 c2] 25))) := (Below.refl _ _).alloc (Nat.le_refl _) _
  have e : ∀ q, (w.alloc (.cells #[.int .i64 5, .string na, .slice a0 nn.length c0, .slice a1 nas.length c1, .string pr, .slice (some ⟨b, o, none⟩) 1 c2] 25)).cell? ⟨b, q, none⟩ = w.cell? ⟨b, q, none⟩ := fun q => HBW.out.cell (p := ⟨b, q, none⟩) (Nat.lt_of_lt_of_le hb hB)
  have k0 := (e _).trans (hc 0 _ rfl)
  have k1 := (e _).trans (hc 1 _ rfl)
  have k2 := (e _).trans (hc 2 _ rfl)
  have k3 := (e _).trans (hc 3 _ rfl)
  have k4 := (e _).trans (hc 4 _ rfl)
  have k5 := (e _).trans (hc 5 _ rfl)
  simp only [Nat.add_zero] at k0
  have HL : Hid (Strs B w a0 nn ∧ B ≤ w.heap.size) := ⟨h.names, hB⟩
  have HAS1 : Hid (Strs B w a1 nas ∧ nas.length = nn.length ∧ nas.all namedB = true) := ⟨h.asn, hle, hall⟩
  have hal := h.asn.1
  have hnl := h.names.1
  have HF : Hid (∀ ps, R = .inr ps → Fine ps) := hfine
  clear hc hcall e h hfine hle hall
  go_enter Try.func21, Try.ntmps21
  go_wp2_with fail
  refine (HC.out _ HBW.out).mono ?_
  rintro e w1 ⟨hb1, hbr⟩
  have HB1 : Hid (Below w.heap.size w w1 ∧ w1.heap[w.heap.size]? = some (.cells #[.int .i64 5, .string na, .slice a0 nn.length c0, .slice a1 nas.length c1, .string pr, .slice (some ⟨b, o, none⟩) 1 c2] 25 (0, 0))) := ⟨HBW.out.trans (hb1.mono HBW.out.size), (hb1.block _ (by simp)).trans (heap_alloc_new w _)⟩
  clear hb1 k0 k1 k2 k3 k4 k5
  cases R with
  | inl r =>
    obtain ⟨hr0, rfl⟩ := hbr
    have hr1 : (r == 0) = false := by simpa using hr0
    go_wp2_with fail
    go_ret2
    exact ⟨HB1.out.1, hr0, rfl⟩
  | inr ps =>
    obtain ⟨ka, kc, rfl, hps⟩ := hbr
    have HPS : Hid (Prs w1.heap.size w1 ka ps ∧ Fine ps) := ⟨hps, HF.out ps rfl⟩
    have hpl := hps.1
    have b0 : w1.cell? ⟨w.heap.size, 0, none⟩ = some (.int .i64 5) := by simp only [World.cell?, HB1.out.2]; rfl
    have b2 : w1.cell? ⟨w.heap.size, 2, none⟩ = some (.slice a0 nn.length c0) := by simp only [World.cell?, HB1.out.2]; rfl
    clear hps
    go_wp2_with fail
    have HNM : Hid (∀ (W : World), Below w1.heap.size w1 W → Strs B W a0 nn) := fun W hW => HL.out.1.stay (fun k hk => (HB1.out.1.trans (hW.mono HB1.out.1.size)).block k (Nat.lt_of_lt_of_le hk HL.out.2)) (Nat.le_refl _)
    go_loopw [38] (fun iv wr => ∃ (j : Nat), j ≤ nn.length ∧ iv = .int .i64 j ∧ Hid (∀ n ∈ nn.take j, n ∈ ps.map (·.1)) ∧ Hid (Below w1.heap.size w1 wr)) (fun iv _ => nn.length - (intOf iv).toNat)
    case atStart => exact ⟨0, Nat.zero_le _, rfl, by show ∀ n ∈ _, _; simp, Below.refl _ _⟩
    case round =>
      clear b0 b2
      obtain ⟨j, hj, rfl, HN, HR⟩ := hrel
      by_cases hlt : j < nn.length
      · obtain ⟨bs, os, n, hab, hbs, hs, hcs, hsz⟩ := (HNM.out _ HR.out).at hlt
        subst hab
        have HX : Hid (nn[j]? = some n) := hs
        have HAS := Has_any w1.heap.size ps ka kc n wr (HPS.out.1.size_le HR.out (Nat.le_refl _)) HR.out.size
        clear hs
        go_wp2_with fail
        refine HAS.mono ?_
        clear HAS
        rintro e w2 ⟨rfl, hb2⟩
        have HR2 : Hid (Below w1.heap.size w1 w2) := HR.out.trans (hb2.mono HR.out.size)
        clear hb2 hcs
        cases hd : decide (n ∈ ps.map (·.1)) with
        | false =>
          have HE : Hid (onto ⟨5, na, nn, nas, pr⟩ (.inr ps) = .inl 6) := by
            show step _ ps = _
            have hno : ¬ ∀ n ∈ nn, n ∈ ps.map (·.1) := fun q => of_decide_eq_false hd (q n (List.mem_of_getElem? HX.out))
            unfold step
            rw [if_neg (show ¬ (5 : Int) = 4 by decide), if_neg hno]
          clear hd
          go_wp2_with fail
          go_ret2
          refine ⟨HB1.out.1.trans (HR2.out.mono HB1.out.1.size), ?_⟩
          rw [HE.out]
          exact ⟨by decide, rfl⟩
        | true =>
          have HN2 : Hid (∀ n ∈ nn.take (j + 1), n ∈ ps.map (·.1)) := by
            show ∀ n ∈ _, _
            rw [take_put HX.out]
            intro x hx
            rcases List.mem_append.1 hx with q | q
            · exact HN.out x q
            · simp at q
              subst q
              exact of_decide_eq_true hd
          clear hd
          go_wp2_with fail
          exact ⟨⟨j + 1, by omega, by go_num, HN2.out, HR2.out⟩, by simp [intOf]; omega⟩
      · have HALL : Hid (∀ n ∈ nn, n ∈ ps.map (·.1)) := by
          have := HN.out
          rwa [List.take_of_length_le (by omega)] at this
        have HE : Hid (onto ⟨5, na, nn, nas, pr⟩ (.inr ps) = rena ⟨5, na, nn, nas, pr⟩ ps) := by
          show step _ ps = _
          unfold step
          rw [if_neg (show ¬ (5 : Int) = 4 by decide), if_pos HALL.out, if_neg (show ¬ (5 : Int) = 2 by decide), if_neg (show ¬ (5 : Int) = 3 by decide)]
        go_wp2_with fail
        go_loopw [10, 11, 49] (fun ov bv iv wq => ∃ (j : Nat) (out : List Pr) (oa : Option Addr) (oc : Nat) (bad : Int), j ≤ ps.length ∧ iv = .int .i64 j ∧ bv = .int .i64 bad ∧ ov = .slice oa out.length oc ∧ Hid (out = (ps.take j).map fun p => (callD nn nas p.1, p.2)) ∧ Hid ((bad = 0 ∧ (out.map (·.1)).Nodup) ∨ (bad = 8 ∧ ¬ (out.map (·.1)).Nodup)) ∧ Hid (Below w1.heap.size w1 wq ∧ RowP w1.heap.size ov out wq)) (fun _ _ iv _ => ps.length - (intOf iv).toNat)
        case atStart => exact ⟨0, [], none, 0, 0, Nat.zero_le _, rfl, rfl, rfl, by show _ = _; simp, Or.inl ⟨rfl, by simp⟩, HR.out, RowP.nil _ _⟩
        case round =>
          clear HN HR
          obtain ⟨j, out, oa, oc, bad, hj, rfl, rfl, rfl, HO, HBD, HQ⟩ := hrel
          have hol : out.length ≤ 200 := by
            rw [HO.out, List.length_map, List.length_take]
            have := HPS.out.2.len
            omega
          by_cases hlt : j < ps.length
          · obtain ⟨bs, os, p, hab, hbs, hp, hc0, hc1⟩ := (HPS.out.1.size_le HQ.out.1 (Nat.le_refl _)).at hlt
            subst hab
            obtain ⟨p1, p2⟩ := p
            simp only at hc0 hc1
            have HX : Hid (ps[j]? = some (p1, p2)) := hp
            have hpz := HPS.out.2.size _ (List.mem_of_getElem? hp)
            have hpz1 : p1.size ≤ 20 := hpz.1
            have HW : Hid (Below w1.heap.size w1 (wr.alloc (.cells #[.string p1, .string p2] 43)) ∧ RowP w1.heap.size (.slice oa out.length oc) out (wr.alloc (.cells #[.string p1, .string p2] 43)) ∧ (wr.alloc (.cells #[.string p1, .string p2] 43)).heap[wr.heap.size]? = some (.cells #[.string p1, .string p2] 43 (0, 0))) := ⟨HQ.out.1.alloc HQ.out.1.size _, HQ.out.2.alloc _, heap_alloc_new wr _⟩
            have hbx : ∀ W, Below w1.heap.size w1 W → W.heap[w.heap.size]? = some (.cells #[.int .i64 5, .string na, .slice a0 nn.length c0, .slice a1 nas.length c1, .string pr, .slice (some ⟨b, o, none⟩) 1 c2] 25 (0, 0)) := fun W hW => (hW.block _ (Array.getElem?_eq_some_iff.1 HB1.out.2).1).trans HB1.out.2
            have v0 : (wr.alloc (.cells #[.string p1, .string p2] 43)).cell? ⟨w.heap.size, 0, none⟩ = some (.int .i64 5) := by simp only [World.cell?, hbx _ HW.out.1]; rfl
            have v2 : (wr.alloc (.cells #[.string p1, .string p2] 43)).cell? ⟨w.heap.size, 2, none⟩ = some (.slice a0 nn.length c0) := by simp only [World.cell?, hbx _ HW.out.1]; rfl
            have v3 : (wr.alloc (.cells #[.string p1, .string p2] 43)).cell? ⟨w.heap.size, 3, none⟩ = some (.slice a1 nas.length c1) := by simp only [World.cell?, hbx _ HW.out.1]; rfl
            have PL := place_any B nn a0 c0 p1 (wr.alloc (.cells #[.string p1, .string p2] 43)) (HNM.out _ HW.out.1) (by have := HL.out.2; have := HB1.out.1.size; have := HW.out.1.size; omega)
            obtain ⟨oa2, oc2, e2, hlie⟩ := HW.out.2.1.lie (by omega)
            obtain ⟨rfl, rfl⟩ : oa = oa2 ∧ oc = oc2 := by simpa using e2
            have HAS := Has_any _ out oa oc (callD nn nas p1) _ hlie (Nat.le_refl _)
            have hcp := callD_plc nn nas p1 HAS1.out.2.1
            clear hp hpz hbx hlie e2
            by_cases hin : p1 ∈ nn
            · obtain ⟨i, hi, hpi⟩ := plI_pos hin
              have hil : i < nas.length := by rw [HAS1.out.2.1]; exact (plc_some hpi).1
              obtain ⟨bt, ot, t, hat, hbt, ht, hct, htz⟩ := HAS1.out.1.at hil
              subst hat
              have hcd : callD nn nas p1 = t := by
                rw [hcp, hpi]
                simp [ht]
              have g0 : (wr.alloc (.cells #[.string p1, .string p2] 43)).cell? ⟨bt, ot + i, none⟩ = some (.string t) := ((HB1.out.1.trans (HW.out.1.mono HB1.out.1.size)).cell (p := ⟨bt, ot + i, none⟩) (Nat.lt_of_lt_of_le hbt HL.out.2)).trans hct
              rw [hi] at PL
              have gi : ¬ ((i : Nat) : Int) < 0 := by omega
              have gi2 : (0 : Int) ≤ ((i : Nat) : Int) := by omega
              have HCD : Hid (callD nn nas p1 = t) := hcd
              rw [hcd] at HAS
              clear hct ht hcp hcd hpi
              go_wp2_with fail
              refine PL.mono ?_
              clear PL
              rintro e w2 ⟨rfl, rfl⟩
              go_wp2_with fail
              refine HAS.mono ?_
              clear HAS
              rintro e w3 ⟨rfl, hb3⟩
              have HW3 : Hid (Below w1.heap.size w1 w3 ∧ RowP w1.heap.size (.slice oa out.length oc) out w3) := ⟨HW.out.1.trans (hb3.mono HW.out.1.size), HW.out.2.1.below hb3⟩
              have d1 : w3.cell? ⟨wr.heap.size, 1, none⟩ = some (.string p2) := by
                have := (hb3.block wr.heap.size (by simp)).trans HW.out.2.2
                simp only [World.cell?, this]
                rfl
              have HO2 : Hid (out ++ [(t, p2)] = (ps.take (j + 1)).map fun p => (callD nn nas p.1, p.2)) := by
                show _ = _
                rw [take_put HX.out, List.map_append, ← HO.out]
                simp [HCD.out]
              clear hb3 v0 v2 v3
              cases hd : decide (t ∈ out.map (·.1)) with
              | true =>
                have HB2 : Hid (¬ ((out ++ [(t, p2)]).map (·.1)).Nodup) := by
                  show ¬ _
                  intro q
                  rw [List.map_append, List.nodup_append] at q
                  exact q.2.2 t (of_decide_eq_true hd) t (by simp) rfl
                clear hd
                go_wp2_with (at_builtin; refine wpList_pushP t p2 _ rfl _ _ rfl w1.heap.size (.slice oa out.length oc) out rfl HW3.out.2 rfl (by simp) HW3.out.1.size (by omega) ?_)
                intro at4 cap4 w4 hr4 hb4
                have H4 : Hid (Below w1.heap.size w1 w4 ∧ RowP w1.heap.size (.slice at4 (out.length + 1) cap4) (out ++ [(t, p2)]) w4) := ⟨HW3.out.1.trans hb4, hr4⟩
                clear hr4 hb4
                go_wp2_with fail
                exact ⟨⟨j + 1, _, at4, cap4, 8, by omega, by go_num, rfl, by simp, HO2.out, Or.inr ⟨rfl, HB2.out⟩, H4.out⟩, by simp [intOf]; omega⟩
              | false =>
                have HB2 : Hid ((bad = 0 ∧ ((out ++ [(t, p2)]).map (·.1)).Nodup) ∨ (bad = 8 ∧ ¬ ((out ++ [(t, p2)]).map (·.1)).Nodup)) := by
                  have hno := of_decide_eq_false hd
                  rcases HBD.out with ⟨q1, q2⟩ | ⟨q1, q2⟩
                  · refine Or.inl ⟨q1, ?_⟩
                    rw [List.map_append, List.nodup_append]
                    refine ⟨q2, by simp, fun x hx y hy e => ?_⟩
                    simp at hy
                    subst hy e
                    exact hno hx
                  · refine Or.inr ⟨q1, fun q => q2 ?_⟩
                    rw [List.map_append, List.nodup_append] at q
                    exact q.1
                clear hd
                go_wp2_with (at_builtin; refine wpList_pushP t p2 _ rfl _ _ rfl w1.heap.size (.slice oa out.length oc) out rfl HW3.out.2 rfl (by simp) HW3.out.1.size (by omega) ?_)
                intro at4 cap4 w4 hr4 hb4
                have H4 : Hid (Below w1.heap.size w1 w4 ∧ RowP w1.heap.size (.slice at4 (out.length + 1) cap4) (out ++ [(t, p2)]) w4) := ⟨HW3.out.1.trans hb4, hr4⟩
                clear hr4 hb4
                go_wp2_with fail
                exact ⟨⟨j + 1, _, at4, cap4, bad, by omega, by go_num, rfl, by simp, HO2.out, HB2.out, H4.out⟩, by simp [intOf]; omega⟩
            · have hcd : callD nn nas p1 = p1 := by
                rw [hcp, plc_none.2 hin]
              have HCD : Hid (callD nn nas p1 = p1) := hcd
              rw [plI_neg hin] at PL
              rw [hcd] at HAS
              clear hcd hcp
              go_wp2_with fail
              refine PL.mono ?_
              clear PL
              rintro e w2 ⟨rfl, rfl⟩
              go_wp2_with fail
              refine HAS.mono ?_
              clear HAS
              rintro e w3 ⟨rfl, hb3⟩
              have HW3 : Hid (Below w1.heap.size w1 w3 ∧ RowP w1.heap.size (.slice oa out.length oc) out w3) := ⟨HW.out.1.trans (hb3.mono HW.out.1.size), HW.out.2.1.below hb3⟩
              have d1 : w3.cell? ⟨wr.heap.size, 1, none⟩ = some (.string p2) := by
                have := (hb3.block wr.heap.size (by simp)).trans HW.out.2.2
                simp only [World.cell?, this]
                rfl
              have HO2 : Hid (out ++ [(p1, p2)] = (ps.take (j + 1)).map fun p => (callD nn nas p.1, p.2)) := by
                show _ = _
                rw [take_put HX.out, List.map_append, ← HO.out]
                simp [HCD.out]
              clear hb3 v0 v2 v3
              cases hd : decide (p1 ∈ out.map (·.1)) with
              | true =>
                have HB2 : Hid (¬ ((out ++ [(p1, p2)]).map (·.1)).Nodup) := by
                  show ¬ _
                  intro q
                  rw [List.map_append, List.nodup_append] at q
                  exact q.2.2 p1 (of_decide_eq_true hd) p1 (by simp) rfl
                clear hd
                go_wp2_with (at_builtin; refine wpList_pushP p1 p2 _ rfl _ _ rfl w1.heap.size (.slice oa out.length oc) out rfl HW3.out.2 rfl (by simp) HW3.out.1.size (by omega) ?_)
                intro at4 cap4 w4 hr4 hb4
                have H4 : Hid (Below w1.heap.size w1 w4 ∧ RowP w1.heap.size (.slice at4 (out.length + 1) cap4) (out ++ [(p1, p2)]) w4) := ⟨HW3.out.1.trans hb4, hr4⟩
                clear hr4 hb4
                go_wp2_with fail
                exact ⟨⟨j + 1, _, at4, cap4, 8, by omega, by go_num, rfl, by simp, HO2.out, Or.inr ⟨rfl, HB2.out⟩, H4.out⟩, by simp [intOf]; omega⟩
              | false =>
                have HB2 : Hid ((bad = 0 ∧ ((out ++ [(p1, p2)]).map (·.1)).Nodup) ∨ (bad = 8 ∧ ¬ ((out ++ [(p1, p2)]).map (·.1)).Nodup)) := by
                  have hno := of_decide_eq_false hd
                  rcases HBD.out with ⟨q1, q2⟩ | ⟨q1, q2⟩
                  · refine Or.inl ⟨q1, ?_⟩
                    rw [List.map_append, List.nodup_append]
                    refine ⟨q2, by simp, fun x hx y hy e => ?_⟩
                    simp at hy
                    subst hy e
                    exact hno hx
                  · refine Or.inr ⟨q1, fun q => q2 ?_⟩
                    rw [List.map_append, List.nodup_append] at q
                    exact q.1
                clear hd
                go_wp2_with (at_builtin; refine wpList_pushP p1 p2 _ rfl _ _ rfl w1.heap.size (.slice oa out.length oc) out rfl HW3.out.2 rfl (by simp) HW3.out.1.size (by omega) ?_)
                intro at4 cap4 w4 hr4 hb4
                have H4 : Hid (Below w1.heap.size w1 w4 ∧ RowP w1.heap.size (.slice at4 (out.length + 1) cap4) (out ++ [(p1, p2)]) w4) := ⟨HW3.out.1.trans hb4, hr4⟩
                clear hr4 hb4
                go_wp2_with fail
                exact ⟨⟨j + 1, _, at4, cap4, bad, by omega, by go_num, rfl, by simp, HO2.out, HB2.out, H4.out⟩, by simp [intOf]; omega⟩
          · obtain rfl : j = ps.length := by omega
            have HO2 : Hid (out = ps.map fun p => (callD nn nas p.1, p.2)) := by
              have := HO.out
              rwa [List.take_length] at this
            obtain ⟨oa2, oc2, e2, hlie⟩ := HQ.out.2.lie (by omega)
            obtain ⟨rfl, rfl⟩ : oa = oa2 ∧ oc = oc2 := by simpa using e2
            have HLI : Hid (Prs wr.heap.size wr oa out) := hlie
            have hmm : out.map (·.1) = ps.map fun p => callD nn nas p.1 := by
              rw [HO2.out, List.map_map]
              rfl
            clear hlie e2
            rcases HBD.out with ⟨rfl, hnd⟩ | ⟨rfl, hnd⟩
            · have HRE : Hid (rena ⟨5, na, nn, nas, pr⟩ ps = .inr out) := by
                show rena _ _ = _
                unfold rena
                rw [hmm] at hnd
                rw [if_pos hnd, ← HO2.out]
              clear hnd hmm
              go_wp2_with fail
              go_ret2
              refine ⟨HB1.out.1.trans (HQ.out.1.mono HB1.out.1.size), ?_⟩
              rw [HE.out, HRE.out]
              exact ⟨oa, oc, rfl, HLI.out⟩
            · have HRE : Hid (rena ⟨5, na, nn, nas, pr⟩ ps = .inl 8) := by
                show rena _ _ = _
                unfold rena
                rw [hmm] at hnd
                rw [if_neg hnd]
              clear hnd hmm
              go_wp2_with fail
              go_ret2
              refine ⟨HB1.out.1.trans (HQ.out.1.mono HB1.out.1.size), ?_⟩
              rw [HE.out, HRE.out]
              exact ⟨by decide, rfl⟩
end Go.Proofs.Ytckiihbnjfeplaa
