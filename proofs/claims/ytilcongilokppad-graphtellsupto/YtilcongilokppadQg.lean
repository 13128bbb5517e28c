/- The document's own answer: Order, walked. -/
import Derived.Test.YtilcongilokppadQf
import Derived.Test.YtilcongilokppadGi
namespace Go.Proofs.Ytilcongilokppad
set_option linter.unusedVariables false
set_option linter.unusedSimpArgs false
open Go.RowKit Go.Maps Go.WideMaps

theorem ranks_srt {l : List Nd} (h : (l.map Nd.name).Nodup) : Ranks l (srt self (l.map Nd.name)) :=
  ⟨srt_asc self (by have e : (l.map Nd.name).map self = l.map Nd.name := List.map_id' _; rw [e]; exact h), srt_perm _ _⟩
theorem drewN_below {B : Nat} {w w' : World} (h : Below B w w') (n : Nat) : Below B w (w'.drewN n) := below_drewN' h n

set_option maxRecDepth 100000 in
set_option maxHeartbeats 6400000 in
theorem refOrder_any (B : Nat) (l : List Nd) (a : Option Addr) (c : Nat) (w : World) (h : Nds B w a l) (hB : B ≤ w.heap.size) (hc : cost l ≤ 1048576) :
    Calls Try.prog 9 #[.slice a l.length c] w fun e w' => Below w.heap.size w w' ∧ ∃ (out : List ByteArray) (who : ByteArray) (er : Int) (v : Value), e = .returned (.tuple #[v, .string who, .int .i64 er]) ∧ RowS w.heap.size v out w' ∧ Tells l out who er := by
  have hl := h.1
  have HH : Hid (Nds B w a l ∧ B ≤ w.heap.size ∧ cost l ≤ 1048576) := ⟨h, hB, hc⟩
  clear h hB hc
  go_enter Try.func9, Try.ntmps9
  go_wp2_with fail
  go_loopw [28] (fun iv wr => ∃ (i : Nat), i ≤ l.length ∧ iv = .int .i64 i ∧ Hid (((l.map Nd.name).take i).Nodup ∧ dup [] (l.map Nd.name) = dup ((l.map Nd.name).take i) ((l.map Nd.name).drop i)) ∧ Hid (Below w.heap.size w wr)) (fun iv _ => l.length - (intOf iv).toNat)
  case atStart => exact ⟨0, Nat.zero_le _, rfl, ⟨by simp, by simp⟩, Below.refl _ _⟩
  case round =>
    obtain ⟨i, hi, rfl, HD, HR⟩ := hrel
    by_cases hlt : i < l.length
    · obtain ⟨b, o, nd, na, nc, hab, hbB, hnd, hc1, hc2, hst, hz, hz2⟩ := HH.out.1.at hlt
      have hbw : b < w.heap.size := Nat.lt_of_lt_of_le hbB HH.out.2.1
      have HX : Hid (l[i]? = some nd ∧ w.cell? ⟨b, o + i * 2, none⟩ = some (.string nd.name)) := ⟨hnd, hc1⟩
      have HNM : Hid ((l.map Nd.name)[i]? = some nd.name) := by
        show (l.map Nd.name)[i]? = some nd.name
        rw [List.getElem?_map, hnd]
        rfl
      subst hab
      clear hnd hc1 hc2 hst
      go_wp2_with fail
      obtain ⟨w1, hw1⟩ : ∃ w1, w1 = wr := ⟨_, rfl⟩
      subst hw1
      go_loopw [6] (fun kv wq => ∃ (k : Nat), k ≤ i ∧ kv = .int .i64 k ∧ Hid (nd.name ∉ (l.map Nd.name).take k) ∧ Hid (Below w.heap.size w wq)) (fun kv _ => i - (intOf kv).toNat)
      case atStart => exact ⟨0, Nat.zero_le _, rfl, by show _ ∉ _; simp, HR.out⟩
      case round =>
        obtain ⟨k, hk, rfl, HN, HQ⟩ := hrel
        by_cases hkl : k < i
        · obtain ⟨b', o', md, na', nc', hab', hbB', hmd, hm1, hm2, hmst, hmz, hmz2⟩ := HH.out.1.at (j := k) (by omega)
          obtain ⟨rfl, rfl⟩ : b = b' ∧ o = o' := by simpa using hab'
          have k1 := (HQ.out.cell (p := ⟨b, o + i * 2, none⟩) hbw).trans HX.out.2
          have k2 := (HQ.out.cell (p := ⟨b, o + k * 2, none⟩) hbw).trans hm1
          have hkl2 : k < l.length := by omega
          have HM : Hid ((l.map Nd.name)[k]? = some md.name) := by
            show (l.map Nd.name)[k]? = some md.name
            rw [List.getElem?_map, hmd]
            rfl
          clear hmd hm1 hm2 hmst hab'
          by_cases hsame : md.name = nd.name
          · have HF : Hid (Tells l [] nd.name 8) := by
              refine Tells.fit _ ?_
              have hd : (l.map Nd.name).drop i = nd.name :: (l.map Nd.name).drop (i + 1) := drop_at' HNM.out
              rw [HD.out.2, hd]
              unfold dup
              rw [if_pos]
              rw [List.mem_iff_getElem?]
              exact ⟨k, by rw [List.getElem?_take, if_pos hkl, HM.out, hsame]⟩
            rw [hsame] at k2
            go_wp2_with fail
            go_quiet (fail)
            go_wp2_with fail
            go_quiet (fail)
            go_wp2_with fail
            go_ret3
            exact ⟨HQ.out.trans ⟨rfl, rfl, rfl, Nat.le_refl _, fun _ _ => rfl⟩, [], nd.name, 8, _, rfl, RowS.nil _ _, HF.out⟩
          · have hq := neq_str hsame
            have HN2 : Hid (nd.name ∉ (l.map Nd.name).take (k + 1)) := by
              show _ ∉ _
              rw [take_next HM.out]
              intro c
              rcases List.mem_append.1 c with q | q
              · exact HN.out q
              · simp at q
                exact hsame q.symm
            go_wp2_with fail
            go_quiet (fail)
            go_wp2_with fail
            exact ⟨⟨k + 1, by omega, by go_num, HN2.out, HQ.out.trans ⟨rfl, rfl, rfl, Nat.le_refl _, fun _ _ => rfl⟩⟩, by simp [intOf]; omega⟩
        · obtain rfl : k = i := by omega
          have HD2 : Hid (((l.map Nd.name).take (k + 1)).Nodup ∧ dup [] (l.map Nd.name) = dup ((l.map Nd.name).take (k + 1)) ((l.map Nd.name).drop (k + 1))) := by
            have hd : (l.map Nd.name).drop k = nd.name :: (l.map Nd.name).drop (k + 1) := drop_at' HNM.out
            refine ⟨?_, ?_⟩
            · rw [take_next HNM.out, List.nodup_append]
              refine ⟨HD.out.1, by simp, fun x hx y hy e => ?_⟩
              simp at hy
              subst hy e
              exact HN.out hx
            · rw [HD.out.2, hd, take_next HNM.out]
              conv => lhs; unfold dup
              rw [if_neg HN.out]
          go_wp2_with fail
          exact ⟨⟨k + 1, by omega, by go_num, HD2.out, HQ.out⟩, by simp [intOf]; omega⟩
    · obtain rfl : i = l.length := by omega
      have HND : Hid ((l.map Nd.name).Nodup) := by
        have := HD.out.1
        rwa [List.take_of_length_le (by simp)] at this
      clear HD
      have NA := Names_any B l a c wr (HH.out.1.stay (fun k hk => HR.out.block k (Nat.lt_of_lt_of_le hk HH.out.2.1)) (Nat.le_refl _)) (Nat.le_trans HH.out.2.1 HR.out.size)
      go_wp2_with fail
      refine NA.mono ?_
      clear NA
      rintro e w2 ⟨v2, rfl, hb2, hr2⟩
      obtain ⟨S, HSE⟩ : ∃ S, Hid (S = srt self (l.map Nd.name)) := ⟨_, rfl⟩
      rw [← HSE.out] at hr2
      have HRK : Hid (Ranks l S) := by rw [HSE.out]; exact ranks_srt HND.out
      have hSz : ∀ s ∈ S, s.size ≤ 1048576 := fun s hs => by
        obtain ⟨nd, hn, rfl⟩ := List.mem_map.1 (HRK.out.perm.mem_iff.1 hs)
        exact (HH.out.1.2.1 nd hn).1
      have HSZ : Hid (∀ s ∈ S, s.size ≤ maxLen) := fun s hs => by have := hSz s hs; unfold maxLen; omega
      have hSl := HRK.out.len
      obtain ⟨sa, sc, hv2, hst2⟩ := hr2.lie (by omega) HSZ.out
      rw [hSl] at hv2
      subst hv2
      have HSL : Hid (S.length = l.length) := hSl
      have H2 : Hid (Below w.heap.size w w2 ∧ Strs w2.heap.size w2 sa S) := ⟨HR.out.trans (hb2.mono HR.out.size), hst2⟩
      have HNEE : Hid (∀ (W : World), Below w2.heap.size w2 W → ∀ (s : ByteArray), Calls Try.prog 19 #[.slice a l.length c, .string s] W fun e w' => Below W.heap.size W w' ∧ ∃ (na : Option Addr) (nc : Nat) (ok : Bool), e = .returned (.tuple #[.slice na (nee l s).length nc, .bool ok]) ∧ Strs B w na (nee l s) ∧ (ok = true ↔ s ∈ S)) := by
        show ∀ (W : World), _
        intro W hb s
        have hbw := H2.out.1.trans (hb.mono H2.out.1.size)
        refine (Needs_any B l s a c W (HH.out.1.stay (fun k hk => hbw.block k (Nat.lt_of_lt_of_le hk HH.out.2.1)) (Nat.le_refl _)) (Nat.le_trans HH.out.2.1 hbw.size)).mono ?_
        rintro e w' ⟨hb', na, nc, ok, he, hs1, hs2⟩
        refine ⟨hb', na, nc, ok, he, hs1.stay (fun k hk => (hbw.block k (Nat.lt_of_lt_of_le hk HH.out.2.1)).symm) (Nat.le_refl _), hs2.trans ?_⟩
        rw [HRK.out.perm.mem_iff, List.mem_map]
      have HREA : Hid (∀ (W : World), Below w2.heap.size w2 W → ∀ (s : ByteArray), Calls Try.prog 12 #[.slice a l.length c, .string s, .string s] W fun e w' => Below w2.heap.size w2 w' ∧ ∃ r : Bool, e = .returned (.bool r) ∧ (r = true ↔ RchB l s s)) := by
        show ∀ (W : World), _
        intro W hb s
        have hbw := H2.out.1.trans (hb.mono H2.out.1.size)
        refine (Reaches_any B l s s a c W (HH.out.1.stay (fun k hk => hbw.block k (Nat.lt_of_lt_of_le hk HH.out.2.1)) (Nat.le_refl _)) (Nat.le_trans HH.out.2.1 hbw.size) HH.out.2.2).mono ?_
        rintro e w' ⟨hb', r, he, hr⟩
        exact ⟨hb.trans (hb'.mono hb.size), r, he, hr⟩
      clear hb2 hr2 hSz hSl hst2
      go_wp2_with fail
      go_loopw [57] (fun iv wr => ∃ (i : Nat), i ≤ l.length ∧ iv = .int .i64 i ∧ Hid (∀ x ∈ S.take i, ∀ m ∈ nee l x, m ∈ S) ∧ Hid (Below w2.heap.size w2 wr)) (fun iv _ => l.length - (intOf iv).toNat)
      case atStart => exact ⟨0, Nat.zero_le _, rfl, by show ∀ x ∈ _, _; simp, Below.refl _ _⟩
      case round =>
        obtain ⟨i, hi, rfl, HF, HQ⟩ := hrel
        by_cases hil : i < l.length
        · obtain ⟨b, o, s, rfl, hbB, hs, hcs, hsz⟩ := H2.out.2.at (j := i) (by rw [HSL.out]; exact hil)
          have c1 := (HQ.out.cell (p := ⟨b, o + i, none⟩) hbB).trans hcs
          have HX : Hid (S[i]? = some s) := hs
          have NE := HNEE.out _ HQ.out s
          clear hs hcs
          go_wp2_with fail
          refine NE.mono ?_
          clear NE
          rintro e w3 ⟨hb3, na, nc, ok, rfl, hst3, _⟩
          have H3 : Hid (Below w2.heap.size w2 w3 ∧ Strs B w na (nee l s)) := ⟨HQ.out.trans (hb3.mono HQ.out.size), hst3⟩
          have hnl := hst3.1
          clear hb3 hst3 c1
          go_wp2_with fail
          go_loopw [69] (fun kv wq => ∃ (k : Nat), k ≤ (nee l s).length ∧ kv = .int .i64 k ∧ Hid (∀ m ∈ (nee l s).take k, m ∈ S) ∧ Hid (Below w2.heap.size w2 wq)) (fun kv _ => (nee l s).length - (intOf kv).toNat)
          case atStart => exact ⟨0, Nat.zero_le _, rfl, by show ∀ x ∈ _, _; simp, H3.out.1⟩
          case round =>
            obtain ⟨k, hk, rfl, HK, HW⟩ := hrel
            by_cases hkl : k < (nee l s).length
            · obtain ⟨b2, o2, m, rfl, hb2, hm, hcm, hmz⟩ := H3.out.2.at hkl
              have c2 := ((H2.out.1.trans (HW.out.mono H2.out.1.size)).cell (p := ⟨b2, o2 + k, none⟩) (Nat.lt_of_lt_of_le hb2 HH.out.2.1)).trans hcm
              have HM : Hid ((nee l s)[k]? = some m) := hm
              have NE := HNEE.out _ HW.out m
              clear hm hcm
              go_wp2_with fail
              refine NE.mono ?_
              clear NE
              rintro e w4 ⟨hb4, na4, nc4, ok4, rfl, _, hok4⟩
              have HW4 : Hid (Below w2.heap.size w2 w4) := HW.out.trans (hb4.mono HW.out.size)
              clear hb4 c2
              cases ok4 with
              | false =>
                have HT : Hid (Tells l [] s 6) := tells_none HRK.out HX.out (List.mem_of_getElem? HM.out) (fun q => by have := hok4.2 q; cases this) HF.out
                go_wp2_with fail
                go_ret3
                exact ⟨H2.out.1.trans (HW4.out.mono H2.out.1.size), [], s, 6, _, rfl, RowS.nil _ _, HT.out⟩
              | true =>
                have HK2 : Hid (∀ m ∈ (nee l s).take (k + 1), m ∈ S) := by
                  show ∀ m ∈ _, _
                  rw [take_next HM.out]
                  intro x hx
                  rcases List.mem_append.1 hx with q | q
                  · exact HK.out x q
                  · simp at q
                    subst q
                    exact hok4.1 rfl
                clear hok4
                go_wp2_with fail
                exact ⟨⟨k + 1, by omega, by go_num, HK2.out, HW4.out⟩, by simp [intOf]; omega⟩
            · have HF2 : Hid (∀ x ∈ S.take (i + 1), ∀ m ∈ nee l x, m ∈ S) := by
                show ∀ x ∈ _, _
                rw [take_next HX.out]
                intro x hx
                rcases List.mem_append.1 hx with q | q
                · exact HF.out x q
                · simp at q
                  subst q
                  have := HK.out
                  rwa [List.take_of_length_le (by omega)] at this
              go_wp2_with fail
              exact ⟨⟨i + 1, by omega, by go_num, HF2.out, HW.out⟩, by simp [intOf]; omega⟩
        · have HFU : Hid (Full l S) := by
            have := HF.out
            rw [List.take_of_length_le (by rw [HSL.out]; omega)] at this
            exact this
          clear HF
          go_wp2_with fail
          go_loopw [86] (fun iv wr => ∃ (i : Nat), i ≤ l.length ∧ iv = .int .i64 i ∧ Hid (∀ x ∈ S.take i, ¬ RchB l x x) ∧ Hid (Below w2.heap.size w2 wr)) (fun iv _ => l.length - (intOf iv).toNat)
          case atStart => exact ⟨0, Nat.zero_le _, rfl, by show ∀ x ∈ _, _; simp, HQ.out⟩
          case round =>
            clear HQ
            obtain ⟨i, hi, rfl, HF, HQ⟩ := hrel
            by_cases hil : i < l.length
            · obtain ⟨b, o, s, rfl, hbB, hs, hcs, hsz⟩ := H2.out.2.at (j := i) (by rw [HSL.out]; exact hil)
              have c1 := (HQ.out.cell (p := ⟨b, o + i, none⟩) hbB).trans hcs
              have HX : Hid (S[i]? = some s) := hs
              have RE := HREA.out _ HQ.out s
              clear hs hcs
              go_wp2_with fail
              refine RE.mono ?_
              clear RE
              rintro e w3 ⟨hb3, r, rfl, hr⟩
              have H3 : Hid (Below w2.heap.size w2 w3) := hb3
              clear hb3 c1
              cases r with
              | true =>
                have HT : Hid (Tells l [] s 9) := tells_cycle HRK.out HFU.out HX.out (hr.1 rfl) HF.out
                go_wp2_with fail
                go_ret3
                exact ⟨H2.out.1.trans (H3.out.mono H2.out.1.size), [], s, 9, _, rfl, RowS.nil _ _, HT.out⟩
              | false =>
                have HF2 : Hid (∀ x ∈ S.take (i + 1), ¬ RchB l x x) := by
                  show ∀ x ∈ _, _
                  rw [take_next HX.out]
                  intro x hx
                  rcases List.mem_append.1 hx with q | q
                  · exact HF.out x q
                  · simp at q
                    subst q
                    exact fun d => by have := hr.2 d; cases this
                clear hr
                go_wp2_with fail
                exact ⟨⟨i + 1, by omega, by go_num, HF2.out, H3.out⟩, by simp [intOf]; omega⟩
            · have HNR : Hid (∀ s ∈ S, ¬ RchB l s s) := by
                have := HF.out
                rwa [List.take_of_length_le (by rw [HSL.out]; omega)] at this
              clear HF
              go_wp2_with fail
              go_loopw [18] (fun ov wr => ∃ (out : List ByteArray) (oa : Option Addr) (oc : Nat), ov = .slice oa out.length oc ∧ Hid (Gre l S out) ∧ Hid (Below w2.heap.size w2 wr ∧ RowS w2.heap.size ov out wr)) (fun ov _ => l.length - lenW ov)
              case atStart => exact ⟨[], none, 0, rfl, Gre.nil l S, HQ.out, RowS.nil _ _⟩
              case round =>
                clear HQ
                obtain ⟨out, oa, oc, rfl, HG, HQ⟩ := hrel
                have hol := HG.out.len HRK.out
                have hoz : ∀ s ∈ out, s.size ≤ maxLen := fun s hs => by
                  obtain ⟨o', hg, ho⟩ := HG.out
                  rw [ho] at hs
                  obtain ⟨j, hj, e⟩ := List.mem_map.1 hs
                  have hjl : j < S.length := by rw [HSL.out]; exact hg.lt j hj
                  rw [← e]
                  refine HSZ.out _ ?_
                  rw [List.getD_eq_getElem?_getD, List.getElem?_eq_getElem hjl]
                  exact List.getElem_mem hjl
                have HIN : Hid (∀ (W : World), Below wr.heap.size wr W → ∀ (s : ByteArray), Calls Try.prog 20 #[.slice oa out.length oc, .string s] W fun e w' => e = .returned (.bool (decide (s ∈ out))) ∧ Below wr.heap.size wr w') := by
                  show ∀ (W : World), _
                  intro W hb s
                  obtain ⟨oa2, oc2, e2, hst⟩ := (HQ.out.2.below hb).lie (by omega) hoz
                  obtain ⟨rfl, rfl⟩ : oa = oa2 ∧ oc = oc2 := by simpa using e2
                  refine (in_any out s oa oc W hst).mono ?_
                  rintro e w' ⟨he, hb'⟩
                  exact ⟨he, hb.trans (hb'.mono hb.size)⟩
                clear hoz
                by_cases hlo : out.length < l.length
                · obtain ⟨w5, hw5⟩ : ∃ w5, w5 = wr := ⟨_, rfl⟩
                  subst hw5
                  have HSO : Hid (∃ s ∈ S, May l out s) := HG.out.more HRK.out HFU.out HNR.out hlo
                  go_wp2_with fail
                  go_loopw [18, 103] (fun ov iv wq => ∃ (i : Nat), i ≤ l.length ∧ iv = .int .i64 i ∧ ov = .slice oa out.length oc ∧ Hid (∀ x ∈ S.take i, ¬ May l out x) ∧ Hid (Below w5.heap.size w5 wq)) (fun _ iv _ => l.length - (intOf iv).toNat)
                  case atStart => exact ⟨0, Nat.zero_le _, rfl, rfl, by show ∀ x ∈ _, _; simp, Below.refl _ _⟩
                  case round =>
                    obtain ⟨i, hi, rfl, rfl, HM, HW⟩ := hrel
                    by_cases hil : i < l.length
                    · obtain ⟨b, o, s, rfl, hbB, hs, hcs, hsz⟩ := H2.out.2.at (j := i) (by rw [HSL.out]; exact hil)
                      have HB6 : Hid (Below w2.heap.size w2 wr) := HQ.out.1.trans (HW.out.mono HQ.out.1.size)
                      have c1 := (HB6.out.cell (p := ⟨b, o + i, none⟩) hbB).trans hcs
                      have HX : Hid (S[i]? = some s) := hs
                      have NE := HNEE.out _ HB6.out s
                      clear hs hcs
                      go_wp2_with fail
                      refine NE.mono ?_
                      clear NE
                      rintro e w6 ⟨hb6, na, nc, ok, rfl, hst6, _⟩
                      have HW6 : Hid (Below w5.heap.size w5 w6) := HW.out.trans (hb6.mono HW.out.size)
                      have HST6 : Hid (Strs B w na (nee l s)) := hst6
                      have hnl := hst6.1
                      have IN := HIN.out _ HW6.out s
                      clear hb6 hst6 c1
                      go_wp2_with fail
                      refine IN.mono ?_
                      clear IN
                      rintro e w7 ⟨rfl, hb7⟩
                      have HW7 : Hid (Below w5.heap.size w5 w7) := hb7
                      have HD0 : Hid ((!(decide (s ∈ out))) = true ↔ (s ∉ out ∧ ∀ m ∈ (nee l s).take 0, m ∈ out)) := by
                        show _ ↔ _
                        simp
                      generalize decide (s ∈ out) = d0 at HD0 ⊢
                      clear hb7
                      go_wp2_with fail
                      go_loopw [23, 119] (fun okv kv wq => ∃ (k : Nat) (okb : Bool), k ≤ (nee l s).length ∧ kv = .int .i64 k ∧ okv = .bool okb ∧ Hid (okb = true ↔ (s ∉ out ∧ ∀ m ∈ (nee l s).take k, m ∈ out)) ∧ Hid (Below w5.heap.size w5 wq)) (fun _ kv _ => (nee l s).length - (intOf kv).toNat)
                      case atStart => exact ⟨0, _, Nat.zero_le _, rfl, rfl, HD0.out, HW7.out⟩
                      case round =>
                        obtain ⟨k, okb, hk, rfl, rfl, HK, HV⟩ := hrel
                        by_cases hkl : k < (nee l s).length
                        · obtain ⟨b2, o2, m, rfl, hb2, hm, hcm, hmz⟩ := HST6.out.at hkl
                          have HB8 : Hid (Below w2.heap.size w2 wr) := HQ.out.1.trans (HV.out.mono HQ.out.1.size)
                          have c2 := ((H2.out.1.trans (HB8.out.mono H2.out.1.size)).cell (p := ⟨b2, o2 + k, none⟩) (Nat.lt_of_lt_of_le hb2 HH.out.2.1)).trans hcm
                          have HMX : Hid ((nee l s)[k]? = some m) := hm
                          clear hm hcm
                          cases okb with
                          | false =>
                            have HK2 : Hid (false = true ↔ (s ∉ out ∧ ∀ m ∈ (nee l s).take (k + 1), m ∈ out)) := by
                              show _ ↔ _
                              refine ⟨fun q => (by cases q), fun q => HK.out.2 ⟨q.1, fun x hx => q.2 x ?_⟩⟩
                              rw [take_next HMX.out]
                              exact List.mem_append_left _ hx
                            go_wp2_with fail
                            exact ⟨⟨k + 1, false, by omega, by go_num, rfl, HK2.out, HV.out⟩, by simp [intOf]; omega⟩
                          | true =>
                            have IN := HIN.out _ HV.out m
                            go_wp2_with fail
                            refine IN.mono ?_
                            clear IN
                            rintro e w8 ⟨rfl, hb8⟩
                            have HV8 : Hid (Below w5.heap.size w5 w8) := hb8
                            have HK2 : Hid (decide (m ∈ out) = true ↔ (s ∉ out ∧ ∀ m ∈ (nee l s).take (k + 1), m ∈ out)) := by
                              show _ ↔ _
                              have h0 := HK.out.1 (by simp)
                              rw [decide_eq_true_iff]
                              refine ⟨fun q => ⟨h0.1, fun x hx => ?_⟩, fun q => q.2 m (by rw [take_next HMX.out]; simp)⟩
                              rw [take_next HMX.out] at hx
                              rcases List.mem_append.1 hx with r | r
                              · exact h0.2 x r
                              · simp at r
                                subst r
                                exact q
                            generalize decide (m ∈ out) = d1 at HK2 ⊢
                            clear hb8 c2
                            go_wp2_with fail
                            exact ⟨⟨k + 1, d1, by omega, by go_num, rfl, HK2.out, HV8.out⟩, by simp [intOf]; omega⟩
                        · have hmay : okb = true ↔ May l out s := by
                            have := HK.out
                            rw [List.take_of_length_le (by omega)] at this
                            exact this
                          cases okb with
                          | true =>
                            have HG2 : Hid (Gre l S (out ++ [s])) := HG.out.snoc HRK.out HFU.out HX.out (hmay.1 rfl) HM.out
                            have HQ9 : Hid (Below w2.heap.size w2 wr ∧ RowS w2.heap.size (.slice oa out.length oc) out wr) := ⟨HQ.out.1.trans (HV.out.mono HQ.out.1.size), HQ.out.2.below HV.out⟩
                            have hol2 : out.length ≤ 1048576 := by omega
                            clear hmay
                            go_wp2_with (at_builtin; refine wpList_pushS s _ rfl _ _ rfl w2.heap.size (.slice oa out.length oc) out rfl HQ9.out.2 rfl (by simp) HQ9.out.1.size hol2 ?_)
                            intro g9 cap9 w9 hr9 hg9
                            have H9 : Hid (Below w2.heap.size w2 w9 ∧ RowS w2.heap.size (.slice (some ⟨g9, 0, none⟩) (out.length + 1) cap9) (out ++ [s]) w9) := ⟨Below.grown HQ9.out.1 hg9 HQ9.out.1.size (fun k hk => (HQ9.out.2.lt hk).1), hr9⟩
                            clear hr9 hg9
                            go_wp2_with fail
                            exact ⟨⟨out ++ [s], some ⟨g9, 0, none⟩, cap9, by simp, HG2.out, H9.out⟩, by simp [lenW]; omega⟩
                          | false =>
                            have HM2 : Hid (∀ x ∈ S.take (i + 1), ¬ May l out x) := by
                              show ∀ x ∈ _, _
                              rw [take_next HX.out]
                              intro x hx
                              rcases List.mem_append.1 hx with q | q
                              · exact HM.out x q
                              · simp at q
                                subst q
                                exact fun d => by have := hmay.2 d; cases this
                            clear hmay
                            go_wp2_with fail
                            exact ⟨⟨i + 1, by omega, by go_num, rfl, HM2.out, HV.out⟩, by simp [intOf]; omega⟩
                    · exfalso
                      obtain ⟨s, h1, h2⟩ := HSO.out
                      refine HM.out s ?_ h2
                      rw [List.take_of_length_le (by rw [HSL.out]; omega)]
                      exact h1
                · have hoe : out.length = l.length := by omega
                  have HT : Hid (Tells l out ByteArray.empty 0) := HG.out.tells HRK.out HFU.out hoe
                  rw [hoe] at HQ ⊢
                  clear hoe
                  go_wp2_with fail
                  go_ret3
                  exact ⟨H2.out.1.trans (HQ.out.1.mono H2.out.1.size), out, ByteArray.empty, 0, _, rfl, HQ.out.2.mono H2.out.1.size, HT.out⟩
end Go.Proofs.Ytilcongilokppad
