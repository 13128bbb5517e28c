/- Package rule set: a list that a variable stands for, copied. Package rule set: what a variable stands for, copied: all. -/
import Derived.Test.YtceapbliljiplaeGreatDoorK23
namespace Go.Proofs.YtceapbliljiplaeGreatDoor
section
set_option linter.unusedVariables false
set_option linter.unusedSimpArgs false
open Go.RowKit Go.Maps Go.WideMaps

set_option maxRecDepth 100000 in
set_option maxHeartbeats 3200000 in
theorem copied_list (B g : Nat) (d : Dat) (a : Option Addr) (cap gb n dp : Nat) (w : World) (hl : LC B w (g + 1) a d.kids) (hsm : smD d) (hn9 : n ≤ 1999) (hd40 : dp ≤ 40) (hB : B ≤ gb) (hc : Ctr gb n w) (hk : d.kind = 4)
    (ih : ∀ (d' : Dat), d' ∈ d.kids → ∀ (a : Option Addr) (cap n : Nat) (w : World), LC B w g a d'.kids → smD d' → n ≤ 2000 → dp + 1 ≤ 41 → Ctr gb n w → Calls Tryz.prog 89 #[.pointer (some ⟨gb, 0, none⟩), dv d' a cap, .int .i64 ((dp + 1 : Nat) : Int)] w (ToldG gb (holdsB n (dp + 1) d') (bareD d') (n + sizeD d') w)) :
    Calls Tryz.prog 89 #[.pointer (some ⟨gb, 0, none⟩), dv d a cap, .int .i64 (dp : Int)] w (ToldG gb (holdsB n dp d) (bareD d) (n + sizeD d) w) := by
  have hsp := sizeD_pos d
  have hdp := deepD_pos d
  have HC : Hid (Ctr gb n w) := hc
  have l1 := hc.lt
  clear hc
  have hlen := hl.len
  have HL : Hid (LC B w (g + 1) a d.kids) := hl
  have IH : Hid (∀ (d' : Dat), d' ∈ d.kids → ∀ (a : Option Addr) (cap n : Nat) (w : World), LC B w g a d'.kids → smD d' → n ≤ 2000 → dp + 1 ≤ 41 → Ctr gb n w → Calls Tryz.prog 89 #[.pointer (some ⟨gb, 0, none⟩), dv d' a cap, .int .i64 ((dp + 1 : Nat) : Int)] w (ToldG gb (holdsB n (dp + 1) d') (bareD d') (n + sizeD d') w)) := ih
  obtain ⟨k, n', nm, st, lb, ks⟩ := d
  simp only at hk hlen HL IH
  subst hk
  have SM : Hid (smL ks) := (by rw [smD] at hsm; exact hsm.2 rfl)
  have hs : sizeD ⟨4, n', nm, st, lb, ks⟩ = 1 + sizeL ks := by rw [sizeD, if_pos rfl]
  have hb : holdsB n dp ⟨4, n', nm, st, lb, ks⟩ = holdsL (n + 1) (dp + 1) ks := by
    unfold holdsB holdsL
    rw [hs, deepD, if_pos rfl]
    simp only [Nat.add_assoc]
  have hba : bareD ⟨4, n', nm, st, lb, ks⟩ = ⟨4, 0, emS, 0, 0, bareL ks⟩ := by rw [bareD, if_pos rfl]
  have AL : Hid (∀ w, Calls Tryz.prog 91 #[.agg #[.int .i64 4, .int .i64 n', .string nm, .int .i64 st, .int .i64 lb, .slice a ks.length cap]] w fun e w' => e = .returned (.agg #[.int .i64 4, .int .i64 0, .string ⟨#[]⟩, .int .i64 0, .int .i64 0, .slice none 0 0]) ∧ Below w.heap.size w w') := fun w => alone_any ⟨4, n', nm, st, lb, ks⟩ a cap w (fun h => by simp at h)
  rw [hs, hb, hba]
  unfold dv
  simp only
  clear hl ih hs hb hsp hdp hba hsm
  go_enter Tryz.func89, Tryz.ntmps89
  go_wp2_with fail
  refine (takes_ok gb n dp _ hn9 hd40 ((HC.out.alloc _).alloc _)).mono ?_
  rintro e w1 ⟨rfl, hw1⟩
  obtain ⟨hk1, hc1, hn1, hn2⟩ := cop_head (d := ⟨4, n', nm, st, lb, ks⟩) (sl := .slice a ks.length cap) HC.out hw1
  clear hw1
  have H1 : Hid (Kp gb w w1 ∧ Ctr gb (n + 1) w1 ∧ Nod w.heap.size ⟨4, n', nm, st, lb, ks⟩ (.slice a ks.length cap) w1 ∧ Nod (w.heap.size + 1) zeroD (.slice none 0 0) w1) := ⟨hk1, hc1, hn1, hn2⟩
  obtain ⟨p, p0, p1, p2, p3, p4, p5, pz⟩ := hn1
  simp only at p0 p1 p2 p3 p4 p5
  clear hn2 hc1 hk1
  go_wp2_with fail
  refine (AL.out _).mono ?_
  rintro e w2 ⟨rfl, hb2⟩
  have H2 : Hid (Kp gb w w2 ∧ Ctr gb (n + 1) w2 ∧ Nod w.heap.size ⟨4, n', nm, st, lb, ks⟩ (.slice a ks.length cap) w2 ∧ Nod (w.heap.size + 1) zeroD (.slice none 0 0) w2) := ⟨H1.out.1.below hb2, H1.out.2.1.below hb2, H1.out.2.2.1.after hb2, H1.out.2.2.2.after hb2⟩
  clear hb2 H1 AL p p0 p1 p2 p3 p4 p5 pz
  obtain ⟨p, p0, p1, p2, p3, p4, p5, pz⟩ := H2.out.2.2.1
  obtain ⟨q, q0, q1, q2, q3, q4, q5, qz⟩ := H2.out.2.2.2
  simp only [zeroD, emS] at p0 p1 p2 p3 p4 p5 q0 q1 q2 q3 q4 q5
  go_wp2_with fail
  go_loopw [28] (fun i wr => ∃ (j : Nat) (v : Value) (es : List (Dat × Option Addr × Nat)), j ≤ ks.length ∧ i = .int .i64 j ∧ CopL B gb w.heap.size w n dp n' nm st lb ks a cap j v es wr) (fun i _ => ks.length - (intOf i).toNat)
  case atStart =>
    refine ⟨0, .slice none 0 0, [], Nat.zero_le _, rfl, ?_⟩
    refine ⟨H2.out.1.six (by omega) _ _ _ _ _ _, ?_, ?_, ?_, RowC.nil _ _, ?_, ?_⟩
    · show Ctr gb (n + 1 + sizeL (ks.take 0)) _
      have := H2.out.2.1.six (N := w.heap.size + 1) (v0 := .int .i64 4) (v1 := .int .i64 0) (v2 := .string ⟨#[]⟩) (v3 := .int .i64 0) (v4 := .int .i64 0) (v5 := .slice none 0 0) (by omega)
      simpa [sizeL, setSix] using this
    · exact H2.out.2.2.1.six (by omega)
    · exact H2.out.2.2.2.store ⟨4, 0, emS, 0, 0, []⟩ _
    · simp [bareL]
    · simp [holdsL, sizeL, deepL]; omega
  case round =>
    clear H2 p p0 p1 p2 p3 p4 p5 pz q q0 q1 q2 q3 q4 q5 qz
    obtain ⟨j, v, es, hj, rfl, hcop⟩ := hrel
    have HP : Hid (CopL B gb w.heap.size w n dp n' nm st lb ks a cap j v es wr) := hcop
    have hh' : n + 1 + sizeL (ks.take j) ≤ 2000 ∧ dp + 1 + deepL (ks.take j) ≤ 41 := by have hh := hcop.holds; unfold holdsL at hh; simpa using hh
    have HH : Hid (n + 1 + sizeL (ks.take j) ≤ 2000 ∧ dp + 1 + deepL (ks.take j) ≤ 41) := hh'
    have HES : Hid (es.length ≤ 2000) := by
      have h1 : es.length = (ks.take j).length := by
        have := congrArg List.length hcop.same
        rw [bareL_map] at this
        simpa using this
      have h2 := sizeL_many (ks.take j)
      show es.length ≤ 2000
      omega
    clear hh'
    have lr := hcop.ctr.lt
    have lo := hcop.out.lt
    by_cases hlt : j < ks.length
    · obtain ⟨kid, hkid⟩ : ∃ kid, ks[j]? = some kid := ⟨ks[j], List.getElem?_eq_getElem hlt⟩
      have hne : ks ≠ [] := by intro e; rw [e] at hlt; simp at hlt
      have hLr : LC B wr (g + 1) a ks := HL.out.below (hcop.keep.keep.toBelow hB (by omega))
      obtain ⟨g', b, o, hg, ha, hbB, hall⟩ := hLr.at hne
      subst ha
      obtain ⟨a', cap', k0, k1, k2, k3, k4, k5, hkn, hkc, hkk⟩ := hall j kid hkid
      have hg' : g' = g := by omega
      subst hg'
      have HA : Hid (LC B wr g' a' kid.kids) := hkk
      have E1 : Hid (sizeL (ks.take (j + 1)) = sizeL (ks.take j) + sizeD kid ∧ deepL (ks.take (j + 1)) = max (deepL (ks.take j)) (deepD kid)) := ⟨sizeL_take hkid, deepL_take hkid⟩
      have E2 : Hid (sizeL (ks.take (j + 1)) ≤ sizeL ks ∧ deepL (ks.take (j + 1)) ≤ deepL ks) := ⟨sizeL_part _ _, deepL_part _ _⟩
      have E3 : Hid (bareL (ks.take (j + 1)) = bareL (ks.take j) ++ [bareD kid]) := bareL_take_succ hkid
      have HM : Hid (kid ∈ ks) := List.mem_of_getElem? hkid
      have HN : Hid ((bareD kid).name.size ≤ maxLen) := bareD_name kid hkn
      clear hkid hall hkk hLr hne hg hkn hkc hcop
      go_wp2_with fail
      have hdi : ((dp : Int) + 1) = ((dp + 1 : Nat) : Int) := by omega
      rw [hdi]
      refine (IH.out kid HM.out a' cap' _ _ (HA.out.below ((Below.refl _ _).alloc (by omega) _)) (smL_mem _ SM.out _ HM.out) HH.out.1 (by omega) (HP.out.ctr.alloc _)).mono ?_
      rintro e w2 ⟨hk2, hl2, hif⟩
      have HK2 : Hid (Kp gb w w2) := (HP.out.keep.alloc _).trans hk2
      have hs2 : wr.heap.size + 1 ≤ w2.heap.size := by have := hk2.keep.size; simpa using this
      have HO2 : Hid (Nod w.heap.size ⟨4, n', nm, st, lb, ks⟩ (.slice (some ⟨b, o, none⟩) ks.length cap) w2 ∧ Nod (w.heap.size + 1) ⟨4, 0, emS, 0, 0, []⟩ v w2 ∧ RowC (w.heap.size + 2) v es w2) := ⟨(HP.out.box.alloc _).keep hk2.keep (by omega), (HP.out.out.alloc _).keep hk2.keep (by omega), (HP.out.row.below ((Below.refl _ _).alloc (Nat.le_refl _) _)).keep hk2.keep (by omega)⟩
      cases hy : holdsB (n + 1 + sizeL (ks.take j)) (dp + 1) kid with
      | true =>
        have hy' : n + 1 + sizeL (ks.take j) + sizeD kid ≤ 2000 ∧ dp + 1 + deepD kid ≤ 41 := by unfold holdsB at hy; simpa using hy
        rw [hy, if_pos rfl] at hif
        obtain ⟨hc2, a2, cap2, f2, rfl, hcap2, hdc2⟩ := hif
        have HR : Hid (Ctr gb (n + 1 + sizeL (ks.take (j + 1))) w2 ∧ holdsL (n + 1) (dp + 1) (ks.take (j + 1)) = true) := by
          refine ⟨?_, ?_⟩
          · rw [E1.out.1, ← Nat.add_assoc]
            exact hc2
          · unfold holdsL
            rw [E1.out.1, E1.out.2]
            have := HH.out
            simp
            omega
        obtain ⟨bk, hbk⟩ : ∃ bk, bk = bareD kid := ⟨_, rfl⟩
        rw [← hbk] at hcap2 hdc2 E3 HN ⊢
        have HD2 : Hid (bk.kids.length ≤ cap2 ∧ Dc (New wr w2) w2 f2 a2 bk.kids) := ⟨hcap2, Dc.stay (fun _ _ => rfl) (fun k hk => ⟨by have := hk.1; simp at this; omega, hk.2⟩) _ _ _ hdc2⟩
        clear hy hy' hbk hcap2 hdc2 hc2 hk2
        obtain ⟨q, q0, q1, q2, q3, q4, q5, qz⟩ := HO2.out.2.1
        simp only at q0 q1 q2 q3 q4 q5
        obtain ⟨i0, hinf, hz0, hz1, hz2⟩ := info_parts infoDat
        unfold dv
        simp only
        go_wp2_with (at_builtin; refine wpList_append_where rfl _ _ 26 rfl (w.heap.size + 2) 28 i0 _ 6 72 Tryz.underlying26 hinf hz0 hz1 hz2 rfl (by decide) v es.length (flat es) rfl (by exact (HO2.out.2.2.own.alloc _).alloc _) ⟨w2.heap.size + 1, 0, none⟩ 1 1 [.int .i64 bk.kind, .int .i64 bk.n, .string bk.name, .int .i64 bk.stamp, .int .i64 bk.lib, .slice a2 bk.kids.length cap2] rfl rfl ?c1 ?c2 (by decide) ?c3 ?c4 ?c5 ?_)
        case c1 =>
          intro q u hq
          have hcell := World.cell?_alloc_mark (w2.alloc (.cells #[.int .i64 bk.kind, .int .i64 bk.n, .string bk.name, .int .i64 bk.stamp, .int .i64 bk.lib, .slice a2 bk.kids.length cap2] 28)) #[.int .i64 bk.kind, .int .i64 bk.n, .string bk.name, .int .i64 bk.stamp, .int .i64 bk.lib, .slice a2 bk.kids.length cap2] 28 (0, 0) q
          have hsz : (w2.alloc (.cells #[.int .i64 bk.kind, .int .i64 bk.n, .string bk.name, .int .i64 bk.stamp, .int .i64 bk.lib, .slice a2 bk.kids.length cap2] 28)).heap.size = w2.heap.size + 1 := by simp
          have hadd := addr_add (w2.heap.size + 1) q
          rw [hsz] at hcell
          rw [hadd, hcell]
          simpa using hq
        case c2 =>
          intro u hu
          simp at hu
          rcases hu with rfl | rfl | rfl | rfl | rfl | rfl <;> rfl
        case c3 => have := HES.out; unfold maxLen; omega
        case c4 => have := HES.out; omega
        case c5 => simp; omega
        intro v' w4 hown4 hg4 hw4
        have HROW : Hid (RowC (w.heap.size + 2) v' (es ++ [(bk, a2, cap2)]) w4) := by
          refine RowC.push (f := f2) (wr := wr) (w := w2.alloc (.cells #[.int .i64 bk.kind, .int .i64 bk.n, .string bk.name, .int .i64 bk.stamp, .int .i64 bk.lib, .slice a2 bk.kids.length cap2] 28)) _ (HO2.out.2.2.below ((Below.refl _ _).alloc (Nat.le_refl _) _)) (by omega) (fun k hk => (HP.out.row.own.lt k hk).2) ?_ HN.out HD2.out.1 hown4 hg4 (by simpa using hw4)
          exact Dc.stay (fun k hk => Below.heap_alloc _ _ _ hk.2) (fun k hk => ⟨hk.1, by simp; have := hk.2; omega⟩) _ _ _ HD2.out.2
        have hrow : ∀ k, v.ownBlock = some k → w.heap.size + 2 ≤ k := fun k hk => (HO2.out.2.2.own.lt k hk).1
        have H4 : Hid (Kp gb w w4 ∧ Ctr gb (n + 1 + sizeL (ks.take (j + 1))) w4 ∧ Nod w.heap.size ⟨4, n', nm, st, lb, ks⟩ (.slice (some ⟨b, o, none⟩) ks.length cap) w4 ∧ Nod (w.heap.size + 1) ⟨4, 0, emS, 0, 0, []⟩ v w4) := by
          refine ⟨((HK2.out.alloc _).alloc _).grown hg4 (fun k hk => by have := hrow k hk; omega), ?_, ((HO2.out.1.alloc _).alloc _).grown hg4 ?_, ((HO2.out.2.1.alloc _).alloc _).grown hg4 ?_⟩
          · have hx := ((HR.out.1.alloc (.cells #[.int .i64 bk.kind, .int .i64 bk.n, .string bk.name, .int .i64 bk.stamp, .int .i64 bk.lib, .slice a2 bk.kids.length cap2] 28)).alloc (.cells #[.int .i64 bk.kind, .int .i64 bk.n, .string bk.name, .int .i64 bk.stamp, .int .i64 bk.lib, .slice a2 bk.kids.length cap2] 28))
            have hbl := hg4.block gb hx.lt (fun e => by have := hrow gb e.symm; omega)
            exact ⟨Nat.lt_of_lt_of_le hx.lt hg4.size, (World.cell?_of_block hbl).trans hx.cell, (World.frozen?_of_block hbl).trans hx.thaw⟩
          · intro e
            have := hrow w.heap.size e.symm
            omega
          · intro e
            have := hrow (w.heap.size + 1) e.symm
            omega
        have hs4 : w.heap.size + 1 < w4.heap.size := H4.out.2.2.2.lt
        clear hown4 hg4 hw4 hrow HD2 q q0 q1 q2 q3 q4 q5 qz
        obtain ⟨ao, ln, cp, hv'⟩ : ∃ ao ln cp, v' = .slice ao ln cp := by
          rcases HROW.out.own.2 with ⟨hv, _⟩ | ⟨gg, cap, cur, hv, _⟩
          · exact ⟨_, _, _, hv⟩
          · exact ⟨_, _, _, hv⟩
        subst hv'
        obtain ⟨q, q0, q1, q2, q3, q4, q5, qz⟩ := H4.out.2.2.2
        simp only at q0 q1 q2 q3 q4 q5
        simp only [Act.put, List.setIfInBounds_toArray, List.set_cons_succ, List.set_cons_zero]
        go_wp2_with fail
        go_roundw
        case rel =>
          refine ⟨j + 1, .slice ao ln cp, es ++ [(bk, a2, cap2)], by omega, by go_num, ?_⟩
          have hke : Keep (w.heap.size + 1) w4 (w4.setCell ⟨w.heap.size + 1, 5, none⟩ (.slice ao ln cp)) := (Keep.refl _ _).setCell _ rfl _
          have hbg : (w4.setCell ⟨w.heap.size + 1, 5, none⟩ (.slice ao ln cp)).heap[gb]? = w4.heap[gb]? := hke.block gb H4.out.2.1.lt (by simp; omega)
          refine ⟨H4.out.1.setNew _ (by simp) _, ⟨?_, (World.cell?_of_block hbg).trans H4.out.2.1.cell, (World.frozen?_of_block hbg).trans H4.out.2.1.thaw⟩, H4.out.2.2.1.keep hke (by omega), H4.out.2.2.2.set5 _, HROW.out.keep hke (by omega), ?_, HR.out.2⟩
          · have := H4.out.2.1.lt
            simpa [World.setCell] using this
          · rw [E3.out, List.map_append, HP.out.same]
            rfl
        case measure => simp [intOf]; omega
      | false =>
        rw [hy, if_neg (by simp)] at hif
        subst hif
        have HF : Hid (holdsL (n + 1) (dp + 1) ks = false) := by
          show holdsL (n + 1) (dp + 1) ks = false
          have hy' : ¬ (n + 1 + sizeL (ks.take j) + sizeD kid ≤ 2000 ∧ dp + 1 + deepD kid ≤ 41) := by
            unfold holdsB at hy
            intro h
            simp [h] at hy
          have h1 := E1.out
          have h2 := E2.out
          unfold holdsL
          rw [Bool.and_eq_false_iff]
          simp
          omega
        clear hy hk2
        obtain ⟨q, q0, q1, q2, q3, q4, q5, qz⟩ := HO2.out.2.1
        simp only [emS] at q0 q1 q2 q3 q4 q5
        simp only [dv, zeroD, emS, List.length_nil]
        go_wp2_with fail
        refine bodyPost_ret (ret89 ((HO2.out.2.1.store zeroD (.slice none 0 0)).alloc _) rfl rfl) rfl ?_
        refine ⟨(HK2.out.six (by omega) _ _ _ _ _ _).alloc _, ?_, ?_⟩
        · simp [World.setCell]
          omega
        · rw [HF.out]
          rfl
    · obtain rfl : j = ks.length := by omega
      obtain ⟨a', cap', f', hv, hcap, hdc⟩ := HP.out.row.lie (by have := HES.out; omega)
      have HS : Hid (es.map (·.1) = bareL ks) := by
        have := HP.out.same
        rw [List.take_length] at this
        exact this
      rw [HS.out] at hv hcap hdc
      have HD : Hid ((bareL ks).length ≤ cap' ∧ Dc (fun b => w.heap.size + 2 ≤ b ∧ b < wr.heap.size) wr f' a' (bareL ks)) := ⟨hcap, hdc⟩
      subst hv
      have HF : Hid (holdsL (n + 1) (dp + 1) ks = true) := by
        have := hcop.holds
        rw [List.take_length] at this
        exact this
      obtain ⟨q, q0, q1, q2, q3, q4, q5, qz⟩ := hcop.out
      simp only [emS] at q0 q1 q2 q3 q4 q5
      clear hcop hdc hcap
      go_wp2_with fail
      refine bodyPost_ret (ret89 (HP.out.out.store ⟨4, 0, emS, 0, 0, []⟩ (.slice a' (bareL ks).length cap')) rfl rfl) rfl ?_
      refine ⟨HP.out.keep.six (by omega) _ _ _ _ _ _, ?_, ?_⟩
      · simp [World.setCell]
        omega
      · rw [HF.out, if_pos rfl]
        refine ⟨?_, a', cap', f', rfl, HD.out.1, ?_⟩
        · have := HP.out.ctr.six (N := w.heap.size + 1) (v0 := .int .i64 4) (v1 := .int .i64 0) (v2 := .string ⟨#[]⟩) (v3 := .int .i64 0) (v4 := .int .i64 0) (v5 := .slice a' (bareL ks).length cap') (by omega)
          rw [List.take_length] at this
          rw [← Nat.add_assoc]
          exact this
        · have hh := six_heap wr (w.heap.size + 1) (.int .i64 4) (.int .i64 0) (.string ⟨#[]⟩) (.int .i64 0) (.int .i64 0) (.slice a' (bareL ks).length cap')
          refine Dc.stay (fun b hb => hh.1 b (by have := hb.1; omega)) (fun b hb => ⟨by have := hb.1; omega, ?_⟩) f' _ _ HD.out.2
          rw [hh.2]
          exact hb.2
end
section
set_option linter.unusedVariables false
set_option linter.unusedSimpArgs false
open Go.RowKit Go.Maps Go.WideMaps

theorem copied_step (B g : Nat) (d : Dat) (a : Option Addr) (cap gb n dp : Nat) (w : World) (hl : LC B w (g + 1) a d.kids) (hsm : smD d) (hn : n ≤ 2000) (hd : dp ≤ 41) (hB : B ≤ gb) (hc : Ctr gb n w)
    (ih : ∀ (d' : Dat), d' ∈ d.kids → ∀ (a : Option Addr) (cap n : Nat) (w : World), LC B w g a d'.kids → smD d' → n ≤ 2000 → dp + 1 ≤ 41 → Ctr gb n w → Calls Tryz.prog 89 #[.pointer (some ⟨gb, 0, none⟩), dv d' a cap, .int .i64 ((dp + 1 : Nat) : Int)] w (ToldG gb (holdsB n (dp + 1) d') (bareD d') (n + sizeD d') w)) :
    Calls Tryz.prog 89 #[.pointer (some ⟨gb, 0, none⟩), dv d a cap, .int .i64 (dp : Int)] w (ToldG gb (holdsB n dp d) (bareD d) (n + sizeD d) w) := by
  by_cases hx : n = 2000 ∨ dp = 41
  · exact copied_no d a cap gb n dp w hn hd hx hc
  · by_cases hk : d.kind = 4
    · exact copied_list B g d a cap gb n dp w hl hsm (by omega) (by omega) hB hc hk ih
    · exact copied_leaf d a cap gb n dp w hsm (by omega) (by omega) hc hk

theorem copied_any (B gb : Nat) (hB : B ≤ gb) : ∀ (g : Nat) (d : Dat) (a : Option Addr) (cap n dp : Nat) (w : World), LC B w g a d.kids → smD d → n ≤ 2000 → dp ≤ 41 → Ctr gb n w →
    Calls Tryz.prog 89 #[.pointer (some ⟨gb, 0, none⟩), dv d a cap, .int .i64 (dp : Int)] w (ToldG gb (holdsB n dp d) (bareD d) (n + sizeD d) w)
  | 0, d, a, cap, n, dp, w, hl, hs, hn, hd, hc => by
    refine copied_step B 0 d a cap gb n dp w hl.more hs hn hd hB hc ?_
    intro d' hd'
    rw [show d.kids = [] from hl.1] at hd'
    cases hd'
  | g + 1, d, a, cap, n, dp, w, hl, hs, hn, hd, hc => copied_step B g d a cap gb n dp w hl hs hn hd hB hc fun d _ a cap n w hl hs hn hd hc => copied_any B gb hB g d a cap n (dp + 1) w hl hs hn hd hc
end
end Go.Proofs.YtceapbliljiplaeGreatDoor
