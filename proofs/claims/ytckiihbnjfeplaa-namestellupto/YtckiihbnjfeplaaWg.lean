/- Package names: what is kept, what is prefixed. -/
import Derived.Test.YtckiihbnjfeplaaWf
namespace Go.Proofs.Ytckiihbnjfeplaa
set_option linter.unusedVariables false
set_option linter.unusedSimpArgs false
open Go.RowKit Go.Maps Go.WideMaps

set_option maxRecDepth 100000 in
set_option maxHeartbeats 3200000 in
theorem kept_38 (B : Nat) (ps : List Pr) (c : Option Addr) (cc cb : Nat) (q : ByteArray → Bool) (w : World) (h : Prs B w c ps) (hB : B ≤ w.heap.size) (hl : ps.length ≤ 200) (hsz : ∀ p ∈ ps, p.1.size ≤ 20)
    (hq : ∀ (W : World) (s : ByteArray), Below w.heap.size w W → s.size ≤ maxLen → Calls Try.prog 33 #[.string s, .pointer (some ⟨cb, 0, none⟩)] W fun e w' => e = .returned (.bool (q s)) ∧ w' = W) :
    Calls Try.prog 34 #[.slice c ps.length cc, .func (.func 33) #[] #[.pointer (some ⟨cb, 0, none⟩)]] w fun e w' => ∃ v, e = .returned v ∧ Below w.heap.size w w' ∧ RowP w.heap.size v (ps.filter fun p => q p.1) w' := by
  have HP : Hid (Prs B w c ps ∧ B ≤ w.heap.size ∧ ∀ p ∈ ps, p.1.size ≤ 20) := ⟨h, hB, hsz⟩
  have HQ : Hid (∀ (W : World) (s : ByteArray), Below w.heap.size w W → s.size ≤ maxLen → Calls Try.prog 33 #[.string s, .pointer (some ⟨cb, 0, none⟩)] W fun e w' => e = .returned (.bool (q s)) ∧ w' = W) := hq
  clear h hB hsz hq
  go_enter Try.func34, Try.ntmps34
  go_wp2_with fail
  go_loopw [5, 10] (fun v i wr => ∃ (j : Nat) (qs : List Pr), j ≤ ps.length ∧ i = .int .i64 j ∧ Hid (qs = (ps.take j).filter fun p => q p.1) ∧ Below w.heap.size w wr ∧ RowP w.heap.size v qs wr) (fun _ i _ => ps.length - (intOf i).toNat)
  case atStart => exact ⟨0, [], Nat.zero_le _, rfl, rfl, Below.refl _ _, RowP.nil _ _⟩
  case round =>
    obtain ⟨j, qs, hj, rfl, HF, hb, hr⟩ := hrel
    have HR : Hid (Below w.heap.size w wr ∧ RowP w.heap.size u5 qs wr) := ⟨hb, hr⟩
    have hql : qs.length ≤ 200 := by
      have := List.length_filter_le (fun p : Pr => q p.1) (ps.take j)
      rw [HF.out]
      rw [List.length_take] at this
      omega
    by_cases hlt : j < ps.length
    · obtain ⟨b, o, p, rfl, hbB, hs, hc0, hc1⟩ := HP.out.1.at hlt
      have k0 := (hb.cell (p := ⟨b, o + j * 2, none⟩) (Nat.lt_of_lt_of_le hbB HP.out.2.1)).trans hc0
      have k1 := (hb.cell (p := ⟨b, o + j * 2 + 1, none⟩) (Nat.lt_of_lt_of_le hbB HP.out.2.1)).trans hc1
      obtain ⟨p1, p2⟩ := p
      have HX : Hid (ps[j]? = some (p1, p2) ∧ p1.size ≤ maxLen) := ⟨hs, by have := HP.out.2.2 _ (List.mem_of_getElem? hs); simp only at this; unfold maxLen; omega⟩
      simp only at k0 k1
      clear hc0 hc1 hs
      have ask := HQ.out (wr.alloc (.cells #[.string p1, .string p2] 43)) p1 (hb.alloc hb.size _) HX.out.2
      obtain ⟨d, HD⟩ : ∃ d, Hid (q p1 = d) := ⟨q p1, (rfl : q p1 = q p1)⟩
      rw [HD.out] at ask
      have AS : Hid (Calls Try.prog 33 #[.string p1, .pointer (some ⟨cb, 0, none⟩)] (wr.alloc (.cells #[.string p1, .string p2] 43)) fun e w' => e = .returned (.bool d) ∧ w' = (wr.alloc (.cells #[.string p1, .string p2] 43))) := ask
      clear ask hb hr
      cases d
      · go_wp2_with fail
        refine AS.out.mono ?_
        rintro e w' ⟨rfl, rfl⟩
        go_wp2_with fail
        go_roundw
        case rel =>
          refine ⟨j + 1, qs, by omega, by go_num, ?_, HR.out.1.alloc HR.out.1.size _, HR.out.2.alloc _⟩
          show qs = _
          rw [take_put HX.out.1, List.filter_append, HF.out]
          simp [HD.out]
        case measure => simp [intOf]; omega
      · go_wp2_with fail
        refine AS.out.mono ?_
        rintro e w' ⟨rfl, rfl⟩
        go_wp2_with (at_builtin; refine wpList_pushP p1 p2 _ rfl _ _ rfl w.heap.size u5 qs rfl (HR.out.2.alloc _) rfl (by simp) (by have := HR.out.1.size; simp; omega) (by omega) ?_)
        intro at' cap' w3 hr3 hb3
        have H3 : Hid (Below w.heap.size w w3 ∧ RowP w.heap.size (.slice at' (qs.length + 1) cap') (qs ++ [(p1, p2)]) w3 ∧ qs ++ [(p1, p2)] = (ps.take (j + 1)).filter fun p => q p.1) :=
          ⟨(HR.out.1.alloc HR.out.1.size _).trans hb3, hr3, by rw [take_put HX.out.1, List.filter_append, HF.out]; simp [HD.out]⟩
        clear hr3 hb3 HR k0 k1
        go_wp2_with fail
        go_roundw
        case rel => exact ⟨j + 1, _, by omega, by go_num, H3.out.2.2, H3.out.1, H3.out.2.1⟩
        case measure => simp [intOf]; omega
    · obtain rfl : j = ps.length := by omega
      clear hb hr
      go_wp2_with fail
      go_ret
      refine ⟨_, rfl, HR.out.1, ?_⟩
      have := HR.out.2
      rw [HF.out, List.take_length] at this
      exact this

set_option maxRecDepth 100000 in
set_option maxHeartbeats 3200000 in
theorem kept_40 (B : Nat) (ps : List Pr) (c : Option Addr) (cc cb : Nat) (q : ByteArray → Bool) (w : World) (h : Prs B w c ps) (hB : B ≤ w.heap.size) (hl : ps.length ≤ 200) (hsz : ∀ p ∈ ps, p.1.size ≤ 20)
    (hq : ∀ (W : World) (s : ByteArray), Below w.heap.size w W → s.size ≤ maxLen → Calls Try.prog 35 #[.string s, .pointer (some ⟨cb, 0, none⟩)] W fun e w' => e = .returned (.bool (q s)) ∧ w' = W) :
    Calls Try.prog 34 #[.slice c ps.length cc, .func (.func 35) #[] #[.pointer (some ⟨cb, 0, none⟩)]] w fun e w' => ∃ v, e = .returned v ∧ Below w.heap.size w w' ∧ RowP w.heap.size v (ps.filter fun p => q p.1) w' := by
  have HP : Hid (Prs B w c ps ∧ B ≤ w.heap.size ∧ ∀ p ∈ ps, p.1.size ≤ 20) := ⟨h, hB, hsz⟩
  have HQ : Hid (∀ (W : World) (s : ByteArray), Below w.heap.size w W → s.size ≤ maxLen → Calls Try.prog 35 #[.string s, .pointer (some ⟨cb, 0, none⟩)] W fun e w' => e = .returned (.bool (q s)) ∧ w' = W) := hq
  clear h hB hsz hq
  go_enter Try.func34, Try.ntmps34
  go_wp2_with fail
  go_loopw [5, 10] (fun v i wr => ∃ (j : Nat) (qs : List Pr), j ≤ ps.length ∧ i = .int .i64 j ∧ Hid (qs = (ps.take j).filter fun p => q p.1) ∧ Below w.heap.size w wr ∧ RowP w.heap.size v qs wr) (fun _ i _ => ps.length - (intOf i).toNat)
  case atStart => exact ⟨0, [], Nat.zero_le _, rfl, rfl, Below.refl _ _, RowP.nil _ _⟩
  case round =>
    obtain ⟨j, qs, hj, rfl, HF, hb, hr⟩ := hrel
    have HR : Hid (Below w.heap.size w wr ∧ RowP w.heap.size u5 qs wr) := ⟨hb, hr⟩
    have hql : qs.length ≤ 200 := by
      have := List.length_filter_le (fun p : Pr => q p.1) (ps.take j)
      rw [HF.out]
      rw [List.length_take] at this
      omega
    by_cases hlt : j < ps.length
    · obtain ⟨b, o, p, rfl, hbB, hs, hc0, hc1⟩ := HP.out.1.at hlt
      have k0 := (hb.cell (p := ⟨b, o + j * 2, none⟩) (Nat.lt_of_lt_of_le hbB HP.out.2.1)).trans hc0
      have k1 := (hb.cell (p := ⟨b, o + j * 2 + 1, none⟩) (Nat.lt_of_lt_of_le hbB HP.out.2.1)).trans hc1
      obtain ⟨p1, p2⟩ := p
      have HX : Hid (ps[j]? = some (p1, p2) ∧ p1.size ≤ maxLen) := ⟨hs, by have := HP.out.2.2 _ (List.mem_of_getElem? hs); simp only at this; unfold maxLen; omega⟩
      simp only at k0 k1
      clear hc0 hc1 hs
      have ask := HQ.out (wr.alloc (.cells #[.string p1, .string p2] 43)) p1 (hb.alloc hb.size _) HX.out.2
      obtain ⟨d, HD⟩ : ∃ d, Hid (q p1 = d) := ⟨q p1, (rfl : q p1 = q p1)⟩
      rw [HD.out] at ask
      have AS : Hid (Calls Try.prog 35 #[.string p1, .pointer (some ⟨cb, 0, none⟩)] (wr.alloc (.cells #[.string p1, .string p2] 43)) fun e w' => e = .returned (.bool d) ∧ w' = (wr.alloc (.cells #[.string p1, .string p2] 43))) := ask
      clear ask hb hr
      cases d
      · go_wp2_with fail
        refine AS.out.mono ?_
        rintro e w' ⟨rfl, rfl⟩
        go_wp2_with fail
        go_roundw
        case rel =>
          refine ⟨j + 1, qs, by omega, by go_num, ?_, HR.out.1.alloc HR.out.1.size _, HR.out.2.alloc _⟩
          show qs = _
          rw [take_put HX.out.1, List.filter_append, HF.out]
          simp [HD.out]
        case measure => simp [intOf]; omega
      · go_wp2_with fail
        refine AS.out.mono ?_
        rintro e w' ⟨rfl, rfl⟩
        go_wp2_with (at_builtin; refine wpList_pushP p1 p2 _ rfl _ _ rfl w.heap.size u5 qs rfl (HR.out.2.alloc _) rfl (by simp) (by have := HR.out.1.size; simp; omega) (by omega) ?_)
        intro at' cap' w3 hr3 hb3
        have H3 : Hid (Below w.heap.size w w3 ∧ RowP w.heap.size (.slice at' (qs.length + 1) cap') (qs ++ [(p1, p2)]) w3 ∧ qs ++ [(p1, p2)] = (ps.take (j + 1)).filter fun p => q p.1) :=
          ⟨(HR.out.1.alloc HR.out.1.size _).trans hb3, hr3, by rw [take_put HX.out.1, List.filter_append, HF.out]; simp [HD.out]⟩
        clear hr3 hb3 HR k0 k1
        go_wp2_with fail
        go_roundw
        case rel => exact ⟨j + 1, _, by omega, by go_num, H3.out.2.2, H3.out.1, H3.out.2.1⟩
        case measure => simp [intOf]; omega
    · obtain rfl : j = ps.length := by omega
      clear hb hr
      go_wp2_with fail
      go_ret
      refine ⟨_, rfl, HR.out.1, ?_⟩
      have := HR.out.2
      rw [HF.out, List.take_length] at this
      exact this

/-- What a step of bringing leaves. -/
def OutP (r : Sum Int (List Pr)) (w : World) (e : Ending) (w' : World) : Prop :=
  Below w.heap.size w w' ∧ match r with
    | .inl x => e = .returned (.tuple #[.slice none 0 0, .int .i64 x])
    | .inr qs => ∃ v, e = .returned (.tuple #[v, .int .i64 0]) ∧ RowP w.heap.size v qs w'

theorem pref_stop {l : Ly} {ps : List Pr} {j : Nat} {p : Pr} (h : ps[j]? = some p) (hn : namedB (l.pre ++ p.1) = false) : pref l ps = .inl 7 := by
  unfold pref
  rw [if_neg]
  intro ha
  have := List.all_eq_true.1 ha p (List.mem_of_getElem? h)
  rw [hn] at this
  cases this

set_option maxRecDepth 100000 in
set_option maxHeartbeats 3200000 in
theorem prefixed_any (B : Nat) (l : Ly) (ps : List Pr) (c : Option Addr) (cc : Nat) (w : World) (h : Prs B w c ps) (hB : B ≤ w.heap.size) (hl : ps.length ≤ 200) (hsz : ∀ p ∈ ps, p.1.size ≤ 20) (hp : l.pre.size ≤ 20) :
    Calls Try.prog 31 #[.slice c ps.length cc, .string l.pre] w (OutP (pref l ps) w) := by
  have HP : Hid (Prs B w c ps ∧ B ≤ w.heap.size ∧ ∀ p ∈ ps, p.1.size ≤ 20) := ⟨h, hB, hsz⟩
  clear h hB hsz
  obtain ⟨pr, HPR⟩ : ∃ pr, Hid (l.pre = pr) := ⟨_, rfl⟩
  rw [HPR.out] at hp ⊢
  obtain ⟨R, HRR⟩ : ∃ R, Hid (pref l ps = R) := ⟨_, rfl⟩
  rw [HRR.out]
  go_enter Try.func31, Try.ntmps31
  go_wp2_with fail
  go_loopw [6, 12] (fun v i wr => ∃ (j : Nat) (qs : List Pr), j ≤ ps.length ∧ i = .int .i64 j ∧ Hid (qs = (ps.take j).map (fun p => (pr ++ p.1, p.2)) ∧ (ps.take j).all (fun p => namedB (pr ++ p.1)) = true) ∧ Below w.heap.size w wr ∧ RowP w.heap.size v qs wr) (fun _ i _ => ps.length - (intOf i).toNat)
  case atStart => exact ⟨0, [], Nat.zero_le _, rfl, ⟨rfl, rfl⟩, Below.refl _ _, RowP.nil _ _⟩
  case round =>
    obtain ⟨j, qs, hj, rfl, HF, hb, hr⟩ := hrel
    have HR : Hid (Below w.heap.size w wr ∧ RowP w.heap.size u6 qs wr) := ⟨hb, hr⟩
    have hql : qs.length ≤ 200 := by
      rw [HF.out.1, List.length_map, List.length_take]
      omega
    by_cases hlt : j < ps.length
    · obtain ⟨b, o, p, rfl, hbB, hs, hc0, hc1⟩ := HP.out.1.at hlt
      have k0 := (hb.cell (p := ⟨b, o + j * 2, none⟩) (Nat.lt_of_lt_of_le hbB HP.out.2.1)).trans hc0
      have k1 := (hb.cell (p := ⟨b, o + j * 2 + 1, none⟩) (Nat.lt_of_lt_of_le hbB HP.out.2.1)).trans hc1
      have hp1 := HP.out.2.2 _ (List.mem_of_getElem? hs)
      obtain ⟨p1, p2⟩ := p
      simp only at hp1
      have HX : Hid (ps[j]? = some (p1, p2)) := hs
      simp only at k0 k1
      clear hc0 hc1 hs hb hr
      have nc := fun W => Named_any (pr ++ p1) (by rw [ByteArray.size_append]; unfold maxLen; omega) W
      obtain ⟨d, HD⟩ : ∃ d, Hid (namedB (pr ++ p1) = d) := ⟨namedB (pr ++ p1), (rfl : namedB (pr ++ p1) = namedB (pr ++ p1))⟩
      rw [HD.out] at nc
      have NC : Hid (∀ W, Calls Try.prog 29 #[.string (pr ++ p1)] W fun e w' => e = .returned (.bool d) ∧ w' = W) := nc
      clear nc
      cases d
      · have HE : Hid (R = .inl 7) := HRR.out.symm.trans (pref_stop HX.out (by rw [HPR.out]; exact HD.out))
        go_wp2_with fail
        refine (NC.out _).mono ?_
        rintro e w' ⟨rfl, rfl⟩
        go_wp2_with fail
        go_ret2
        rw [HE.out]
        exact ⟨HR.out.1.alloc HR.out.1.size _, rfl⟩
      · go_wp2_with fail
        refine (NC.out _).mono ?_
        rintro e w' ⟨rfl, rfl⟩
        go_wp2_with (at_builtin; refine wpList_pushP (pr ++ p1) p2 _ rfl _ _ rfl w.heap.size u6 qs rfl (HR.out.2.alloc _) rfl (by simp) (by have := HR.out.1.size; simp; omega) (by omega) ?_)
        intro at' cap' w3 hr3 hb3
        have H3 : Hid (Below w.heap.size w w3 ∧ RowP w.heap.size (.slice at' (qs.length + 1) cap') (qs ++ [(pr ++ p1, p2)]) w3 ∧ qs ++ [(pr ++ p1, p2)] = (ps.take (j + 1)).map (fun p => (pr ++ p.1, p.2)) ∧ (ps.take (j + 1)).all (fun p => namedB (pr ++ p.1)) = true) :=
          ⟨(HR.out.1.alloc HR.out.1.size _).trans hb3, hr3, by rw [take_put HX.out, List.map_append, HF.out.1]; rfl, by rw [take_put HX.out, List.all_append, HF.out.2]; simp [HD.out]⟩
        clear hr3 hb3 HR k0 k1
        go_wp2_with fail
        go_roundw
        case rel => exact ⟨j + 1, _, by omega, by go_num, H3.out.2.2, H3.out.1, H3.out.2.1⟩
        case measure => simp [intOf]; omega
    · obtain rfl : j = ps.length := by omega
      clear hb hr
      have HE : Hid (R = .inr qs) := HRR.out.symm.trans (by
        have h1 := HF.out.1
        have h2 := HF.out.2
        rw [List.take_length] at h1 h2
        unfold pref
        rw [HPR.out, if_pos h2, h1])
      go_wp2_with fail
      go_ret2
      rw [HE.out]
      exact ⟨HR.out.1, _, rfl, HR.out.2⟩
end Go.Proofs.Ytckiihbnjfeplaa
