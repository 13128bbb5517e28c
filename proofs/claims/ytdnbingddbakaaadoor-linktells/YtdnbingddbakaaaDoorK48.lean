/- Chapter 10's laws: LinkRight, its walk. -/
import Derived.Test.YtdnbingddbakaaaDoorK45
import Derived.Test.YtdnbingddbakaaaDoorK46
import Derived.Test.YtdnbingddbakaaaDoorK47
import Derived.Test.YtdnbingddbakaaaDoorK38
namespace Go.Proofs.YtdnbingddbakaaaDoor
set_option linter.unusedVariables false
set_option linter.unusedSimpArgs false
open Go.RowKit

/-- Nothing is the same as nothing. -/
theorem SameImage_none (w : World) : Calls Tryd.prog 9 #[.agg #[.slice none 0 0, .slice none 0 0, .slice none 0 0], .agg #[.slice none 0 0, .slice none 0 0, .slice none 0 0]] w (Yes w) := by
  have SP := hidd (fun W => SameP_any none none 0 0 [] W (Or.inl rfl) (Or.inl rfl) (by simp) (by simp) (by simp) (by simp))
  have b1 := ((Below.refl w.heap.size w).alloc (Nat.le_refl _) (.cells #[.slice none 0 0, .slice none 0 0, .slice none 0 0] 27)).alloc (by simp) (.cells #[.slice none 0 0, .slice none 0 0, .slice none 0 0] 27)
  have n1 : ((w.alloc (.cells #[.slice none 0 0, .slice none 0 0, .slice none 0 0] 27)).alloc (.cells #[.slice none 0 0, .slice none 0 0, .slice none 0 0] 27)).heap[w.heap.size]? = some (.cells #[.slice none 0 0, .slice none 0 0, .slice none 0 0] 27 (0, 0)) := (Below.heap_alloc _ _ _ (by simp)).trans (World.alloc_heap_new w _)
  have n2 : ((w.alloc (.cells #[.slice none 0 0, .slice none 0 0, .slice none 0 0] 27)).alloc (.cells #[.slice none 0 0, .slice none 0 0, .slice none 0 0] 27)).heap[w.heap.size + 1]? = some (.cells #[.slice none 0 0, .slice none 0 0, .slice none 0 0] 27 (0, 0)) := by
    have := World.alloc_heap_new (w.alloc (.cells #[.slice none 0 0, .slice none 0 0, .slice none 0 0] 27)) (.cells #[.slice none 0 0, .slice none 0 0, .slice none 0 0] 27)
    simpa using this
  have HB := hidd b1
  have N1 := hidd n1
  have N2 := hidd n2
  clear b1 n1 n2
  go_enter Tryd.func9, Tryd.ntmps9
  go_upto_region 1 with fail
  generalize (w.alloc (.cells #[.slice none 0 0, .slice none 0 0, .slice none 0 0] 27)).alloc (.cells #[.slice none 0 0, .slice none 0 0, .slice none 0 0] 27) = V at HB N1 N2 ⊢
  obtain ⟨b, hb⟩ : ∃ u, u = w.heap.size := ⟨_, rfl⟩
  rw [← hb] at N1 N2 ⊢
  clear hb
  have x0 : V.cell? ⟨b, 0, none⟩ = some (.slice none 0 0) := (cellO N1.out).trans rfl
  have x1 : V.cell? ⟨b, 1, none⟩ = some (.slice none 0 0) := (cellO N1.out).trans rfl
  have x2 : V.cell? ⟨b, 2, none⟩ = some (.slice none 0 0) := (cellO N1.out).trans rfl
  have z0 : V.cell? ⟨b + 1, 0, none⟩ = some (.slice none 0 0) := (cellO N2.out).trans rfl
  have z1 : V.cell? ⟨b + 1, 1, none⟩ = some (.slice none 0 0) := (cellO N2.out).trans rfl
  have z2 : V.cell? ⟨b + 1, 2, none⟩ = some (.slice none 0 0) := (cellO N2.out).trans rfl
  go_wp2_with fail
  refine (SP.out _).mono ?_
  rintro e W3 ⟨rfl, hb3⟩
  have HB3 := hidd (HB.out.trans (hb3.mono HB.out.size))
  have hlt := (Array.getElem?_eq_some_iff.1 N1.out).1
  have q0 := (hb3.cell (p := ⟨b, 0, none⟩) hlt).trans x0
  have q2 := (hb3.cell (p := ⟨b, 2, none⟩) hlt).trans x2
  clear hb3 x0 x1 x2 z0 z1 z2 hlt
  go_wp2_with fail
  go_loopw [34] (fun i wr => i = .int .i64 0 ∧ Hid (wr = W3)) (fun _ _ => 0)
  case atStart => exact ⟨rfl, rfl⟩
  case round =>
  obtain ⟨rfl, HR⟩ := hrel
  obtain rfl := HR.out
  go_wp2_with fail
  go_loopw [52] (fun i wz => i = .int .i64 0 ∧ Hid (wz = wr)) (fun _ _ => 0)
  case atStart => exact ⟨rfl, rfl⟩
  case round =>
  obtain ⟨rfl, HR⟩ := hrel
  obtain rfl := HR.out
  go_wp2_with fail
  go_ret
  exact ⟨rfl, HB3.out⟩
/-- What of an image's starts is looked at. -/
theorem told_starts {us : List Un} {bv pv sv : Value} {w w' : World} (h : LinkOk us bv pv sv w w') : ∃ sa sc, sv = .slice sa us.length sc ∧ us.length ≤ sc ∧ NL w'.heap.size w' sa (stF 0 us) := by
  obtain ⟨ps, ss, k1, k2, k3, k4, k5⟩ := h
  have e : ss = stF 0 us := by
    have := congrArg Prod.snd k4
    simp only at this
    rw [this]
    unfold imgS
    rw [imgS_from]
    simp
  subst e
  rw [stF_len] at k3
  by_cases h0 : us.length = 0
  · obtain ⟨sa, sc, h1, h2⟩ := own_slice k3
    refine ⟨sa, sc, h1, h2, Or.inl ?_⟩
    exact List.length_eq_zero_iff.1 (by rw [stF_len]; exact h0)
  · obtain ⟨g, sc, h1, h2, _, h4, _, h6⟩ := own_at k3 (by omega)
    refine ⟨_, sc, h1, h2, Or.inr ⟨g, 0, rfl, h4, fun i v hv => ?_⟩⟩
    rw [Nat.zero_add]
    refine h6 i _ ?_
    unfold ints
    rw [List.getElem?_map, hv]
    rfl
theorem lenF_take {us : List Un} : ∀ {k : Nat} {u : Un}, us[k]? = some u → lenF (us.take (k + 1)) = lenF (us.take k) + u.2.length := by
  induction us with
  | nil => intro k u h; simp at h
  | cons x r ih =>
    intro k u h
    cases k with
    | zero =>
      simp at h
      subst h
      simp [lenF]
    | succ k =>
      simp at h
      rw [List.take_succ_cons, List.take_succ_cons, lenF, lenF, ih h]
      omega
theorem lenF_le {us : List Un} (h : ∀ u ∈ us, u.2.length ≤ 500) : ∀ k, lenF (us.take k) ≤ k * 500 := by
  induction us with
  | nil => intro k; simp [lenF]
  | cons x r ih =>
    intro k
    cases k with
    | zero => simp [lenF]
    | succ k =>
      rw [List.take_succ_cons, lenF, Nat.succ_mul]
      have := ih (fun u hu => h u (by simp [hu])) k
      have := h x (by simp)
      omega
theorem stW_stF (N : Nat) : ∀ (vs : List Un) (b : Nat) (last : Int), last < (b : Int) → (∀ v ∈ vs, 1 ≤ v.2.length) → b + lenF vs ≤ N → stW N (stF b vs) last = 0
  | [], _, _, _, _, _ => rfl
  | v :: r, b, last, h1, h2, h3 => by
    have hv := h2 v (by simp)
    rw [lenF] at h3
    rw [stF, stW, if_neg (by omega)]
    exact stW_stF N r (b + v.2.length) b (by omega) (fun u hu => h2 u (by simp [hu])) (by omega)
theorem idxG_not {gs : List Gl} {s : Gl} (h : s ∉ gs) : (idxG gs s).isSome = false := by
  cases e : idxG gs s with
  | none => rfl
  | some i => exact absurd (List.mem_of_getElem? (idxG_at gs s i e)) h
/-- What is right of an image that is told. -/
theorem image_fine {us : List Un} (h : (linkF us).1 = 0) : wrongIm (defAll us us.length).length (imgS (defAll us us.length) us).1 (stF 0 us) = 0 ∧ (imgS (defAll us us.length) us).1.length = lenF us ∧ us.length ≤ 40 ∧ (∀ u ∈ us, u.2.length ≤ 500) := by
  obtain ⟨h1, h2, h3, h4⟩ := linkF_ok h
  have hr := all_right h2
  have hi : imgS (defAll us us.length) us = (imgF (defAll us us.length) 0 us, stF 0 us) := by
    unfold imgS
    rw [imgS_from]
    simp
  have hle := lenF_le (fun u hu => (hr u hu).n500) us.length
  rw [List.take_length] at hle
  have hlen : (imgS (defAll us us.length) us).1.length = lenF us := by rw [hi]; exact imgF_len _ us 0
  refine ⟨?_, hlen, h1, fun u hu => (hr u hu).n500⟩
  have hw := image_right h
  have h2' : (imgS (defAll us us.length) us).2 = stF 0 us := by rw [hi]
  rw [h2'] at hw
  unfold wrongIm
  rw [if_neg (by rw [hlen, stF_len]; omega), hlen]
  have hst := stW_stF (lenF us) us 0 (-1) (by omega) (fun u hu => (hr u hu).some) (by omega)
  rw [if_neg (by rw [hst]; decide)]
  exact hw
set_option maxRecDepth 100000 in
set_option maxHeartbeats 12800000 in
theorem LinkRight_walk (us : List Un) (aa : Option Addr) (n ca : Nat) (w : World) (hn : n = us.length) (ha : UL w.heap.size w aa us) (hac : n ≤ ca) (hma : ∀ u ∈ us, u.2.length ≤ 9223372036854775807) (hn2 : n ≤ 9223372036854775807) (htab : TabS w) :
    Calls Tryd.prog 4 #[.slice aa n ca] w fun e w' => e = .returned (.bool true) ∧ Below w.heap.size w w' := by
  have AL := hidd (alive10_any w htab)
  have LA : Hid (∀ W, Below w.heap.size w W → Calls Tryd.prog 7 #[.slice aa n ca] W (ToldL us W)) := fun W h => by
    have := Link_any us aa ca W ((ha.below h).mono h.size) (by rw [← hn]; exact hac) (htab.below h) hma (by rw [← hn]; exact hn2)
    rw [← hn] at this
    exact this
  have HA := hidd ha
  have HN := hidd hn
  clear ha hma htab hn
  go_enter Tryd.func4, Tryd.ntmps4
  go_wp2_with fail
  refine AL.out.mono ?_
  rintro e W1 ⟨rfl, s1⟩
  have HB1 := hidd s1
  clear s1 AL
  go_wp2_with fail
  refine (LA.out W1 HB1.out).mono ?_
  rintro e W2 ⟨bv, pv, sv, rfl, s3, hbad, hok⟩
  by_cases h0 : (linkF us).1 = 0
  · obtain ⟨sa, sc, hsv, hsc, hnl⟩ := told_starts (hok h0)
    obtain ⟨ba, bn, bc, pa, pn, pc, sa', sn, sc', rfl, rfl, hsv2, him0⟩ := told_slices hbad hok
    clear hsv2
    subst hsv
    have him := him0 h0
    obtain ⟨f1, f2, f3, f4⟩ := image_fine h0
    have FN := hidd (And.intro f1 f2)
    have FS := hidd (link_short h0)
    have ND : Hid ((defAll us us.length).Nodup) := defGs_nodup _ [] (by simp)
    have hle := lenF_le f4
    have hn40 : n ≤ 40 := by rw [HN.out]; exact f3
    rw [← HN.out] at hsc ⊢
    obtain ⟨lf, hlf⟩ : ∃ l, l = linkF us := ⟨_, rfl⟩
    rw [← hlf] at h0 ⊢
    unfold fv
    have hba := ((Below.refl W2.heap.size W2).alloc (Nat.le_refl _) (.cells #[.slice ba bn bc, .slice pa pn pc, .slice sa n sc] 27)).alloc (by simp) (.cells #[.int .i64 lf.1, .int .i64 lf.2] 30)
    have n1 : Hid (((W2.alloc (.cells #[.slice ba bn bc, .slice pa pn pc, .slice sa n sc] 27)).alloc (.cells #[.int .i64 lf.1, .int .i64 lf.2] 30)).heap[W2.heap.size]? = some (.cells #[.slice ba bn bc, .slice pa pn pc, .slice sa n sc] 27 (0, 0))) := (Below.heap_alloc _ _ _ (by simp)).trans (World.alloc_heap_new W2 _)
    have n2 : Hid (((W2.alloc (.cells #[.slice ba bn bc, .slice pa pn pc, .slice sa n sc] 27)).alloc (.cells #[.int .i64 lf.1, .int .i64 lf.2] 30)).heap[W2.heap.size + 1]? = some (.cells #[.int .i64 lf.1, .int .i64 lf.2] 30 (0, 0))) := by
      have := World.alloc_heap_new (W2.alloc (.cells #[.slice ba bn bc, .slice pa pn pc, .slice sa n sc] 27)) (.cells #[.int .i64 lf.1, .int .i64 lf.2] 30)
      show ((W2.alloc (.cells #[.slice ba bn bc, .slice pa pn pc, .slice sa n sc] 27)).alloc (.cells #[.int .i64 lf.1, .int .i64 lf.2] 30)).heap[W2.heap.size + 1]? = some (.cells #[.int .i64 lf.1, .int .i64 lf.2] 30 (0, 0))
      simpa using this
    have hb2 := HB1.out.trans (s3.mono HB1.out.size)
    have HB3 := hidd (hb2.trans (hba.mono hb2.size))
    have I1 := hidd (him.below hba)
    have NS : Hid (NL ((W2.alloc (.cells #[.slice ba bn bc, .slice pa pn pc, .slice sa n sc] 27)).alloc (.cells #[.int .i64 lf.1, .int .i64 lf.2] 30)).heap.size ((W2.alloc (.cells #[.slice ba bn bc, .slice pa pn pc, .slice sa n sc] 27)).alloc (.cells #[.int .i64 lf.1, .int .i64 lf.2] 30)) sa (stF 0 us)) := by
      rcases hnl with h | ⟨b, o, h1, h2, h3⟩
      · exact Or.inl h
      · exact Or.inr ⟨b, o, h1, Nat.lt_of_lt_of_le h2 hba.size, fun i v hv => (hba.cell (p := ⟨b, o + i, none⟩) h2).trans (h3 i v hv)⟩
    have e1 : (lf.1 != 0) = false := by rw [h0]; rfl
    have b20 : bn ≤ 500 := by
      have h := (linkF_ok (by rw [← hlf]; exact h0)).2.2.1
      rw [him.ebn]; exact h
    have HLE := hidd hle
    clear hlf hbad hok him him0 hba hb2 s3 HB1 LA h0 hnl f1 f2 f3 f4 hle
    go_upto_region 4 with fail
    generalize ((W2.alloc (.cells #[.slice ba bn bc, .slice pa pn pc, .slice sa n sc] 27)).alloc (.cells #[.int .i64 lf.1, .int .i64 lf.2] 30)) = V at n1 n2 HB3 I1 NS ⊢
    generalize W2.heap.size = im at n1 n2 ⊢
    generalize defAll us us.length = gs at I1 FN FS ND
    generalize (imgS gs us).1 = PP at I1 FN
    have y0 : V.cell? ⟨im + 1, 0, none⟩ = some (.int .i64 lf.1) := (cellO n2.out).trans rfl
    go_wp2_with fail
    clear y0 e1 n2
    go_loopw [26, 5] (fun i s5 wr => ∃ k : Nat, k ≤ n ∧ i = .int .i64 k ∧ s5 = .int .i64 (lenF (us.take k)) ∧ Hid (Below V.heap.size V wr)) (fun i _ _ => n - (intOf i).toNat)
    case atStart => exact ⟨0, Nat.zero_le _, rfl, by simp [lenF], Below.refl _ _⟩
    case round =>
    obtain ⟨k, hk, rfl, rfl, HR⟩ := hrel
    have hlk : lenF (us.take k) ≤ 20000 := by have := HLE.out k; omega
    by_cases hkl : k < n
    · obtain ⟨u, hu⟩ : ∃ u, us[k]? = some u := ⟨_, List.getElem?_eq_getElem (by rw [← HN.out]; exact hkl)⟩
      obtain ⟨ab, ao, rfl, hab, hall⟩ := HA.out.at hu
      obtain ⟨ua, uc, s0, s1, _, _, _⟩ := hall k u hu
      have bw := HB3.out.trans (HR.out.mono HB3.out.size)
      have s0' := (bw.cell (p := ⟨ab, ao + k * 2, none⟩) hab).trans s0
      have s1' := (bw.cell (p := ⟨ab, ao + k * 2 + 1, none⟩) hab).trans s1
      have htk := lenF_take hu
      obtain ⟨un, hun⟩ : ∃ v, v = u.2.length := ⟨_, rfl⟩
      rw [← hun] at s1' htk
      have hun5 : lenF (us.take k) + un ≤ 20500 := by rw [← htk]; have := HLE.out (k + 1); omega
      have HTK := hidd htk
      have ba2 := (Below.refl wr.heap.size wr).alloc (Nat.le_refl _) (.cells #[.string u.1, .slice ua un uc] 37)
      have HR2 := hidd (HR.out.trans (ba2.mono HR.out.size))
      have q1 : (wr.alloc (.cells #[.string u.1, .slice ua un uc] 37)).cell? ⟨wr.heap.size, 1, none⟩ = some (.slice ua un uc) := (cellO (World.alloc_heap_new wr _)).trans rfl
      clear s0 s1 hu hall htk hun ba2 bw HR
      go_upto_region 10 with fail
      clear s0' s1'
      generalize wr.alloc (.cells #[.string u.1, .slice ua un uc] 37) = V3 at HR2 q1 ⊢
      generalize wr.heap.size = vb at q1 ⊢
      generalize lenF (us.take k) = lk at hlk hun5 HTK ⊢
      go_wp2_with fail
      go_roundw
      case rel => exact ⟨k + 1, by omega, by go_num, by rw [HTK.out]; go_num, HR2.out⟩
      case measure => simp [intOf]; omega
    obtain rfl : k = n := by omega
    have hall : lenF (us.take k) = pn := by rw [List.take_of_length_le (by rw [HN.out]; exact Nat.le_refl _), I1.out.epn, FN.out.2]
    rw [hall] at hlk ⊢
    clear hall
    have him := (Array.getElem?_eq_some_iff.1 n1.out).1
    have hmm := @run_makeMap Tryd.prog
    have bm := (Below.refl wr.heap.size wr).alloc (Nat.le_refl _) (.map #[] 0)
    have HM0 : Hid (MapH wr.heap.size 0 (fun g => (idxG (gs.take 0) g).isSome) (wr.alloc (.map #[] 0))) := (MapH.made wr).congr (fun s => rfl)
    have HRM := hidd (HR.out.trans (bm.mono HR.out.size))
    have hgm : V.heap.size ≤ wr.heap.size := HR.out.size
    clear bm HR
    go_upto_region 13 with fail
    clear hmm
    generalize wr.alloc (.map #[] 0) = V4 at HM0 HRM ⊢
    generalize wr.heap.size = mb at HM0 hgm ⊢
    have x0 : V4.cell? ⟨im, 0, none⟩ = some (.slice ba bn bc) := (HRM.out.cell (p := ⟨im, 0, none⟩) him).trans ((cellO n1.out).trans rfl)
    go_wp2_with fail
    clear x0
    go_loopw [40] (fun i wr => ∃ q : Nat, q ≤ bn ∧ i = .int .i64 q ∧ Hid (MapH mb q (fun g => (idxG (gs.take q) g).isSome) wr ∧ Below V.heap.size V wr)) (fun i _ => bn - (intOf i).toNat)
    case atStart => exact ⟨0, Nat.zero_le _, rfl, HM0.out, HRM.out⟩
    case round =>
    obtain ⟨q, hq, rfl, HQ⟩ := hrel
    by_cases hql : q < bn
    · obtain ⟨g, hg⟩ : ∃ g, gs[q]? = some g := ⟨_, List.getElem?_eq_getElem (by rw [← I1.out.ebn]; exact hql)⟩
      obtain ⟨bg, rfl, hbg, t0, t1, t2⟩ := I1.out.gl q g hg
      have t0' := (HQ.out.2.cell (p := ⟨bg, q * 3, none⟩) hbg).trans t0
      have t1' := (HQ.out.2.cell (p := ⟨bg, q * 3 + 1, none⟩) hbg).trans t1
      have t2' := (HQ.out.2.cell (p := ⟨bg, q * 3 + 2, none⟩) hbg).trans t2
      have hsm := FS.out g (List.mem_of_getElem? hg)
      have hni := nodup_take ND.out hg
      have htk : gs.take (q + 1) = gs.take q ++ [g] := by rw [List.take_add_one, hg]; rfl
      have ba2 := (Below.refl wr.heap.size wr).alloc (Nat.le_refl _) (.cells #[.string ⟨#[]⟩, .string g.1, .string g.2] 40)
      have mp := HQ.out.1.kept (ba2.block _ HQ.out.1.lt)
      have lk := mp.look g hsm
      rw [show (idxG (gs.take q) g).isSome = false from idxG_not hni] at lk
      obtain ⟨W4, r4, m4, g4⟩ := mp.put (by unfold maxLen; omega) g hsm
      have m5 : MapH mb (q + 1) (fun t => (idxG (gs.take (q + 1)) t).isSome) W4 := m4.congr (fun t => by
        rw [htk, idxG_app]
        cases idxG (gs.take q) t with
        | some i => by_cases e : t = g <;> simp [e]
        | none => by_cases e : t = g <;> simp [e])
      have hlt := HQ.out.1.lt
      have b5 : Below V.heap.size V W4 := (HQ.out.2.trans (ba2.mono HQ.out.2.size)).trans ((Below.refl V.heap.size _).grown g4 (Nat.le_trans HQ.out.2.size ba2.size) (fun k hk => by simp at hk; omega))
      have HM5 := hidd (And.intro m5 b5)
      have nb := World.alloc_heap_new wr (.cells #[.string ⟨#[]⟩, .string g.1, .string g.2] 40)
      have z0 : (wr.alloc (.cells #[.string ⟨#[]⟩, .string g.1, .string g.2] 40)).cell? ⟨wr.heap.size, 0, none⟩ = some (.string ⟨#[]⟩) := (cellO nb).trans rfl
      have z1 : (wr.alloc (.cells #[.string ⟨#[]⟩, .string g.1, .string g.2] 40)).cell? ⟨wr.heap.size, 1, none⟩ = some (.string g.1) := (cellO nb).trans rfl
      have z2 : (wr.alloc (.cells #[.string ⟨#[]⟩, .string g.1, .string g.2] 40)).cell? ⟨wr.heap.size, 2, none⟩ = some (.string g.2) := (cellO nb).trans rfl
      have hcc : bn ≤ bc := I1.out.ebc
      clear t0 t1 t2 hsm hni htk ba2 mp m4 m5 b5 g4 nb hg HQ hlt
      go_upto_region 16 with fail
      clear t0' t1' t2'
      generalize wr.alloc (.cells #[.string ⟨#[]⟩, .string g.1, .string g.2] 40) = V5 at lk r4 z0 z1 z2 ⊢
      generalize wr.heap.size = vb at z0 z1 z2 ⊢
      go_wp2_with fail
      go_roundw
      case rel => exact ⟨q + 1, by omega, by go_num, HM5.out.1, HM5.out.2⟩
      case measure => simp [intOf]; omega
    obtain rfl : q = bn := by omega
    have I5 := hidd (I1.out.below HQ.out.2)
    have WI := hidd (WrongImage_any PP (stF 0 us) ba pa sa q bc pn pc k sc wr I5.out.epn (by rw [stF_len]; exact HN.out) I5.out.pl I5.out.epc (by
      rcases NS.out with h | ⟨b, o, h1, h2, h3⟩
      · exact Or.inl h
      · exact Or.inr ⟨b, o, h1, Nat.lt_of_lt_of_le h2 HQ.out.2.size, fun i v hv => (HQ.out.2.cell (p := ⟨b, o + i, none⟩) h2).trans (h3 i v hv)⟩) hsc)
    rw [show wrongIm q PP (stF 0 us) = 0 by rw [I5.out.ebn]; exact FN.out.1] at WI
    have x0 : wr.cell? ⟨im, 0, none⟩ = some (.slice ba q bc) := (HQ.out.2.cell (p := ⟨im, 0, none⟩) him).trans ((cellO n1.out).trans rfl)
    have x1 : wr.cell? ⟨im, 1, none⟩ = some (.slice pa pn pc) := (HQ.out.2.cell (p := ⟨im, 1, none⟩) him).trans ((cellO n1.out).trans rfl)
    have x2 : wr.cell? ⟨im, 2, none⟩ = some (.slice sa k sc) := (HQ.out.2.cell (p := ⟨im, 2, none⟩) him).trans ((cellO n1.out).trans rfl)
    have HW9 := hidd (HB3.out.trans (HQ.out.2.mono HB3.out.size))
    have himw : im < wr.heap.size := Nat.lt_of_lt_of_le him HQ.out.2.size
    clear HQ
    go_wp2_with fail
    refine WI.out.mono ?_
    rintro e W9 ⟨rfl, hb9⟩
    have x1' := (hb9.cell (p := ⟨im, 1, none⟩) himw).trans x1
    have x2' := (hb9.cell (p := ⟨im, 2, none⟩) himw).trans x2
    have HW10 := hidd (HW9.out.trans (hb9.mono HW9.out.size))
    clear hb9 x0 x1 x2
    go_wp2_with fail
    go_ret
    exact ⟨rfl, HW10.out⟩
  · obtain ⟨rfl, rfl, rfl⟩ := hbad h0
    obtain ⟨lf, hlf⟩ : ∃ l, l = linkF us := ⟨_, rfl⟩
    rw [← hlf] at h0 ⊢
    unfold fv
    have hba := ((Below.refl W2.heap.size W2).alloc (Nat.le_refl _) (.cells #[.slice none 0 0, .slice none 0 0, .slice none 0 0] 27)).alloc (by simp) (.cells #[.int .i64 lf.1, .int .i64 lf.2] 30)
    have n1 : Hid (((W2.alloc (.cells #[.slice none 0 0, .slice none 0 0, .slice none 0 0] 27)).alloc (.cells #[.int .i64 lf.1, .int .i64 lf.2] 30)).heap[W2.heap.size]? = some (.cells #[.slice none 0 0, .slice none 0 0, .slice none 0 0] 27 (0, 0))) := (Below.heap_alloc _ _ _ (by simp)).trans (World.alloc_heap_new W2 _)
    have n2 : Hid (((W2.alloc (.cells #[.slice none 0 0, .slice none 0 0, .slice none 0 0] 27)).alloc (.cells #[.int .i64 lf.1, .int .i64 lf.2] 30)).heap[W2.heap.size + 1]? = some (.cells #[.int .i64 lf.1, .int .i64 lf.2] 30 (0, 0))) := by
      have := World.alloc_heap_new (W2.alloc (.cells #[.slice none 0 0, .slice none 0 0, .slice none 0 0] 27)) (.cells #[.int .i64 lf.1, .int .i64 lf.2] 30)
      show ((W2.alloc (.cells #[.slice none 0 0, .slice none 0 0, .slice none 0 0] 27)).alloc (.cells #[.int .i64 lf.1, .int .i64 lf.2] 30)).heap[W2.heap.size + 1]? = some (.cells #[.int .i64 lf.1, .int .i64 lf.2] 30 (0, 0))
      simpa using this
    have hb2 := HB1.out.trans (s3.mono HB1.out.size)
    have HB3 := hidd (hb2.trans (hba.mono hb2.size))
    have e1 : (lf.1 != 0) = true := by simpa using h0
    clear hlf hbad hok hba hb2 s3 HB1 LA h0
    go_upto_region 4 with fail
    generalize ((W2.alloc (.cells #[.slice none 0 0, .slice none 0 0, .slice none 0 0] 27)).alloc (.cells #[.int .i64 lf.1, .int .i64 lf.2] 30)) = V at n1 n2 HB3 ⊢
    generalize W2.heap.size = im at n1 n2 ⊢
    have y0 : V.cell? ⟨im + 1, 0, none⟩ = some (.int .i64 lf.1) := (cellO n2.out).trans rfl
    have x0 : V.cell? ⟨im, 0, none⟩ = some (.slice none 0 0) := (cellO n1.out).trans rfl
    have x1 : V.cell? ⟨im, 1, none⟩ = some (.slice none 0 0) := (cellO n1.out).trans rfl
    have x2 : V.cell? ⟨im, 2, none⟩ = some (.slice none 0 0) := (cellO n1.out).trans rfl
    go_wp2_with fail
    refine (SameImage_none _).mono ?_
    rintro e W9 ⟨rfl, hb9⟩
    have HW10 := hidd (HB3.out.trans (hb9.mono HB3.out.size))
    clear hb9
    go_wp2_with fail
    go_ret
    exact ⟨rfl, HW10.out⟩
end Go.Proofs.YtdnbingddbakaaaDoor
