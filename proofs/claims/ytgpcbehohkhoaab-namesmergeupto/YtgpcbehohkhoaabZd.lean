/- The law NamesMerge, walked. -/
import Derived.Test.YtgpcbehohkhoaabZc
namespace Go.Proofs.Ytgpcbehohkhoaab
set_option linter.unusedVariables false
set_option linter.unusedSimpArgs false
open Go.RowKit

theorem mergeL_turn_inl {a b : List Bd} {x : Int × Int} (h : mergeL (a ++ b) = .inl x) : ∃ y, mergeL (b ++ a) = .inl y := by
  cases e : mergeL (b ++ a) with
  | inl y => exact ⟨y, rfl⟩
  | inr o =>
    have := (merge_turn e).1
    rw [h] at this
    cases this

abbrev Sml (l : List Bd) : Prop := ∀ p ∈ l, p.1.size ≤ 4000000 ∧ p.2.1.size ≤ 4000000 ∧ p.2.2.size ≤ 4000000
theorem Sml.join {a b : List Bd} (ha : Sml a) (hb : Sml b) : Sml (a ++ b) := by
  intro p hp
  rcases List.mem_append.1 hp with h | h
  · exact ha p h
  · exact hb p h

set_option maxRecDepth 100000 in
set_option maxHeartbeats 6400000 in
theorem NamesMerge_walk (B : Nat) (la lb : List Bd) (aa ab : Option Addr) (ca cb : Nat) (w : World) (ha : Bns B w aa la) (hb : Bns B w ab lb) (hB : B ≤ w.heap.size) (hla : la.length ≤ 1048576) (hlb : lb.length ≤ 1048576) (hsa : Sml la) (hsb : Sml lb) :
    Calls Try.prog 7 #[.slice aa la.length ca, .slice ab lb.length cb] w fun e w' => e = .returned (.bool true) ∧ Below w.heap.size w w' := by
  have HS : Hid ((Bns B w aa la ∧ Bns B w ab lb) ∧ B ≤ w.heap.size ∧ Sml la ∧ Sml lb) := ⟨⟨ha, hb⟩, hB, hsa, hsb⟩
  clear ha hb hB hsa hsb
  obtain ⟨l, HLl⟩ : ∃ l, Hid (l = la ++ lb ∧ l.length = la.length + lb.length ∧ l.length ≤ 2097152) := ⟨_, rfl, List.length_append, by rw [List.length_append]; omega⟩
  obtain ⟨r, HLr⟩ : ∃ r, Hid (r = lb ++ la ∧ r.length = lb.length + la.length ∧ r.length ≤ 2097152) := ⟨_, rfl, List.length_append, by rw [List.length_append]; omega⟩
  cases e1 : mergeL (la ++ lb) with
  | inl x =>
    obtain ⟨y, e2⟩ := mergeL_turn_inl e1
    have hx0 := mergeL_ne e1
    have hy0 := mergeL_ne e2
    obtain ⟨x1, x2⟩ := x
    obtain ⟨y1, y2⟩ := y
    simp only at hx0 hy0
    have E1 : Hid (mergeL l = .inl (x1, x2)) := by show mergeL l = _; rw [HLl.out.1]; exact e1
    have E2 : Hid (mergeL r = .inl (y1, y2)) := by show mergeL r = _; rw [HLr.out.1]; exact e2
    clear e1 e2
    go_enter Try.func7, Try.ntmps7
    go_wp2_with fail
    refine (alive_any _).mono ?_
    rintro e w1 ⟨rfl, hb1⟩
    have H1 : Hid (Below w.heap.size w w1) := hb1
    clear hb1
    have hs1 : Hid (w1.heap.size = w1.heap.size) := by show w1.heap.size = w1.heap.size; simp
    have hb1 : Below (w1.heap.size) w1 (w1.alloc (.cells #[] 60)) := (Below.refl _ _).alloc (by rw [hs1.out]; exact Nat.le_refl _) _
    have hr1 : RowB (w1.heap.size) (.slice (some ⟨w1.heap.size, 0, none⟩) 0 0) [] (w1.alloc (.cells #[] 60)) := by
      have := RowB.lit (B := w1.heap.size) (w := w1) (by rw [hs1.out]; exact Nat.le_refl _)
      rw [hs1.out] at this
      exact this
    have P1 : Hid (Bns (w1.heap.size) w1 aa la ∧ Bns (w1.heap.size) w1 ab lb) := ⟨HS.out.1.1.old (fun k hk => H1.out.block k (Nat.lt_of_lt_of_le hk HS.out.2.1)) (Nat.le_trans HS.out.2.1 H1.out.size), HS.out.1.2.old (fun k hk => H1.out.block k (Nat.lt_of_lt_of_le hk HS.out.2.1)) (Nat.le_trans HS.out.2.1 H1.out.size)⟩
    have I1 : Hid (Below (w1.heap.size) w1 (w1.alloc (.cells #[] 60)) ∧ RowB (w1.heap.size) (.slice (some ⟨w1.heap.size, 0, none⟩) 0 0) [] (w1.alloc (.cells #[] 60)) ∧ Src (w1.alloc (.cells #[] 60)) aa la.length (flatB la) ∧ w1.heap.size ≤ (w1.alloc (.cells #[] 60)).heap.size) := ⟨hb1, hr1, (P1.out.1.old (fun k hk => hb1.block k hk) (Nat.le_refl _)).src, by simp⟩
    clear hb1 hr1
    go_wp2_with (at_builtin; refine wpList_joinB rfl _ _ rfl (w1.heap.size) _ [] rfl I1.out.2.1 aa la.length ca rfl la rfl I1.out.2.2.1 I1.out.2.2.2 la.length (by simp) (by omega) ?_)
    intro at1a cap1a w1a hr1 hb1
    have J1 : Hid (Below (w1.heap.size) w1 w1a ∧ RowB (w1.heap.size) (.slice at1a la.length cap1a) la w1a ∧ Src w1a ab lb.length (flatB lb) ∧ w1.heap.size ≤ w1a.heap.size) := by
      have hbb := I1.out.1.trans hb1
      refine ⟨hbb, by simpa using hr1, (P1.out.2.old (fun k hk => hbb.block k hk) (Nat.le_refl _)).src, ?_⟩
      exact hbb.size
    clear hr1 hb1 I1
    go_wp2_with (at_builtin; refine wpList_joinB rfl _ _ rfl (w1.heap.size) _ la rfl J1.out.2.1 ab lb.length cb rfl lb rfl J1.out.2.2.1 J1.out.2.2.2 l.length HLl.out.2.1 (by have := HLl.out.2.2; omega) ?_)
    intro at1b cap1b w1b hr1 hb1
    have hbn1 : Bns w1b.heap.size w1b at1b l := by
      rw [← HLl.out.1] at hr1
      obtain ⟨x, c, hv, hbn⟩ := hr1.lie (by have := HLl.out.2.2; omega)
      have : at1b = x := by simp at hv; exact hv.1
      subst this
      exact hbn
    have M1 : Hid (Below (w1.heap.size) w1 w1b ∧ Calls Try.prog 18 #[.slice at1b l.length cap1b] w1b (OutM (.inl (x1, x2)) w1b)) := by
      refine ⟨J1.out.1.trans hb1, ?_⟩
      have := Merge_any w1b.heap.size l at1b cap1b w1b hbn1 (Nat.le_refl _) (by have := HLl.out.2.2; omega) (by rw [HLl.out.1]; exact HS.out.2.2.1.join HS.out.2.2.2)
      rw [E1.out] at this
      exact this
    clear hr1 hb1 J1 hbn1
    go_wp2_with fail
    refine M1.out.2.mono ?_
    rintro e w2 ⟨hb2, rfl⟩
    have H2 : Hid (Below w.heap.size w w2 ∧ True) := ⟨(H1.out.trans (M1.out.1.mono H1.out.size)).trans (hb2.mono (Nat.le_trans H1.out.size M1.out.1.size)), trivial⟩
    clear hb2 M1 hs1 P1
    have hs2 : Hid ((w2.alloc (.cells #[.int .i64 x1, .int .i64 x2] 45)).heap.size = w2.heap.size + 1) := by show (w2.alloc (.cells #[.int .i64 x1, .int .i64 x2] 45)).heap.size = w2.heap.size + 1; simp
    have hb2 : Below (w2.heap.size + 1) (w2.alloc (.cells #[.int .i64 x1, .int .i64 x2] 45)) ((w2.alloc (.cells #[.int .i64 x1, .int .i64 x2] 45)).alloc (.cells #[] 60)) := (Below.refl _ _).alloc (by rw [hs2.out]; exact Nat.le_refl _) _
    have hr2 : RowB (w2.heap.size + 1) (.slice (some ⟨w2.heap.size + 1, 0, none⟩) 0 0) [] ((w2.alloc (.cells #[.int .i64 x1, .int .i64 x2] 45)).alloc (.cells #[] 60)) := by
      have := RowB.lit (B := w2.heap.size + 1) (w := (w2.alloc (.cells #[.int .i64 x1, .int .i64 x2] 45))) (by rw [hs2.out]; exact Nat.le_refl _)
      rw [hs2.out] at this
      exact this
    have P2 : Hid (Bns (w2.heap.size + 1) (w2.alloc (.cells #[.int .i64 x1, .int .i64 x2] 45)) ab lb ∧ Bns (w2.heap.size + 1) (w2.alloc (.cells #[.int .i64 x1, .int .i64 x2] 45)) aa la) := ⟨HS.out.1.2.old (fun k hk => (Below.heap_alloc _ _ _ (Nat.lt_of_lt_of_le hk (Nat.le_trans HS.out.2.1 H2.out.1.size))).trans (H2.out.1.block k (Nat.lt_of_lt_of_le hk HS.out.2.1))) (Nat.le_trans HS.out.2.1 (Nat.le_trans H2.out.1.size (Nat.le_succ _))), HS.out.1.1.old (fun k hk => (Below.heap_alloc _ _ _ (Nat.lt_of_lt_of_le hk (Nat.le_trans HS.out.2.1 H2.out.1.size))).trans (H2.out.1.block k (Nat.lt_of_lt_of_le hk HS.out.2.1))) (Nat.le_trans HS.out.2.1 (Nat.le_trans H2.out.1.size (Nat.le_succ _)))⟩
    have I2 : Hid (Below (w2.heap.size + 1) (w2.alloc (.cells #[.int .i64 x1, .int .i64 x2] 45)) ((w2.alloc (.cells #[.int .i64 x1, .int .i64 x2] 45)).alloc (.cells #[] 60)) ∧ RowB (w2.heap.size + 1) (.slice (some ⟨w2.heap.size + 1, 0, none⟩) 0 0) [] ((w2.alloc (.cells #[.int .i64 x1, .int .i64 x2] 45)).alloc (.cells #[] 60)) ∧ Src ((w2.alloc (.cells #[.int .i64 x1, .int .i64 x2] 45)).alloc (.cells #[] 60)) ab lb.length (flatB lb) ∧ w2.heap.size + 1 ≤ ((w2.alloc (.cells #[.int .i64 x1, .int .i64 x2] 45)).alloc (.cells #[] 60)).heap.size) := ⟨hb2, hr2, (P2.out.1.old (fun k hk => hb2.block k hk) (Nat.le_refl _)).src, by simp⟩
    clear hb2 hr2
    go_wp2_with (at_builtin; refine wpList_joinB rfl _ _ rfl (w2.heap.size + 1) _ [] rfl I2.out.2.1 ab lb.length cb rfl lb rfl I2.out.2.2.1 I2.out.2.2.2 lb.length (by simp) (by omega) ?_)
    intro at2a cap2a w2a hr2 hb2
    have J2 : Hid (Below (w2.heap.size + 1) (w2.alloc (.cells #[.int .i64 x1, .int .i64 x2] 45)) w2a ∧ RowB (w2.heap.size + 1) (.slice at2a lb.length cap2a) lb w2a ∧ Src w2a aa la.length (flatB la) ∧ w2.heap.size + 1 ≤ w2a.heap.size) := by
      have hbb := I2.out.1.trans hb2
      refine ⟨hbb, by simpa using hr2, (P2.out.2.old (fun k hk => hbb.block k hk) (Nat.le_refl _)).src, ?_⟩
      have := hbb.size
      rw [hs2.out] at this
      exact this
    clear hr2 hb2 I2
    go_wp2_with (at_builtin; refine wpList_joinB rfl _ _ rfl (w2.heap.size + 1) _ lb rfl J2.out.2.1 aa la.length ca rfl la rfl J2.out.2.2.1 J2.out.2.2.2 r.length HLr.out.2.1 (by have := HLr.out.2.2; omega) ?_)
    intro at2b cap2b w2b hr2 hb2
    have hbn2 : Bns w2b.heap.size w2b at2b r := by
      rw [← HLr.out.1] at hr2
      obtain ⟨x, c, hv, hbn⟩ := hr2.lie (by have := HLr.out.2.2; omega)
      have : at2b = x := by simp at hv; exact hv.1
      subst this
      exact hbn
    have M2 : Hid (Below (w2.heap.size + 1) (w2.alloc (.cells #[.int .i64 x1, .int .i64 x2] 45)) w2b ∧ Calls Try.prog 18 #[.slice at2b r.length cap2b] w2b (OutM (.inl (y1, y2)) w2b)) := by
      refine ⟨J2.out.1.trans hb2, ?_⟩
      have := Merge_any w2b.heap.size r at2b cap2b w2b hbn2 (Nat.le_refl _) (by have := HLr.out.2.2; omega) (by rw [HLr.out.1]; exact HS.out.2.2.2.join HS.out.2.2.1)
      rw [E2.out] at this
      exact this
    clear hr2 hb2 J2 hbn2
    go_wp2_with fail
    refine M2.out.2.mono ?_
    rintro e w3 ⟨hb3, rfl⟩
    have hm2 := M2.out.1.trans (hb3.mono (by have := M2.out.1.size; rw [hs2.out] at this; exact this))
    have f0 : w3.cell? ⟨w2.heap.size, 0, none⟩ = some (.int .i64 x1) := (hm2.cell (p := ⟨w2.heap.size, 0, none⟩) (Nat.lt_succ_self _)).trans (by simp [go_sem])
    have hl3 : w2.heap.size < w3.heap.size := by have := hm2.size; rw [hs2.out] at this; omega
    have H3 : Hid (Below w.heap.size w w3) := (H2.out.1.alloc H2.out.1.size _).trans (hm2.mono (Nat.le_succ_of_le H2.out.1.size))
    clear hb3 hm2 M2 hs2 P2
    go_wp2_with fail
    go_ret
    refine ⟨?_, H3.out.alloc H3.out.size _⟩
    show Ending.returned (.bool (x1 != 0 && y1 != 0)) = _
    simp [hx0, hy0]
  | inr xs =>
    obtain ⟨e2, e3⟩ := merge_turn e1
    obtain ⟨_, hxl, hxm⟩ := mergeL_ok e1
    have HXS : Hid (Sml xs) := fun p hp => HS.out.2.2.1.join HS.out.2.2.2 p ((hxm p).1 hp)
    have E1 : Hid (mergeL l = .inr xs) := by show mergeL l = _; rw [HLl.out.1]; exact e1
    have E2 : Hid (mergeL r = .inr xs) := by show mergeL r = _; rw [HLr.out.1]; exact e2
    obtain ⟨t, HLt⟩ : ∃ t, Hid (t = xs ++ xs ∧ t.length = xs.length + xs.length ∧ t.length ≤ 2097152) := ⟨_, rfl, List.length_append, by rw [List.length_append]; omega⟩
    have E3 : Hid (mergeL t = .inr xs) := by show mergeL t = _; rw [HLt.out.1]; exact e3
    clear e1 e2 e3 hxm
    go_enter Try.func7, Try.ntmps7
    go_wp2_with fail
    refine (alive_any _).mono ?_
    rintro e w1 ⟨rfl, hb1⟩
    have H1 : Hid (Below w.heap.size w w1) := hb1
    clear hb1
    have hs1 : Hid (w1.heap.size = w1.heap.size) := by show w1.heap.size = w1.heap.size; simp
    have hb1 : Below (w1.heap.size) w1 (w1.alloc (.cells #[] 60)) := (Below.refl _ _).alloc (by rw [hs1.out]; exact Nat.le_refl _) _
    have hr1 : RowB (w1.heap.size) (.slice (some ⟨w1.heap.size, 0, none⟩) 0 0) [] (w1.alloc (.cells #[] 60)) := by
      have := RowB.lit (B := w1.heap.size) (w := w1) (by rw [hs1.out]; exact Nat.le_refl _)
      rw [hs1.out] at this
      exact this
    have P1 : Hid (Bns (w1.heap.size) w1 aa la ∧ Bns (w1.heap.size) w1 ab lb) := ⟨HS.out.1.1.old (fun k hk => H1.out.block k (Nat.lt_of_lt_of_le hk HS.out.2.1)) (Nat.le_trans HS.out.2.1 H1.out.size), HS.out.1.2.old (fun k hk => H1.out.block k (Nat.lt_of_lt_of_le hk HS.out.2.1)) (Nat.le_trans HS.out.2.1 H1.out.size)⟩
    have I1 : Hid (Below (w1.heap.size) w1 (w1.alloc (.cells #[] 60)) ∧ RowB (w1.heap.size) (.slice (some ⟨w1.heap.size, 0, none⟩) 0 0) [] (w1.alloc (.cells #[] 60)) ∧ Src (w1.alloc (.cells #[] 60)) aa la.length (flatB la) ∧ w1.heap.size ≤ (w1.alloc (.cells #[] 60)).heap.size) := ⟨hb1, hr1, (P1.out.1.old (fun k hk => hb1.block k hk) (Nat.le_refl _)).src, by simp⟩
    clear hb1 hr1
    go_wp2_with (at_builtin; refine wpList_joinB rfl _ _ rfl (w1.heap.size) _ [] rfl I1.out.2.1 aa la.length ca rfl la rfl I1.out.2.2.1 I1.out.2.2.2 la.length (by simp) (by omega) ?_)
    intro at1a cap1a w1a hr1 hb1
    have J1 : Hid (Below (w1.heap.size) w1 w1a ∧ RowB (w1.heap.size) (.slice at1a la.length cap1a) la w1a ∧ Src w1a ab lb.length (flatB lb) ∧ w1.heap.size ≤ w1a.heap.size) := by
      have hbb := I1.out.1.trans hb1
      refine ⟨hbb, by simpa using hr1, (P1.out.2.old (fun k hk => hbb.block k hk) (Nat.le_refl _)).src, ?_⟩
      exact hbb.size
    clear hr1 hb1 I1
    go_wp2_with (at_builtin; refine wpList_joinB rfl _ _ rfl (w1.heap.size) _ la rfl J1.out.2.1 ab lb.length cb rfl lb rfl J1.out.2.2.1 J1.out.2.2.2 l.length HLl.out.2.1 (by have := HLl.out.2.2; omega) ?_)
    intro at1b cap1b w1b hr1 hb1
    have hbn1 : Bns w1b.heap.size w1b at1b l := by
      rw [← HLl.out.1] at hr1
      obtain ⟨x, c, hv, hbn⟩ := hr1.lie (by have := HLl.out.2.2; omega)
      have : at1b = x := by simp at hv; exact hv.1
      subst this
      exact hbn
    have M1 : Hid (Below (w1.heap.size) w1 w1b ∧ Calls Try.prog 18 #[.slice at1b l.length cap1b] w1b (OutM (.inr xs) w1b)) := by
      refine ⟨J1.out.1.trans hb1, ?_⟩
      have := Merge_any w1b.heap.size l at1b cap1b w1b hbn1 (Nat.le_refl _) (by have := HLl.out.2.2; omega) (by rw [HLl.out.1]; exact HS.out.2.2.1.join HS.out.2.2.2)
      rw [E1.out] at this
      exact this
    clear hr1 hb1 J1 hbn1
    go_wp2_with fail
    refine M1.out.2.mono ?_
    rintro e w2 ⟨hb2, xa, xc, rfl, hbx⟩
    have H2 : Hid (Below w.heap.size w w2 ∧ Bns w2.heap.size w2 xa xs) := ⟨(H1.out.trans (M1.out.1.mono H1.out.size)).trans (hb2.mono (Nat.le_trans H1.out.size M1.out.1.size)), hbx⟩
    clear hb2 M1 hs1 P1 hbx
    have hs2 : Hid ((w2.alloc (.cells #[.int .i64 0, .int .i64 0] 45)).heap.size = w2.heap.size + 1) := by show (w2.alloc (.cells #[.int .i64 0, .int .i64 0] 45)).heap.size = w2.heap.size + 1; simp
    have hb2 : Below (w2.heap.size + 1) (w2.alloc (.cells #[.int .i64 0, .int .i64 0] 45)) ((w2.alloc (.cells #[.int .i64 0, .int .i64 0] 45)).alloc (.cells #[] 60)) := (Below.refl _ _).alloc (by rw [hs2.out]; exact Nat.le_refl _) _
    have hr2 : RowB (w2.heap.size + 1) (.slice (some ⟨w2.heap.size + 1, 0, none⟩) 0 0) [] ((w2.alloc (.cells #[.int .i64 0, .int .i64 0] 45)).alloc (.cells #[] 60)) := by
      have := RowB.lit (B := w2.heap.size + 1) (w := (w2.alloc (.cells #[.int .i64 0, .int .i64 0] 45))) (by rw [hs2.out]; exact Nat.le_refl _)
      rw [hs2.out] at this
      exact this
    have P2 : Hid (Bns (w2.heap.size + 1) (w2.alloc (.cells #[.int .i64 0, .int .i64 0] 45)) ab lb ∧ Bns (w2.heap.size + 1) (w2.alloc (.cells #[.int .i64 0, .int .i64 0] 45)) aa la) := ⟨HS.out.1.2.old (fun k hk => (Below.heap_alloc _ _ _ (Nat.lt_of_lt_of_le hk (Nat.le_trans HS.out.2.1 H2.out.1.size))).trans (H2.out.1.block k (Nat.lt_of_lt_of_le hk HS.out.2.1))) (Nat.le_trans HS.out.2.1 (Nat.le_trans H2.out.1.size (Nat.le_succ _))), HS.out.1.1.old (fun k hk => (Below.heap_alloc _ _ _ (Nat.lt_of_lt_of_le hk (Nat.le_trans HS.out.2.1 H2.out.1.size))).trans (H2.out.1.block k (Nat.lt_of_lt_of_le hk HS.out.2.1))) (Nat.le_trans HS.out.2.1 (Nat.le_trans H2.out.1.size (Nat.le_succ _)))⟩
    have I2 : Hid (Below (w2.heap.size + 1) (w2.alloc (.cells #[.int .i64 0, .int .i64 0] 45)) ((w2.alloc (.cells #[.int .i64 0, .int .i64 0] 45)).alloc (.cells #[] 60)) ∧ RowB (w2.heap.size + 1) (.slice (some ⟨w2.heap.size + 1, 0, none⟩) 0 0) [] ((w2.alloc (.cells #[.int .i64 0, .int .i64 0] 45)).alloc (.cells #[] 60)) ∧ Src ((w2.alloc (.cells #[.int .i64 0, .int .i64 0] 45)).alloc (.cells #[] 60)) ab lb.length (flatB lb) ∧ w2.heap.size + 1 ≤ ((w2.alloc (.cells #[.int .i64 0, .int .i64 0] 45)).alloc (.cells #[] 60)).heap.size) := ⟨hb2, hr2, (P2.out.1.old (fun k hk => hb2.block k hk) (Nat.le_refl _)).src, by simp⟩
    clear hb2 hr2
    go_wp2_with (at_builtin; refine wpList_joinB rfl _ _ rfl (w2.heap.size + 1) _ [] rfl I2.out.2.1 ab lb.length cb rfl lb rfl I2.out.2.2.1 I2.out.2.2.2 lb.length (by simp) (by omega) ?_)
    intro at2a cap2a w2a hr2 hb2
    have J2 : Hid (Below (w2.heap.size + 1) (w2.alloc (.cells #[.int .i64 0, .int .i64 0] 45)) w2a ∧ RowB (w2.heap.size + 1) (.slice at2a lb.length cap2a) lb w2a ∧ Src w2a aa la.length (flatB la) ∧ w2.heap.size + 1 ≤ w2a.heap.size) := by
      have hbb := I2.out.1.trans hb2
      refine ⟨hbb, by simpa using hr2, (P2.out.2.old (fun k hk => hbb.block k hk) (Nat.le_refl _)).src, ?_⟩
      have := hbb.size
      rw [hs2.out] at this
      exact this
    clear hr2 hb2 I2
    go_wp2_with (at_builtin; refine wpList_joinB rfl _ _ rfl (w2.heap.size + 1) _ lb rfl J2.out.2.1 aa la.length ca rfl la rfl J2.out.2.2.1 J2.out.2.2.2 r.length HLr.out.2.1 (by have := HLr.out.2.2; omega) ?_)
    intro at2b cap2b w2b hr2 hb2
    have hbn2 : Bns w2b.heap.size w2b at2b r := by
      rw [← HLr.out.1] at hr2
      obtain ⟨x, c, hv, hbn⟩ := hr2.lie (by have := HLr.out.2.2; omega)
      have : at2b = x := by simp at hv; exact hv.1
      subst this
      exact hbn
    have M2 : Hid (Below (w2.heap.size + 1) (w2.alloc (.cells #[.int .i64 0, .int .i64 0] 45)) w2b ∧ Calls Try.prog 18 #[.slice at2b r.length cap2b] w2b (OutM (.inr xs) w2b)) := by
      refine ⟨J2.out.1.trans hb2, ?_⟩
      have := Merge_any w2b.heap.size r at2b cap2b w2b hbn2 (Nat.le_refl _) (by have := HLr.out.2.2; omega) (by rw [HLr.out.1]; exact HS.out.2.2.2.join HS.out.2.2.1)
      rw [E2.out] at this
      exact this
    clear hr2 hb2 J2 hbn2
    go_wp2_with fail
    refine M2.out.2.mono ?_
    rintro e w3 ⟨hb3, ya, yc, rfl, hby⟩
    have hm2 := M2.out.1.trans (hb3.mono (by have := M2.out.1.size; rw [hs2.out] at this; exact this))
    have f0 : w3.cell? ⟨w2.heap.size, 0, none⟩ = some (.int .i64 0) := (hm2.cell (p := ⟨w2.heap.size, 0, none⟩) (Nat.lt_succ_self _)).trans (by simp [go_sem])
    have hl3 : w2.heap.size < w3.heap.size := by have := hm2.size; rw [hs2.out] at this; omega
    have hm2' : Below w2.heap.size w2 w3 := ((Below.refl _ _).alloc (Nat.le_refl _) _).trans (hm2.mono (Nat.le_succ _))
    have H3 : Hid (Below w.heap.size w w3 ∧ Bns w3.heap.size w3 xa xs ∧ Bns w3.heap.size w3 ya xs) := ⟨(H2.out.1.alloc H2.out.1.size _).trans (hm2.mono (Nat.le_succ_of_le H2.out.1.size)), H2.out.2.after (Nat.le_refl _) hm2', hby⟩
    have hA3 : Below w3.heap.size w3 (w3.alloc (.cells #[.int .i64 0, .int .i64 0] 45)) := (Below.refl _ _).alloc (Nat.le_refl _) _
    have K3 : Hid (Bns (w3.heap.size + 1) (w3.alloc (.cells #[.int .i64 0, .int .i64 0] 45)) xa xs) := H3.out.2.1.old (fun k hk => hA3.block k hk) (Nat.le_succ _)
    clear hb3 hm2 M2 hs2 P2 hby hm2' hA3
    have hs3 : Hid ((w3.alloc (.cells #[.int .i64 0, .int .i64 0] 45)).heap.size = w3.heap.size + 1) := by show (w3.alloc (.cells #[.int .i64 0, .int .i64 0] 45)).heap.size = w3.heap.size + 1; simp
    have hb3 : Below (w3.heap.size + 1) (w3.alloc (.cells #[.int .i64 0, .int .i64 0] 45)) ((w3.alloc (.cells #[.int .i64 0, .int .i64 0] 45)).alloc (.cells #[] 60)) := (Below.refl _ _).alloc (by rw [hs3.out]; exact Nat.le_refl _) _
    have hr3 : RowB (w3.heap.size + 1) (.slice (some ⟨w3.heap.size + 1, 0, none⟩) 0 0) [] ((w3.alloc (.cells #[.int .i64 0, .int .i64 0] 45)).alloc (.cells #[] 60)) := by
      have := RowB.lit (B := w3.heap.size + 1) (w := (w3.alloc (.cells #[.int .i64 0, .int .i64 0] 45))) (by rw [hs3.out]; exact Nat.le_refl _)
      rw [hs3.out] at this
      exact this
    have P3 : Hid (Bns (w3.heap.size + 1) (w3.alloc (.cells #[.int .i64 0, .int .i64 0] 45)) xa xs ∧ Bns (w3.heap.size + 1) (w3.alloc (.cells #[.int .i64 0, .int .i64 0] 45)) xa xs) := ⟨K3.out, K3.out⟩
    have I3 : Hid (Below (w3.heap.size + 1) (w3.alloc (.cells #[.int .i64 0, .int .i64 0] 45)) ((w3.alloc (.cells #[.int .i64 0, .int .i64 0] 45)).alloc (.cells #[] 60)) ∧ RowB (w3.heap.size + 1) (.slice (some ⟨w3.heap.size + 1, 0, none⟩) 0 0) [] ((w3.alloc (.cells #[.int .i64 0, .int .i64 0] 45)).alloc (.cells #[] 60)) ∧ Src ((w3.alloc (.cells #[.int .i64 0, .int .i64 0] 45)).alloc (.cells #[] 60)) xa xs.length (flatB xs) ∧ w3.heap.size + 1 ≤ ((w3.alloc (.cells #[.int .i64 0, .int .i64 0] 45)).alloc (.cells #[] 60)).heap.size) := ⟨hb3, hr3, (P3.out.1.old (fun k hk => hb3.block k hk) (Nat.le_refl _)).src, by simp⟩
    clear hb3 hr3
    go_wp2_with (at_builtin; refine wpList_joinB rfl _ _ rfl (w3.heap.size + 1) _ [] rfl I3.out.2.1 xa xs.length xc rfl xs rfl I3.out.2.2.1 I3.out.2.2.2 xs.length (by simp) (by omega) ?_)
    intro at3a cap3a w3a hr3 hb3
    have J3 : Hid (Below (w3.heap.size + 1) (w3.alloc (.cells #[.int .i64 0, .int .i64 0] 45)) w3a ∧ RowB (w3.heap.size + 1) (.slice at3a xs.length cap3a) xs w3a ∧ Src w3a xa xs.length (flatB xs) ∧ w3.heap.size + 1 ≤ w3a.heap.size) := by
      have hbb := I3.out.1.trans hb3
      refine ⟨hbb, by simpa using hr3, (P3.out.2.old (fun k hk => hbb.block k hk) (Nat.le_refl _)).src, ?_⟩
      have := hbb.size
      rw [hs3.out] at this
      exact this
    clear hr3 hb3 I3
    go_wp2_with (at_builtin; refine wpList_joinB rfl _ _ rfl (w3.heap.size + 1) _ xs rfl J3.out.2.1 xa xs.length xc rfl xs rfl J3.out.2.2.1 J3.out.2.2.2 t.length HLt.out.2.1 (by have := HLt.out.2.2; omega) ?_)
    intro at3b cap3b w3b hr3 hb3
    have hbn3 : Bns w3b.heap.size w3b at3b t := by
      rw [← HLt.out.1] at hr3
      obtain ⟨x, c, hv, hbn⟩ := hr3.lie (by have := HLt.out.2.2; omega)
      have : at3b = x := by simp at hv; exact hv.1
      subst this
      exact hbn
    have M3 : Hid (Below (w3.heap.size + 1) (w3.alloc (.cells #[.int .i64 0, .int .i64 0] 45)) w3b ∧ Calls Try.prog 18 #[.slice at3b t.length cap3b] w3b (OutM (.inr xs) w3b)) := by
      refine ⟨J3.out.1.trans hb3, ?_⟩
      have := Merge_any w3b.heap.size t at3b cap3b w3b hbn3 (Nat.le_refl _) (by have := HLt.out.2.2; omega) (by rw [HLt.out.1]; exact HXS.out.join HXS.out)
      rw [E3.out] at this
      exact this
    clear hr3 hb3 J3 hbn3
    go_wp2_with fail
    refine M3.out.2.mono ?_
    rintro e w4 ⟨hb4, za, zc, rfl, hbz⟩
    have hm3 := M3.out.1.trans (hb4.mono (by have := M3.out.1.size; rw [hs3.out] at this; exact this))
    have hm3' : Below w3.heap.size w3 w4 := ((Below.refl _ _).alloc (Nat.le_refl _) _).trans (hm3.mono (Nat.le_succ _))
    have hA4 : Below w4.heap.size w4 (w4.alloc (.cells #[.int .i64 0, .int .i64 0] 45)) := (Below.refl _ _).alloc (Nat.le_refl _) _
    have H4 : Hid (Below w.heap.size w (w4.alloc (.cells #[.int .i64 0, .int .i64 0] 45))) := (H3.out.1.trans (hm3'.mono H3.out.1.size)).trans (hA4.mono (Nat.le_trans H3.out.1.size hm3'.size))
    have S1 : Hid (Calls Try.prog 19 #[.slice xa xs.length xc, .slice ya xs.length yc] (w4.alloc (.cells #[.int .i64 0, .int .i64 0] 45)) fun e w' => e = .returned (.bool true) ∧ Below (w4.alloc (.cells #[.int .i64 0, .int .i64 0] 45)).heap.size (w4.alloc (.cells #[.int .i64 0, .int .i64 0] 45)) w') :=
      SameB_yes w4.heap.size xs xa ya xc yc _ ((H3.out.2.1.after (Nat.le_refl _) hm3').stay (fun k hk => hA4.block k hk)) ((H3.out.2.2.after (Nat.le_refl _) hm3').stay (fun k hk => hA4.block k hk))
    have BX : Hid (∀ W, Below (w4.alloc (.cells #[.int .i64 0, .int .i64 0] 45)).heap.size (w4.alloc (.cells #[.int .i64 0, .int .i64 0] 45)) W → Calls Try.prog 19 #[.slice xa xs.length xc, .slice za xs.length zc] W fun e w' => e = .returned (.bool true) ∧ Below W.heap.size W w') := fun W hW => by
      have hw : Below w4.heap.size w4 W := hA4.trans (hW.mono hA4.size)
      exact SameB_yes w4.heap.size xs xa za xc zc W ((H3.out.2.1.after (Nat.le_refl _) hm3').stay (fun k hk => hw.block k hk)) (hbz.stay (fun k hk => hw.block k hk))
    clear hb4 hm3 M3 hs3 P3 hbz hm3' hA4
    go_wp2_with fail
    refine S1.out.mono ?_
    rintro e w5 ⟨rfl, hb5⟩
    have S2 : Hid (Calls Try.prog 19 #[.slice xa xs.length xc, .slice za xs.length zc] w5 fun e w' => e = .returned (.bool true) ∧ Below w5.heap.size w5 w') := BX.out w5 hb5
    have H5 : Hid (Below w.heap.size w w5) := H4.out.trans (hb5.mono H4.out.size)
    have f5 : w5.cell? ⟨w4.heap.size, 0, none⟩ = some (.int .i64 0) := (hb5.cell (p := ⟨w4.heap.size, 0, none⟩) (by simp)).trans (by simp [go_sem])
    clear hb5
    go_wp2_with fail
    refine S2.out.mono ?_
    rintro e w6 ⟨rfl, hb6⟩
    go_wp2_with fail
    go_ret
    exact ⟨rfl, H5.out.trans (hb6.mono H5.out.size)⟩
end Go.Proofs.Ytgpcbehohkhoaab
