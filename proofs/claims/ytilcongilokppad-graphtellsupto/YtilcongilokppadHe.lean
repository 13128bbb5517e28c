/- container/heap's Pop. -/
import Derived.Test.YtilcongilokppadHd
namespace Go.Proofs.Ytilcongilokppad
set_option linter.unusedVariables false
set_option linter.unusedSimpArgs false
open Go.RowKit

theorem snoc_of {l : List Nat} {n : Nat} (hl : l.length = n + 1) : l = l.take n ++ [l.getD n 0] := by
  have e : l[n]? = some (l.getD n 0) := by
    rw [List.getElem?_eq_getElem (by omega), getD_lt (by omega)]
  have h1 : l.take (n + 1) = l.take n ++ [l.getD n 0] := by
    rw [List.take_add_one, e]
    rfl
  rw [← h1, List.take_of_length_le (by omega)]
theorem Heap.take {l : List Nat} {n : Nat} (h : Heap l n) : Heap (l.take n) n := by
  have e : ∀ k, k < n → (l.take n).getD k 0 = l.getD k 0 := fun k hk => by
    simp [List.getD, List.getElem?_take, hk]
  intro k h0 hk
  rw [e k hk, e _ (by omega)]
  exact h k h0 hk

set_option maxRecDepth 100000 in
set_option maxHeartbeats 3200000 in
theorem heapPop_any (r n : Nat) (h : List Nat) (v : Value) (w : World) (H : Hp r h v w) (hh : Heap h h.length) (hn : h.length = n + 1) (hl : h.length ≤ 1048576) :
    Calls Try.prog 26 #[.iface 53 (.pointer (some ⟨r, 0, none⟩))] w fun e w' => ∃ (x : Nat) (h' : List Nat) (v' : Value), e = .returned (.iface 3 (.int .i64 x)) ∧ h.Perm (x :: h') ∧ (∀ y ∈ h, x ≤ y) ∧ Heap h' h'.length ∧ Hp r h' v' w' ∧ Tch r v w w' ∧ Lies w v v' := by
  obtain ⟨g, cap, rfl, hg1, hg2, hcap⟩ := H.row.is (by omega)
  have HN : Hid (h.length = n + 1) := hn
  rw [hn] at H
  have hlen : n + 1 ≤ 1048576 := by omega
  have HH : Hid (Hp r h (.slice (some ⟨g, 0, none⟩) (n + 1) cap) w ∧ Heap h h.length) := ⟨H, hh⟩
  have hml := method_len r _ w H.cell
  have hms := method_swap r _ w H.cell
  obtain ⟨x0, HX0⟩ : ∃ x, Hid (h.getD 0 0 = x) := ⟨_, rfl⟩
  obtain ⟨xn, HXN⟩ : ∃ x, Hid (h.getD n 0 = x) := ⟨_, rfl⟩
  have SW : Hid (Calls Try.prog 79 #[.slice (some ⟨g, 0, none⟩) (n + 1) cap, .int .i64 0, .int .i64 (n : Int)] w fun e w' => e = .returned (.tuple #[]) ∧ ∃ w3, Below w.heap.size w w3 ∧ w3.heap = w.heap ∧ w' = (w3.setCell ⟨g, 0, none⟩ (encI xn)).setCell ⟨g, n, none⟩ (encI x0)) :=
    Swap_any g (n + 1) cap 0 n x0 xn w (by omega) (by omega) (by omega) (HX0.out ▸ H.row.cell (by omega)) (HXN.out ▸ H.row.cell (by omega)) (H.row.frozen _) (H.row.frozen _)
  rw [hn]
  clear H hh hn hl hg2 hcap
  go_enter Try.func26, Try.ntmps26
  go_wp2_with fail
  refine (Len_any _ _ _ _).mono ?_
  rintro e w2 ⟨rfl, rfl⟩
  go_wp2_with fail
  refine SW.out.mono ?_
  rintro e w4 ⟨rfl, w3, hb3, he3, hw4⟩
  have H1 : Hid (Hp r (sw h 0 n) (.slice (some ⟨g, 0, none⟩) (n + 1) cap) w4 ∧ Tch r (.slice (some ⟨g, 0, none⟩) (n + 1) cap) w2 w4) := by
    have := HN.out
    rw [← HX0.out, ← HXN.out] at hw4
    rw [hw4]
    exact ⟨HH.out.1.swapped he3 (by omega) (by omega), Tch.swapped hb3 _ _ _ _⟩
  have DN : Hid (Calls Try.prog 35 #[.iface 53 (.pointer (some ⟨r, 0, none⟩)), .int .i64 0, .int .i64 n] w4 fun e w' => IsRet e ∧ ∃ h', h'.Perm (sw h 0 n) ∧ Heap h' n ∧ (∀ p, n ≤ p → h'.getD p 0 = (sw h 0 n).getD p 0) ∧ Hp r h' (.slice (some ⟨g, 0, none⟩) (n + 1) cap) w' ∧ Tch r (.slice (some ⟨g, 0, none⟩) (n + 1) cap) w4 w') := by
    have := HN.out
    exact down_any r 0 n (sw h 0 n) _ w4 H1.out.1 (Heap.pop (this ▸ HH.out.2) this) (by rw [sw_length]; omega) (by omega) (by rw [sw_length]; omega)
  clear hb3 he3 hw4 hml hms SW
  go_wp2_with fail
  refine DN.out.mono ?_
  rintro e w5 ⟨⟨d, rfl⟩, h', hp', hh', ht', hH', hT'⟩
  have hl' : h'.length = n + 1 := by rw [hp'.length_eq, sw_length]; exact HN.out
  have hlast : h'.getD n 0 = x0 := by
    have := HN.out
    rw [ht' n (Nat.le_refl _), sw_at (by omega) (by omega), if_pos rfl]
    exact HX0.out
  have hsn := snoc_of hl'
  rw [hlast] at hsn
  have hmp := method_pop r w5
  have PO : Hid (Calls Try.prog 76 #[.pointer (some ⟨r, 0, none⟩)] w5 fun e w' => e = .returned (.iface 3 (.int .i64 x0)) ∧ ∃ v', Hp r (h'.take n) v' w' ∧ Tch r (.slice (some ⟨g, 0, none⟩) (n + 1) cap) w5 w' ∧ Lies w5 (.slice (some ⟨g, 0, none⟩) (n + 1) cap) v') :=
    Pop_any r x0 (h'.take n) _ w5 (hsn ▸ hH') (by rw [List.length_take]; omega)
  have H2 : Hid (Tch r (.slice (some ⟨g, 0, none⟩) (n + 1) cap) w2 w5 ∧ h.Perm (x0 :: h'.take n) ∧ Heap (h'.take n) (h'.take n).length ∧ ∀ y ∈ h, x0 ≤ y) := by
    have hn := HN.out
    refine ⟨H1.out.2.trans (Lies.refl _ _) hT', ?_, ?_, fun y hy => ?_⟩
    · have h1 : h.Perm h' := ((sw_perm (by omega) (by omega)).symm.trans hp'.symm)
      rw [hsn] at h1
      exact h1.trans (List.perm_append_singleton _ _)
    · rw [show (h'.take n).length = n by rw [List.length_take]; omega]
      exact hh'.take
    · obtain ⟨i, hi⟩ := List.mem_iff_getElem?.1 hy
      have hil := (List.getElem?_eq_some_iff.1 hi).1
      have := HH.out.2.root i hil
      rw [HX0.out] at this
      rw [List.getD_eq_getElem?_getD, hi] at this
      exact this
  clear hp' hh' ht' hH' hT' hl' hlast hsn DN
  go_wp2_with fail
  refine PO.out.mono ?_
  rintro e w6 ⟨rfl, v', h6, t6, l6⟩
  have H3 : Hid (Hp r (h'.take n) v' w6 ∧ Tch r (.slice (some ⟨g, 0, none⟩) (n + 1) cap) w5 w6 ∧ Lies w5 (.slice (some ⟨g, 0, none⟩) (n + 1) cap) v') := ⟨h6, t6, l6⟩
  clear h6 t6 l6
  go_wp2_with fail
  go_ret
  exact ⟨x0, _, _, rfl, H2.out.2.1, H2.out.2.2.2, H2.out.2.2.1, H3.out.1, H2.out.1.trans (Lies.refl _ _) H3.out.2.1, (Lies.refl _ _).trans H2.out.1.size H3.out.2.2⟩
end Go.Proofs.Ytilcongilokppad
