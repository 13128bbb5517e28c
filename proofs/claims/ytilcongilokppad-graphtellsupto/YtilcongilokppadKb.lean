/- Package graph: gatherer; slices.Contains and Min at numbers. -/
import Derived.Test.YtilcongilokppadKa
namespace Go.Proofs.Ytilcongilokppad
set_option linter.unusedVariables false
set_option linter.unusedSimpArgs false
open Go.RowKit

set_option maxRecDepth 100000 in
set_option maxHeartbeats 1600000 in
theorem gatherer_any (n : Nat) (ua : Option Addr) (uc : Nat) (w : World) (hn : n ≤ 1048576) :
    Calls Try.prog 27 #[.slice ua n uc] w fun e w' => e = .returned (.func (.func 36) #[] #[.pointer (some ⟨w.heap.size + 1 + 1, 0, none⟩), .pointer (some ⟨w.heap.size, 0, none⟩)]) ∧ Below w.heap.size w w' ∧ w'.heap.size = w.heap.size + 1 + 1 + 1 ∧ GM (w.heap.size + 1 + 1) (w.heap.size + 1) w.heap.size n (List.replicate n false) ua uc w' := by
  have hmb := make_bools n hn
  go_enter Try.func27, Try.ntmps27
  go_wp2_with fail
  go_ret
  have a0 := fun (u : World) (o : Obj) (k : Nat) (h : k < u.heap.size) => Below.heap_alloc u o k h
  refine ⟨rfl, (((Below.refl _ _).alloc (Nat.le_refl _) _).alloc (by simp) _).alloc (by simp; omega) _, by simp, ?_, ?_, by simp, ?_⟩
  · have := heap_alloc_new ((w.alloc (.cells #[.slice ua n uc] 38)).alloc (.cells (madeCells #[.bool false] n) 4)) (.cells #[.slice (some ⟨w.heap.size + 1, 0, none⟩) n n] 79)
    simpa using this
  · rw [a0 _ _ _ (by simp), ← bools_made]
    have := heap_alloc_new (w.alloc (.cells #[.slice ua n uc] 38)) (.cells (madeCells #[.bool false] n) 4)
    simpa using this
  · rw [a0 _ _ _ (by simp; omega), a0 _ _ _ (by simp)]
    exact heap_alloc_new w _

set_option maxRecDepth 100000 in
set_option maxHeartbeats 1600000 in
theorem Index_any (B x : Nat) (xs : List Nat) (a : Option Addr) (c : Nat) (w : World) (h : Ints B w a xs) :
    Calls Try.prog 40 #[.slice a xs.length c, .int .i64 x] w fun e w' => w' = w ∧ ((x ∈ xs ∧ ∃ k : Nat, k ≤ 1048576 ∧ e = .returned (.int .i64 k)) ∨ (x ∉ xs ∧ e = .returned (.int .i64 (-1)))) := by
  have hl := h.1
  have HS : Hid (Ints B w a xs) := h
  clear h
  go_enter Try.func40, Try.ntmps40
  go_wp2_with fail
  go_loopw [8] (fun i wr => ∃ j : Nat, j ≤ xs.length ∧ i = .int .i64 j ∧ wr = w ∧ Hid (x ∉ xs.take j)) (fun i _ => xs.length - (intOf i).toNat)
  case atStart => exact ⟨0, Nat.zero_le _, rfl, rfl, by show x ∉ _; simp⟩
  case round =>
    obtain ⟨j, hj, rfl, rfl, HN⟩ := hrel
    by_cases hlt : j < xs.length
    · obtain ⟨b, o, y, rfl, hbB, hy, hc⟩ := HS.out.at hlt
      have HY : Hid (xs[j]? = some y) := hy
      clear hy
      by_cases e : x = y
      · subst e
        go_wp2_with fail
        go_ret
        exact ⟨rfl, Or.inl ⟨List.mem_of_getElem? HY.out, j, by omega, rfl⟩⟩
      · have he : ¬ (x : Int) = (y : Int) := by omega
        have he2 : ¬ (y : Int) = (x : Int) := by omega
        go_wp2_with fail
        go_roundw
        case rel =>
          refine ⟨j + 1, by omega, by go_num, trivial, ?_⟩
          show x ∉ xs.take (j + 1)
          rw [List.take_add_one, HY.out]
          simp
          exact ⟨HN.out, e⟩
        case measure => simp [intOf]; omega
    · obtain rfl : j = xs.length := by omega
      go_wp2_with fail
      go_ret
      refine ⟨rfl, Or.inr ⟨?_, rfl⟩⟩
      have := HN.out
      rwa [List.take_length] at this

set_option maxRecDepth 100000 in
set_option maxHeartbeats 1600000 in
theorem Contains_any (B x : Nat) (xs : List Nat) (a : Option Addr) (c : Nat) (w : World) (h : Ints B w a xs) :
    Calls Try.prog 30 #[.slice a xs.length c, .int .i64 x] w fun e w' => w' = w ∧ e = .returned (.bool (decide (x ∈ xs))) := by
  have IX : Hid (Calls Try.prog 40 #[.slice a xs.length c, .int .i64 x] w fun e w' => w' = w ∧ ((x ∈ xs ∧ ∃ k : Nat, k ≤ 1048576 ∧ e = .returned (.int .i64 k)) ∨ (x ∉ xs ∧ e = .returned (.int .i64 (-1))))) := Index_any B x xs a c w h
  have hl := h.1
  clear h
  go_enter Try.func30, Try.ntmps30
  go_wp2_with fail
  refine IX.out.mono ?_
  rintro e w' ⟨rfl, ⟨hx, k, hk, rfl⟩ | ⟨hx, rfl⟩⟩
  · go_wp2_with fail
    go_ret
    exact ⟨rfl, by simp [hx]⟩
  · go_wp2_with fail
    go_ret
    exact ⟨rfl, by simp [hx]⟩

set_option maxRecDepth 100000 in
set_option maxHeartbeats 1600000 in
theorem Min_any (B : Nat) (xs : List Nat) (v : Value) (w : World) (h : RowI B v xs w) (h0 : 0 < xs.length) (hl : xs.length ≤ 1048576) (hm : ∀ x ∈ xs, x ≤ 1048576) :
    Calls Try.prog 31 #[v] w fun e w' => w' = w ∧ ∃ m : Nat, m ∈ xs ∧ (∀ k ∈ xs, m ≤ k) ∧ e = .returned (.int .i64 m) := by
  obtain ⟨g, cap, rfl, _, _, _⟩ := h.is h0
  have HS : Hid (RowI B (.slice (some ⟨g, 0, none⟩) xs.length cap) xs w ∧ ∀ x ∈ xs, x ≤ 1048576) := ⟨h, hm⟩
  have hc0 := h.cell h0
  obtain ⟨x0, HX0⟩ : ∃ x, Hid (xs.getD 0 0 = x) := ⟨_, rfl⟩
  rw [HX0.out] at hc0
  have hx0 : x0 ∈ xs := by rw [← HX0.out, getD_lt h0]; exact List.getElem_mem h0
  have HMM : Hid (x0 ∈ xs) := hx0
  clear h hm hx0
  go_enter Try.func31, Try.ntmps31
  go_wp2_with fail
  go_loopw [3, 4] (fun mv i wr => ∃ j m : Nat, 1 ≤ j ∧ j ≤ xs.length ∧ i = .int .i64 j ∧ mv = .int .i64 m ∧ wr = w ∧ Hid (m ∈ xs ∧ ∀ k ∈ xs.take j, m ≤ k)) (fun _ i _ => xs.length - (intOf i).toNat)
  case atStart =>
    refine ⟨1, x0, Nat.le_refl _, by omega, rfl, rfl, rfl, HMM.out, fun k hk => ?_⟩
    obtain ⟨y, r, hyr⟩ : ∃ y r, xs = y :: r := by cases xs with
      | nil => simp at h0
      | cons y r => exact ⟨y, r, rfl⟩
    subst hyr
    simp at hk
    have := HX0.out
    simp at this
    omega
  case round =>
    obtain ⟨j, m, hj1, hj, rfl, rfl, rfl, HR⟩ := hrel
    have hm := HS.out.2 m HR.out.1
    by_cases hlt : j < xs.length
    · have hc := HS.out.1.cell hlt
      obtain ⟨y, HY⟩ : ∃ x, Hid (xs.getD j 0 = x) := ⟨_, rfl⟩
      rw [HY.out] at hc
      have HYM : Hid (xs[j]? = some y) := by
        show xs[j]? = some y
        rw [List.getElem?_eq_getElem hlt, ← getD_lt hlt, HY.out]
      have hy := HS.out.2 y (List.mem_of_getElem? HYM.out)
      have htk : xs.take (j + 1) = xs.take j ++ [y] := by
        rw [List.take_add_one, HYM.out]
        rfl
      have HT : Hid (xs.take (j + 1) = xs.take j ++ [y]) := htk
      clear htk
      by_cases hym : y < m
      · go_wp2_with fail
        refine ⟨⟨j + 1, y, by omega, by omega, by go_num, rfl, trivial, List.mem_of_getElem? HYM.out, fun k hk => ?_⟩, by simp [intOf]; omega⟩
        rw [HT.out] at hk
        rcases List.mem_append.1 hk with q | q
        · have := HR.out.2 k q
          omega
        · simp at q
          omega
      · go_wp2_with fail
        refine ⟨⟨j + 1, m, by omega, by omega, by go_num, rfl, trivial, HR.out.1, fun k hk => ?_⟩, by simp [intOf]; omega⟩
        rw [HT.out] at hk
        rcases List.mem_append.1 hk with q | q
        · exact HR.out.2 k q
        · simp at q
          omega
    · obtain rfl : j = xs.length := by omega
      go_wp2_with fail
      go_ret
      refine ⟨rfl, m, HR.out.1, ?_, rfl⟩
      have := HR.out.2
      rwa [List.take_length] at this

theorem Backward_any (a : Option Addr) (n c : Nat) (w : World) : Calls Try.prog 28 #[.slice a n c] w fun e w' => e = .returned (.func (.func 38) #[] #[.pointer (some ⟨w.heap.size, 0, none⟩)]) ∧ w' = w.alloc (.cells #[.slice a n c] 43) := by
  go_enter Try.func28, Try.ntmps28
  go_wp2_with fail
  go_ret
  exact ⟨rfl, rfl⟩
end Go.Proofs.Ytilcongilokppad
