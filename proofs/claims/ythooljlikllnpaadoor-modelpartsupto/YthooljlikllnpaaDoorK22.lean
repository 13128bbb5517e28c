/- Chapter 7: ModelSums: its function run. -/
import Derived.Test.YthooljlikllnpaaDoorK21
namespace Go.Proofs.YthooljlikllnpaaDoor
set_option linter.unusedVariables false
set_option linter.unusedSimpArgs false
open Go.RowKit

theorem c16a (fb : ByteArray) (x y : Int) (N : Nat) (W : World) (h2 : N < W.heap.size) (h3 : Rw W N 0 (kid2 x y)) : Calls Tryd.prog 16 #[.string fb, .slice (some ⟨N, 0, none⟩) 2 2] W fun e w' => Below W.heap.size W w' ∧ ∃ v, e = .returned v ∧ D15 fb x y v w' := by
  refine (callL_any fb N 2 2 (kid2 x y) W h3 rfl (by omega) (by omega) h2).mono ?_
  rintro e w' ⟨h1, M, cap, h2, h3, h4, h5, h6⟩
  exact ⟨h1, _, h5, M, cap, rfl, h4, h3, h6⟩
theorem c16b (fb : ByteArray) (x y : Int) (N M cap : Nat) (W : World) (h2 : N < W.heap.size) (h3 : Rw W N 0 (cv 9 0 ⟨#[]⟩ (.slice (some ⟨M, 0, none⟩) 3 cap)).toList) (h4 : F3 fb x y M cap W) : Calls Tryd.prog 16 #[.string outB, .slice (some ⟨N, 0, none⟩) 1 1] W fun e w' => Below W.heap.size W w' ∧ ∃ v, e = .returned v ∧ D17 fb x y v w' := by
  refine (callL_any outB N 1 1 _ W h3 rfl (by omega) (by omega) h2).mono ?_
  rintro e w' ⟨g1, L, cap', g2, g3, g4, g5, g6⟩
  exact ⟨g1, _, g5, L, cap', rfl, g4, g3, M, cap, g6, h4.up g1⟩
theorem c8 (T : Nat) (f : Fin 4) (x y : Int) (N C : Nat) (W : World) (h2 : N < W.heap.size) (h3 : W.heap[N]? = some (.cells #[.string ⟨#[]⟩, .slice (some ⟨C, 0, none⟩) 1 1] 39 (0, 0))) (h4 : G1 (opB f) x y C W) (ht : Tab T W) (hT : T ≤ W.heap.size) (q1 : rangeN x = true) (q2 : rangeN y = true) :
    Calls Tryd.prog 8 #[.slice (some ⟨N, 0, none⟩) 1 1, .int .i64 100] W fun e w' => Below W.heap.size W w' ∧ ∃ a n c, e = .returned (.tuple #[.agg #[.int .i64 (if opOk f x y then 1 else 6), .slice a n c], .agg #[.int .i64 0, .int .i64 0]]) ∧ T1 (opOk f x y) (opS f x y) a n c w' := by
  obtain ⟨hC, L, cap, hr, hc, hL, M, cap2, hr2, hc2, hM, hr3⟩ := h4
  have hf : (opB f).size ≤ maxLen := by match f with | 0 => decide | 1 => decide | 2 => decide | 3 => decide
  have hcc := cc_two (B := W.heap.size) hr hr2 hr3 hC hL hM hc hc2 hf
  exact Run_sum f x y W.heap.size 2 T N C 0 1 ⟨#[]⟩ W hcc (Nat.le_refl _) (by omega) h3 ht hT q1 q2
theorem I19.not18 {b : Nat} {w0 : World} {fb : ByteArray} {x y : Int} {ok : Bool} {s : List UInt8} {how : Int} {l : Array Bool} {v6 v7 v8 v9 v10 v11 v12 v13 v14 v15 v16 v17 v18 v19 v20 v21 v22 v23 : Value} {W : World} (h : I19 b w0 fb x y ok s how l v6 v7 v8 v9 v10 v11 v12 v13 v14 v15 v16 v17 v18 v19 v20 v21 v22 v23 W) {i : Nat} (hu : l.getD i true = false) (h1 : i < 18) (h2 : i ≠ 15) : l.getD 18 false = false := by
  cases e : l.getD 18 false with
  | false => rfl
  | true =>
    have := h.q18 e i h1 h2
    rw [un_of hu] at this
    cases this
theorem I19.not19 {b : Nat} {w0 : World} {fb : ByteArray} {x y : Int} {ok : Bool} {s : List UInt8} {how : Int} {l : Array Bool} {v6 v7 v8 v9 v10 v11 v12 v13 v14 v15 v16 v17 v18 v19 v20 v21 v22 v23 : Value} {W : World} (h : I19 b w0 fb x y ok s how l v6 v7 v8 v9 v10 v11 v12 v13 v14 v15 v16 v17 v18 v19 v20 v21 v22 v23 W) (hu : l.getD 18 false = false) : l.getD 19 false = false := by
  cases e : l.getD 19 false with
  | false => rfl
  | true =>
    have := (h.q19 e).1
    rw [hu] at this
    cases this
theorem I19.not19' {b : Nat} {w0 : World} {fb : ByteArray} {x y : Int} {ok : Bool} {s : List UInt8} {how : Int} {l : Array Bool} {v6 v7 v8 v9 v10 v11 v12 v13 v14 v15 v16 v17 v18 v19 v20 v21 v22 v23 : Value} {W : World} (h : I19 b w0 fb x y ok s how l v6 v7 v8 v9 v10 v11 v12 v13 v14 v15 v16 v17 v18 v19 v20 v21 v22 v23 W) (hu : l.getD 15 true = false) : l.getD 19 false = false := by
  cases e : l.getD 19 false with
  | false => rfl
  | true =>
    have := (h.q19 e).2
    rw [un_of hu] at this
    cases this
theorem ready_nil {md : Region.Mode} {ops : Array Oper} {l : Array Bool} (h : Region.ready md ops l = []) (i : Nat) (o : Oper) (ho : ops[i]? = some o) (hl : l.size = ops.size) (hd : ∀ e ∈ o.after, Region.binds md e = true → l.getD e.on false = true) : l.getD i false = true := by
  have hi : i < ops.size := (Array.getElem?_eq_some_iff.1 ho).1
  cases hg : l.getD i false with
  | true => rfl
  | false =>
    exfalso
    have hil : i < l.size := by omega
    have ht : l.getD i true = false := by simpa [Array.getD, hil] using hg
    have : i ∈ Region.ready md ops l := by
      unfold Region.ready
      rw [List.mem_filter]
      refine ⟨List.mem_range.2 hi, ?_⟩
      simp only [Bool.and_eq_true, Bool.not_eq_true', ho, Option.map_some, Option.getD_some]
      refine ⟨ht, ?_⟩
      rw [Array.all_eq_true]
      intro k hk
      cases hb : Region.binds md o.after[k] with
      | false => rfl
      | true => simpa using hd _ (Array.getElem_mem hk) hb
    rw [h] at this
    cases this
theorem ready_nil' {md : Region.Mode} {ops : Array Oper} {l : Array Bool} (h : Region.ready md ops l = []) (i : Nat) (o : Oper) (ho : ops[i]? = some o) (hl : l.size = ops.size) (ds : List Nat) (ha : (o.after.all fun e => !Region.binds md e || ds.contains e.on) = true) (hd : ∀ d ∈ ds, l.getD d false = true) : l.getD i false = true := by
  refine ready_nil h i o ho hl fun e he hb => ?_
  obtain ⟨k, hk, rfl⟩ := Array.getElem_of_mem he
  have := Array.all_eq_true.1 ha k hk
  rw [hb] at this
  exact hd _ (by simpa using this)
theorem rep_false (n j : Nat) : (Array.replicate n false).getD j false = false := by
  by_cases h : j < n <;> simp [Array.getD, h]
/-- What run of the law tells. -/
def runS (f : Fin 4) (x y : Int) : Value := .tuple #[.string ⟨(if opOk f x y then opS f x y else []).toArray⟩, .int .i64 (if opOk f x y then 1 else 6)]
def fr19 (fb : ByteArray) (A D : Nat) (v6 v7 v8 v9 v10 v11 v12 v13 v14 v15 v16 v17 v18 v19 v20 v21 v22 v23 : Value) : Array Value := #[.string fb, .pointer (some ⟨A, 0, none⟩), .pointer (some ⟨D, 0, none⟩), undef, .string ⟨#[]⟩, .int .i64 0, v6, v7, v8, v9, v10, v11, v12, v13, v14, v15, v16, v17, v18, v19, v20, v21, v22, v23, undef, undef, undef, undef, undef, undef, undef, undef, undef, undef, undef, undef]
set_option maxRecDepth 100000 in
set_option maxHeartbeats 6400000 in
theorem run19_any (T : Nat) (f : Fin 4) (x y : Int) (A D : Nat) (w : World) (ht : Tab T w) (hT : T ≤ w.heap.size) (q1 : rangeN x = true) (q2 : rangeN y = true) (hA : w.cell? ⟨A, 0, none⟩ = some (.int .i64 x)) (hD : w.cell? ⟨D, 0, none⟩ = some (.int .i64 y)) :
    Calls Tryd.prog 19 #[.string (opB f), .pointer (some ⟨A, 0, none⟩), .pointer (some ⟨D, 0, none⟩)] w fun e w' => e = .returned (runS f x y) ∧ Below w.heap.size w w' := by
  have HN := hidd num_any
  have H16a := hidd (c16a (opB f) x y)
  have H16b := hidd (c16b (opB f) x y)
  have H8 : Hid (∀ N C W, _) := hidd (fun N C W => c8 T f x y N C W)
  have HT : Hid (Tab T w ∧ T ≤ w.heap.size ∧ rangeN x = true ∧ rangeN y = true) := ⟨ht, hT, q1, q2⟩
  have HA : Hid (w.cell? ⟨A, 0, none⟩ = some (.int .i64 x) ∧ w.cell? ⟨D, 0, none⟩ = some (.int .i64 y)) := ⟨hA, hD⟩
  clear ht hT q1 q2 hA hD
  generalize opB f = fb at *
  unfold runS
  generalize opOk f x y = ok at *
  generalize opS f x y = os at *
  obtain ⟨how, hhow⟩ : ∃ how : Int, how = if ok = true then 1 else 6 := ⟨_, rfl⟩
  rw [← hhow] at H8 ⊢
  have HH := hidd hhow
  clear hhow
  go_enter Tryd.func19, Tryd.ntmps19
  go_wp2_with fail
  refine wp_region_any (by kernel_rfl) ?_
  refine wpAny_inv (fun l a W => ∃ v6 v7 v8 v9 v10 v11 v12 v13 v14 v15 v16 v17 v18 v19 v20 v21 v22 v23, a = { tmps := fr19 fb A D v6 v7 v8 v9 v10 v11 v12 v13 v14 v15 v16 v17 v18 v19 v20 v21 v22 v23, defers := [] } ∧ I19 w.heap.size w fb x y ok os how l v6 v7 v8 v9 v10 v11 v12 v13 v14 v15 v16 v17 v18 v19 v20 v21 v22 v23 W) ?_ ?_ _ _ _ _ (by decide) ?_
  · intro l a W i hI hi
    obtain ⟨v6, v7, v8, v9, v10, v11, v12, v13, v14, v15, v16, v17, v18, v19, v20, v21, v22, v23, rfl, hI⟩ := hI
    have hlt := (ready_un hi).1
    have hun := (ready_un hi).2
    have hlt' : i < 20 := hlt
    have HI := hidd hI
    have hcase : i = 0 ∨ i = 1 ∨ i = 2 ∨ i = 3 ∨ i = 4 ∨ i = 5 ∨ i = 6 ∨ i = 7 ∨ i = 8 ∨ i = 9 ∨ i = 10 ∨ i = 11 ∨ i = 12 ∨ i = 13 ∨ i = 14 ∨ i = 15 ∨ i = 16 ∨ i = 17 ∨ i = 18 ∨ i = 19 := by omega
    clear hI hlt hlt'
    rcases hcase with rfl | rfl | rfl | rfl | rfl | rfl | rfl | rfl | rfl | rfl | rfl | rfl | rfl | rfl | rfl | rfl | rfl | rfl | rfl | rfl
    · refine wpOp_of _ rfl rfl ?_
      have u18 := HI.out.not18 hun (by decide) (by decide)
      have u19 := HI.out.not19 u18
      clear hi
      unfold fr19
      go_simp
      exact ⟨_, _, _, _, _, _, _, _, _, _, _, _, _, _, _, _, _, _, ⟨rfl, rfl, rfl, rfl, rfl, rfl, rfl, rfl, rfl, rfl, rfl, rfl, rfl, rfl, rfl, rfl, rfl, rfl⟩, HI.out.t0 hun (Below.refl _ _) rfl⟩
    · refine wpOp_of _ rfl rfl ?_
      have u18 := HI.out.not18 hun (by decide) (by decide)
      have u19 := HI.out.not19 u18
      clear hi
      have cA := (HI.out.below.cell (p := ⟨A, 0, none⟩) (cell_lt HA.out.1)).trans HA.out.1
      unfold fr19
      go_simp
      exact ⟨_, _, _, _, _, _, _, _, _, _, _, _, _, _, _, _, _, _, ⟨rfl, rfl, rfl, rfl, rfl, rfl, rfl, rfl, rfl, rfl, rfl, rfl, rfl, rfl, rfl, rfl, rfl, rfl⟩, HI.out.t1 hun (Below.refl _ _) rfl⟩
    · refine wpOp_of _ rfl rfl ?_
      have u18 := HI.out.not18 hun (by decide) (by decide)
      have u19 := HI.out.not19 u18
      have d1 := ready_dep hi _ rfl 1 (by kernel_rfl)
      clear hi
      obtain rfl := HI.out.p10 u18 d1
      unfold fr19
      go_simp
      refine (HN.out x W).mono ?_
      rintro e W' ⟨rfl, hb⟩
      go_simp
      exact ⟨_, _, _, _, _, _, _, _, _, _, _, _, _, _, _, _, _, _, ⟨rfl, rfl, rfl, rfl, rfl, rfl, rfl, rfl, rfl, rfl, rfl, rfl, rfl, rfl, rfl, rfl, rfl, rfl⟩, HI.out.t2 hun hb rfl⟩
    · refine wpOp_of _ rfl rfl ?_
      have u18 := HI.out.not18 hun (by decide) (by decide)
      have u19 := HI.out.not19 u18
      clear hi
      have cA := (HI.out.below.cell (p := ⟨D, 0, none⟩) (cell_lt HA.out.2)).trans HA.out.2
      unfold fr19
      go_simp
      exact ⟨_, _, _, _, _, _, _, _, _, _, _, _, _, _, _, _, _, _, ⟨rfl, rfl, rfl, rfl, rfl, rfl, rfl, rfl, rfl, rfl, rfl, rfl, rfl, rfl, rfl, rfl, rfl, rfl⟩, HI.out.t3 hun (Below.refl _ _) rfl⟩
    · refine wpOp_of _ rfl rfl ?_
      have u18 := HI.out.not18 hun (by decide) (by decide)
      have u19 := HI.out.not19 u18
      have d3 := ready_dep hi _ rfl 3 (by kernel_rfl)
      clear hi
      obtain rfl := HI.out.p12 u18 d3
      unfold fr19
      go_simp
      refine (HN.out y W).mono ?_
      rintro e W' ⟨rfl, hb⟩
      go_simp
      exact ⟨_, _, _, _, _, _, _, _, _, _, _, _, _, _, _, _, _, _, ⟨rfl, rfl, rfl, rfl, rfl, rfl, rfl, rfl, rfl, rfl, rfl, rfl, rfl, rfl, rfl, rfl, rfl, rfl⟩, HI.out.t4 hun hb rfl⟩
    · refine wpOp_of _ rfl rfl ?_
      have u18 := HI.out.not18 hun (by decide) (by decide)
      have u19 := HI.out.not19 u18
      have d2 := ready_dep hi _ rfl 2 (by kernel_rfl)
      have d4 := ready_dep hi _ rfl 4 (by kernel_rfl)
      clear hi
      obtain rfl := HI.out.p11 u18 d2
      obtain rfl := HI.out.p13 u18 d4
      have hb := (Below.refl W.heap.size W).alloc (Nat.le_refl _) (.cells (kid2 x y).toArray 45)
      have hn : D14 x y (.slice (some ⟨W.heap.size, 0, none⟩) 2 2) (W.alloc (.cells (kid2 x y).toArray 45)) := ⟨_, rfl, alloc_lt _ _, Rw.of (World.alloc_heap_new W (.cells (kid2 x y).toArray 45))⟩
      have HX := hidd (HI.out.t5 hun hb hn)
      clear hb hn
      unfold kid2 nvV cv at HX
      unfold nvV cv
      unfold fr19
      go_simp
      exact ⟨_, _, _, _, _, _, _, _, _, _, _, _, _, _, _, _, _, _, ⟨rfl, rfl, rfl, rfl, rfl, rfl, rfl, rfl, rfl, rfl, rfl, rfl, rfl, rfl, rfl, rfl, rfl, rfl⟩, HX.out⟩
    · refine wpOp_of _ rfl rfl ?_
      have u18 := HI.out.not18 hun (by decide) (by decide)
      have u19 := HI.out.not19 u18
      have d0 := ready_dep hi _ rfl 0 (by kernel_rfl)
      have d5 := ready_dep hi _ rfl 5 (by kernel_rfl)
      clear hi
      obtain rfl := HI.out.p9 u18 d0
      obtain ⟨N, rfl, h2, h3⟩ := HI.out.p14 u18 d5
      unfold fr19
      go_simp
      refine (H16a.out N W h2 h3).mono ?_
      rintro e W' ⟨hb, v, rfl, hd⟩
      go_simp
      exact ⟨_, _, _, _, _, _, _, _, _, _, _, _, _, _, _, _, _, _, ⟨rfl, rfl, rfl, rfl, rfl, rfl, rfl, rfl, rfl, rfl, rfl, rfl, rfl, rfl, rfl, rfl, rfl, rfl⟩, HI.out.t6 hun hb hd⟩
    · refine wpOp_of _ rfl rfl ?_
      have u18 := HI.out.not18 hun (by decide) (by decide)
      have u19 := HI.out.not19 u18
      have d6 := ready_dep hi _ rfl 6 (by kernel_rfl)
      clear hi
      obtain ⟨M, cap, rfl, h2⟩ := HI.out.p15 u18 d6
      have hb := (Below.refl W.heap.size W).alloc (Nat.le_refl _) (.cells (cv 9 0 ⟨#[]⟩ (.slice (some ⟨M, 0, none⟩) 3 cap)) 45)
      have hn : D16 fb x y (.slice (some ⟨W.heap.size, 0, none⟩) 1 1) (W.alloc (.cells (cv 9 0 ⟨#[]⟩ (.slice (some ⟨M, 0, none⟩) 3 cap)) 45)) := ⟨_, M, cap, rfl, alloc_lt _ _, Rw.of (World.alloc_heap_new W (.cells (cv 9 0 ⟨#[]⟩ (.slice (some ⟨M, 0, none⟩) 3 cap)) 45)), h2.up hb⟩
      have HX := hidd (HI.out.t7 hun hb hn)
      clear hb hn h2
      unfold cv at HX
      unfold cvV cv
      unfold fr19
      go_simp
      exact ⟨_, _, _, _, _, _, _, _, _, _, _, _, _, _, _, _, _, _, ⟨rfl, rfl, rfl, rfl, rfl, rfl, rfl, rfl, rfl, rfl, rfl, rfl, rfl, rfl, rfl, rfl, rfl, rfl⟩, HX.out⟩
    · refine wpOp_of _ rfl rfl ?_
      have u18 := HI.out.not18 hun (by decide) (by decide)
      have u19 := HI.out.not19 u18
      have d7 := ready_dep hi _ rfl 7 (by kernel_rfl)
      clear hi
      obtain ⟨N, M, cap, rfl, h2, h3, h4⟩ := HI.out.p16 u18 d7
      have HO := hidd (H16b.out N M cap W h2 h3 h4)
      unfold outB at HO
      unfold fr19
      go_simp
      refine HO.out.mono ?_
      rintro e W' ⟨hb, v, rfl, hd⟩
      go_simp
      exact ⟨_, _, _, _, _, _, _, _, _, _, _, _, _, _, _, _, _, _, ⟨rfl, rfl, rfl, rfl, rfl, rfl, rfl, rfl, rfl, rfl, rfl, rfl, rfl, rfl, rfl, rfl, rfl, rfl⟩, HI.out.t8 hun hb hd⟩
    · refine wpOp_of _ rfl rfl ?_
      have u18 := HI.out.not18 hun (by decide) (by decide)
      have u19 := HI.out.not19 u18
      have d8 := ready_dep hi _ rfl 8 (by kernel_rfl)
      clear hi
      obtain ⟨L, cap, rfl, h2⟩ := HI.out.p17 u18 d8
      have hb := (Below.refl W.heap.size W).alloc (Nat.le_refl _) (.cells (cv 9 0 ⟨#[]⟩ (.slice (some ⟨L, 0, none⟩) 2 cap)) 45)
      have hn : D18 fb x y (.slice (some ⟨W.heap.size, 0, none⟩) 1 1) (W.alloc (.cells (cv 9 0 ⟨#[]⟩ (.slice (some ⟨L, 0, none⟩) 2 cap)) 45)) := ⟨_, rfl, alloc_lt _ _, L, cap, Rw.of (World.alloc_heap_new W (.cells (cv 9 0 ⟨#[]⟩ (.slice (some ⟨L, 0, none⟩) 2 cap)) 45)), h2.up hb⟩
      have HX := hidd (HI.out.t9 hun hb hn)
      clear hb hn h2
      unfold cv at HX
      unfold cvV cv
      unfold fr19
      go_simp
      exact ⟨_, _, _, _, _, _, _, _, _, _, _, _, _, _, _, _, _, _, ⟨rfl, rfl, rfl, rfl, rfl, rfl, rfl, rfl, rfl, rfl, rfl, rfl, rfl, rfl, rfl, rfl, rfl, rfl⟩, HX.out⟩
    · refine wpOp_of _ rfl rfl ?_
      have u18 := HI.out.not18 hun (by decide) (by decide)
      have u19 := HI.out.not19 u18
      have d9 := ready_dep hi _ rfl 9 (by kernel_rfl)
      clear hi
      obtain ⟨C, rfl, h2⟩ := HI.out.p18 u18 d9
      have HX := hidd (HI.out.t10 hun (Below.refl _ _) ⟨C, rfl, h2⟩)
      clear h2
      unfold fr19
      go_simp
      exact ⟨_, _, _, _, _, _, _, _, _, _, _, _, _, _, _, _, _, _, ⟨rfl, rfl, rfl, rfl, rfl, rfl, rfl, rfl, rfl, rfl, rfl, rfl, rfl, rfl, rfl, rfl, rfl, rfl⟩, HX.out⟩
    · refine wpOp_of _ rfl rfl ?_
      have u18 := HI.out.not18 hun (by decide) (by decide)
      have u19 := HI.out.not19 u18
      have d10 := ready_dep hi _ rfl 10 (by kernel_rfl)
      clear hi
      obtain ⟨C, rfl, h2⟩ := HI.out.p19 u18 d10
      have hb := (Below.refl W.heap.size W).alloc (Nat.le_refl _) (.cells #[.string ⟨#[]⟩, .slice (some ⟨C, 0, none⟩) 1 1] 39)
      have hn : D20 fb x y (.slice (some ⟨W.heap.size, 0, none⟩) 1 1) (W.alloc (.cells #[.string ⟨#[]⟩, .slice (some ⟨C, 0, none⟩) 1 1] 39)) := ⟨_, C, rfl, alloc_lt _ _, World.alloc_heap_new W _, h2.up hb⟩
      have HX := hidd (HI.out.t11 hun hb hn)
      clear hb hn h2
      unfold fr19
      go_simp
      exact ⟨_, _, _, _, _, _, _, _, _, _, _, _, _, _, _, _, _, _, ⟨rfl, rfl, rfl, rfl, rfl, rfl, rfl, rfl, rfl, rfl, rfl, rfl, rfl, rfl, rfl, rfl, rfl, rfl⟩, HX.out⟩
    · refine wpOp_of _ rfl rfl ?_
      have u18 := HI.out.not18 hun (by decide) (by decide)
      have u19 := HI.out.not19 u18
      have d11 := ready_dep hi _ rfl 11 (by kernel_rfl)
      clear hi
      obtain ⟨N, C, rfl, h2, h3, h4⟩ := HI.out.p20 u18 d11
      have HO := hidd (H8.out N C W h2 h3 h4 (HT.out.1.below (HI.out.below.mono HT.out.2.1)) (Nat.le_trans HT.out.2.1 HI.out.below.size) HT.out.2.2.1 HT.out.2.2.2)
      clear h2 h3 h4
      unfold fr19
      go_simp
      refine HO.out.mono ?_
      rintro e W' ⟨hb, a, n, c, rfl, hd⟩
      have HX := hidd (HI.out.t12 hun hb ⟨a, n, c, rfl, hd⟩)
      clear hb hd
      unfold aggR aggF at HX
      go_simp
      exact ⟨_, _, _, _, _, _, _, _, _, _, _, _, _, _, _, _, _, _, ⟨rfl, rfl, rfl, rfl, rfl, rfl, rfl, rfl, rfl, rfl, rfl, rfl, rfl, rfl, rfl, rfl, rfl, rfl⟩, HX.out⟩
    · refine wpOp_of _ rfl rfl ?_
      have u18 := HI.out.not18 hun (by decide) (by decide)
      have u19 := HI.out.not19 u18
      have d12 := ready_dep hi _ rfl 12 (by kernel_rfl)
      clear hi
      have HX := hidd (HI.out.t13 hun (Below.refl _ _) (HI.out.p21 u18 d12))
      unfold fr19
      go_simp
      exact ⟨_, _, _, _, _, _, _, _, _, _, _, _, _, _, _, _, _, _, ⟨rfl, rfl, rfl, rfl, rfl, rfl, rfl, rfl, rfl, rfl, rfl, rfl, rfl, rfl, rfl, rfl, rfl, rfl⟩, HX.out⟩
    · refine wpOp_of _ rfl rfl ?_
      have u18 := HI.out.not18 hun (by decide) (by decide)
      have u19 := HI.out.not19 u18
      have d13 := ready_dep hi _ rfl 13 (by kernel_rfl)
      clear hi
      obtain ⟨a, n, c, rfl, h2⟩ := HI.out.p8 u19 d13
      have HX := hidd (HI.out.t14 hun (Below.refl _ _) ⟨a, n, c, rfl, h2⟩)
      clear h2
      unfold aggR aggF at HX
      unfold aggR aggF
      unfold fr19
      go_simp
      exact ⟨_, _, _, _, _, _, _, _, _, _, _, _, _, _, _, _, _, _, ⟨rfl, rfl, rfl, rfl, rfl, rfl, rfl, rfl, rfl, rfl, rfl, rfl, rfl, rfl, rfl, rfl, rfl, rfl⟩, HX.out⟩
    · refine wpOp_of _ rfl rfl ?_
      have u19 := HI.out.not19' hun
      have d13 := ready_dep hi _ rfl 13 (by kernel_rfl)
      clear hi
      obtain ⟨a, n, c, rfl, h2⟩ := HI.out.p8 u19 d13
      have HX := hidd (HI.out.t15 hun (Below.refl _ _) rfl)
      clear h2
      unfold aggR aggF at HX
      unfold aggR aggF
      unfold fr19
      go_simp
      exact ⟨_, _, _, _, _, _, _, _, _, _, _, _, _, _, _, _, _, _, ⟨rfl, rfl, rfl, rfl, rfl, rfl, rfl, rfl, rfl, rfl, rfl, rfl, rfl, rfl, rfl, rfl, rfl, rfl⟩, HX.out⟩
    · refine wpOp_of _ rfl rfl ?_
      have u18 := HI.out.not18 hun (by decide) (by decide)
      have u19 := HI.out.not19 u18
      clear hi
      have hb := (Below.refl W.heap.size W).alloc (Nat.le_refl _) (.cells #[.int .i64 0, .slice none 0 0] 25)
      have HX := hidd (HI.out.t16 hun hb ⟨_, rfl, HI.out.below.size, alloc_lt _ _, Or.inl ⟨u18, World.alloc_heap_new W _⟩⟩)
      clear hb
      unfold fr19
      go_simp
      exact ⟨_, _, _, _, _, _, _, _, _, _, _, _, _, _, _, _, _, _, ⟨rfl, rfl, rfl, rfl, rfl, rfl, rfl, rfl, rfl, rfl, rfl, rfl, rfl, rfl, rfl, rfl, rfl, rfl⟩, HX.out⟩
    · refine wpOp_of _ rfl rfl ?_
      have u18 := HI.out.not18 hun (by decide) (by decide)
      have u19 := HI.out.not19 u18
      clear hi
      have hb := (Below.refl W.heap.size W).alloc (Nat.le_refl _) (.cells #[.int .i64 0, .int .i64 0] 28)
      have HX := hidd (HI.out.t17 hun hb ⟨_, rfl, HI.out.below.size, alloc_lt _ _, World.alloc_heap_new W _⟩)
      clear hb
      unfold fr19
      go_simp
      exact ⟨_, _, _, _, _, _, _, _, _, _, _, _, _, _, _, _, _, _, ⟨rfl, rfl, rfl, rfl, rfl, rfl, rfl, rfl, rfl, rfl, rfl, rfl, rfl, rfl, rfl, rfl, rfl, rfl⟩, HX.out⟩
    · refine wpOp_of _ rfl rfl ?_
      have d0 := ready_dep hi _ rfl 0 (by kernel_rfl)
      have d1 := ready_dep hi _ rfl 1 (by kernel_rfl)
      have d2 := ready_dep hi _ rfl 2 (by kernel_rfl)
      have d3 := ready_dep hi _ rfl 3 (by kernel_rfl)
      have d4 := ready_dep hi _ rfl 4 (by kernel_rfl)
      have d5 := ready_dep hi _ rfl 5 (by kernel_rfl)
      have d6 := ready_dep hi _ rfl 6 (by kernel_rfl)
      have d7 := ready_dep hi _ rfl 7 (by kernel_rfl)
      have d8 := ready_dep hi _ rfl 8 (by kernel_rfl)
      have d9 := ready_dep hi _ rfl 9 (by kernel_rfl)
      have d10 := ready_dep hi _ rfl 10 (by kernel_rfl)
      have d11 := ready_dep hi _ rfl 11 (by kernel_rfl)
      have d12 := ready_dep hi _ rfl 12 (by kernel_rfl)
      have d13 := ready_dep hi _ rfl 13 (by kernel_rfl)
      have d14 := ready_dep hi _ rfl 14 (by kernel_rfl)
      have d16 := ready_dep hi _ rfl 16 (by kernel_rfl)
      have d17 := ready_dep hi _ rfl 17 (by kernel_rfl)
      clear hi
      have hall : ∀ j, j < 18 → j ≠ 15 → l.getD j false = true := by
        intro j hj hj5
        have hc : j = 0 ∨ j = 1 ∨ j = 2 ∨ j = 3 ∨ j = 4 ∨ j = 5 ∨ j = 6 ∨ j = 7 ∨ j = 8 ∨ j = 9 ∨ j = 10 ∨ j = 11 ∨ j = 12 ∨ j = 13 ∨ j = 14 ∨ j = 16 ∨ j = 17 := by omega
        rcases hc with rfl | rfl | rfl | rfl | rfl | rfl | rfl | rfl | rfl | rfl | rfl | rfl | rfl | rfl | rfl | rfl | rfl <;> assumption
      have u18 := un_of hun
      obtain ⟨N, rfl, hbN, hN, hz⟩ := HI.out.p6 d16
      rw [u18] at hz
      obtain ⟨a, n, c, rfl, ht⟩ := HI.out.p22 u18 d14
      rcases hz with ⟨_, hz⟩ | ⟨hz, _⟩
      · have HX := hidd (HI.out.t18 hun hall rfl hbN hz rfl ht)
        have c0 : W.cell? ⟨N, 0, none⟩ = some (.int .i64 0) := (cellO hz).trans rfl
        have c1 : W.cell? ⟨N, 1, none⟩ = some (.slice none 0 0) := (cellO hz).trans rfl
        have z0 : W.frozen? ⟨N, 0, none⟩ = false := looseO hz
        have z1 : W.frozen? ⟨N, 1, none⟩ = false := looseO hz
        clear hz ht hall d0 d1 d2 d3 d4 d5 d6 d7 d8 d9 d10 d11 d12 d13 d14 d16 d17
        unfold aggR at HX ⊢
        unfold fr19
        go_simp
        exact ⟨_, _, _, _, _, _, _, _, _, _, _, _, _, _, _, _, _, _, ⟨rfl, rfl, rfl, rfl, rfl, rfl, rfl, rfl, rfl, rfl, rfl, rfl, rfl, rfl, rfl, rfl, rfl, rfl⟩, HX.out⟩
      · cases hz
    · refine wpOp_of _ rfl rfl ?_
      have d18 := ready_dep hi _ rfl 18 (by kernel_rfl)
      have d15 := ready_dep hi _ rfl 15 (by kernel_rfl)
      have d17 := ready_dep hi _ rfl 17 (by kernel_rfl)
      clear hi
      have u19 := un_of hun
      obtain ⟨N, rfl, hbN, hN, hz⟩ := HI.out.p7 u19 d17
      obtain rfl := HI.out.p23 d15
      have HX := hidd (HI.out.t19 hun d18 d15 rfl hbN hz)
      have c0 : W.cell? ⟨N, 0, none⟩ = some (.int .i64 0) := (cellO hz).trans rfl
      have c1 : W.cell? ⟨N, 1, none⟩ = some (.int .i64 0) := (cellO hz).trans rfl
      have z0 : W.frozen? ⟨N, 0, none⟩ = false := looseO hz
      have z1 : W.frozen? ⟨N, 1, none⟩ = false := looseO hz
      clear hz d15 d17 d18
      unfold aggF at HX ⊢
      unfold fr19
      go_simp
      exact ⟨_, _, _, _, _, _, _, _, _, _, _, _, _, _, _, _, _, _, ⟨rfl, rfl, rfl, rfl, rfl, rfl, rfl, rfl, rfl, rfl, rfl, rfl, rfl, rfl, rfl, rfl, rfl, rfl⟩, HX.out⟩
  · intro l a W hI hr
    obtain ⟨v6, v7, v8, v9, v10, v11, v12, v13, v14, v15, v16, v17, v18, v19, v20, v21, v22, v23, rfl, hI⟩ := hI
    have hsz := hI.size
    have L0 := ready_nil' hr 0 _ rfl hsz [] (by kernel_rfl) (by simp)
    have L1 := ready_nil' hr 1 _ rfl hsz [] (by kernel_rfl) (by simp)
    have L2 := ready_nil' hr 2 _ rfl hsz [1] (by kernel_rfl) (by simp only [List.forall_mem_cons]; exact ⟨L1, by simp⟩)
    have L3 := ready_nil' hr 3 _ rfl hsz [] (by kernel_rfl) (by simp)
    have L4 := ready_nil' hr 4 _ rfl hsz [3, 2] (by kernel_rfl) (by simp only [List.forall_mem_cons]; exact ⟨L3, L2, by simp⟩)
    have L5 := ready_nil' hr 5 _ rfl hsz [2, 4] (by kernel_rfl) (by simp only [List.forall_mem_cons]; exact ⟨L2, L4, by simp⟩)
    have L6 := ready_nil' hr 6 _ rfl hsz [0, 5, 4] (by kernel_rfl) (by simp only [List.forall_mem_cons]; exact ⟨L0, L5, L4, by simp⟩)
    have L7 := ready_nil' hr 7 _ rfl hsz [6] (by kernel_rfl) (by simp only [List.forall_mem_cons]; exact ⟨L6, by simp⟩)
    have L8 := ready_nil' hr 8 _ rfl hsz [7, 6] (by kernel_rfl) (by simp only [List.forall_mem_cons]; exact ⟨L7, L6, by simp⟩)
    have L9 := ready_nil' hr 9 _ rfl hsz [8] (by kernel_rfl) (by simp only [List.forall_mem_cons]; exact ⟨L8, by simp⟩)
    have L10 := ready_nil' hr 10 _ rfl hsz [9] (by kernel_rfl) (by simp only [List.forall_mem_cons]; exact ⟨L9, by simp⟩)
    have L11 := ready_nil' hr 11 _ rfl hsz [10] (by kernel_rfl) (by simp only [List.forall_mem_cons]; exact ⟨L10, by simp⟩)
    have L12 := ready_nil' hr 12 _ rfl hsz [11, 8] (by kernel_rfl) (by simp only [List.forall_mem_cons]; exact ⟨L11, L8, by simp⟩)
    have L13 := ready_nil' hr 13 _ rfl hsz [12] (by kernel_rfl) (by simp only [List.forall_mem_cons]; exact ⟨L12, by simp⟩)
    have L14 := ready_nil' hr 14 _ rfl hsz [13] (by kernel_rfl) (by simp only [List.forall_mem_cons]; exact ⟨L13, by simp⟩)
    have L15 := ready_nil' hr 15 _ rfl hsz [13] (by kernel_rfl) (by simp only [List.forall_mem_cons]; exact ⟨L13, by simp⟩)
    have L16 := ready_nil' hr 16 _ rfl hsz [] (by kernel_rfl) (by simp)
    have L17 := ready_nil' hr 17 _ rfl hsz [] (by kernel_rfl) (by simp)
    have L18 := ready_nil' hr 18 _ rfl hsz [16, 14, 12, 0, 1, 2, 3, 4, 5, 6, 7, 8, 9, 10, 11, 13, 17] (by kernel_rfl) (by simp only [List.forall_mem_cons]; exact ⟨L16, L14, L12, L0, L1, L2, L3, L4, L5, L6, L7, L8, L9, L10, L11, L13, L17, by simp⟩)
    have L19 := ready_nil' hr 19 _ rfl hsz [0, 1, 2, 3, 4, 5, 6, 7, 8, 9, 10, 11, 12, 13, 14, 15, 16, 17, 18] (by kernel_rfl) (by simp only [List.forall_mem_cons]; exact ⟨L0, L1, L2, L3, L4, L5, L6, L7, L8, L9, L10, L11, L12, L13, L14, L15, L16, L17, L18, by simp⟩)
    obtain ⟨N, rfl, hbN, hN, hz⟩ := hI.p6 L16
    rw [L18] at hz
    rcases hz with ⟨hz, _⟩ | ⟨_, a, n, c, hz, ht⟩
    · cases hz
    have HB := hidd hI.below
    clear hr hI L0 L1 L2 L3 L4 L5 L6 L7 L8 L9 L10 L11 L12 L13 L14 L15 L16 L17 L18 L19 hsz
    have c0 : W.cell? ⟨N, 0, none⟩ = some (.int .i64 how) := (cellO hz).trans rfl
    have c1 : W.cell? ⟨N, 1, none⟩ = some (.slice a n c) := (cellO hz).trans rfl
    clear hz
    unfold fr19
    have hh := HH.out
    clear HH
    cases ok
    · obtain ⟨rfl, rfl⟩ := ht.2 rfl
      simp at hh
      subst hh
      clear ht
      go_wp2_with fail
      go_region
      all_goals
        go_wp2_with fail
        exact bodyPost_ret (v := .tuple #[.string ⟨#[]⟩, .int .i64 6]) (by simp [results, Tryd.results19, go_sem]) rfl ⟨rfl, HB.out.drew⟩
    · obtain ⟨rfl, G, rfl, hG⟩ := ht.1 rfl
      simp at hh
      subst hh
      clear ht
      go_wp2_with fail
      go_region
      all_goals
        go_wp2_with fail
        exact bodyPost_ret (v := .tuple #[.string ⟨os.toArray⟩, .int .i64 1]) (by simp [results, Tryd.results19, go_sem]) rfl ⟨rfl, HB.out.drew⟩
  · exact ⟨undef, undef, undef, undef, undef, undef, undef, undef, undef, undef, undef, undef, undef, undef, undef, undef, undef, undef, rfl, ⟨by simp, Below.drew (Below.refl _ _), rfl, fun e => absurd ((rep_false _ _).symm.trans e) (by decide), fun e => absurd ((rep_false _ _).symm.trans e) (by decide), fun e => absurd ((rep_false _ _).symm.trans e) (by decide), fun g e => absurd ((rep_false _ _).symm.trans e) (by decide), fun g e => absurd ((rep_false _ _).symm.trans e) (by decide), fun g e => absurd ((rep_false _ _).symm.trans e) (by decide), fun g e => absurd ((rep_false _ _).symm.trans e) (by decide), fun g e => absurd ((rep_false _ _).symm.trans e) (by decide), fun g e => absurd ((rep_false _ _).symm.trans e) (by decide), fun g e => absurd ((rep_false _ _).symm.trans e) (by decide), fun g e => absurd ((rep_false _ _).symm.trans e) (by decide), fun g e => absurd ((rep_false _ _).symm.trans e) (by decide), fun g e => absurd ((rep_false _ _).symm.trans e) (by decide), fun g e => absurd ((rep_false _ _).symm.trans e) (by decide), fun g e => absurd ((rep_false _ _).symm.trans e) (by decide), fun g e => absurd ((rep_false _ _).symm.trans e) (by decide), fun g e => absurd ((rep_false _ _).symm.trans e) (by decide), fun g e => absurd ((rep_false _ _).symm.trans e) (by decide), fun g e => absurd ((rep_false _ _).symm.trans e) (by decide), fun e => absurd ((rep_false _ _).symm.trans e) (by decide)⟩⟩
end Go.Proofs.YthooljlikllnpaaDoor
