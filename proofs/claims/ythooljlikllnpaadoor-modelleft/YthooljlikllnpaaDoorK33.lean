/- Chapter 7: the law's own functions: alive. -/
import Derived.Test.YthooljlikllnpaaDoorK32
namespace Go.Proofs.YthooljlikllnpaaDoor
set_option linter.unusedVariables false
set_option linter.unusedSimpArgs false
open Go.RowKit

theorem Nc.of {w : World} {b o : Nat} {k n : Int} {own : ByteArray} {ka : Option Addr} {kl kc : Nat} {kids : List Cor} (h : Rw w b o (cv k n own (.slice ka kl kc)).toList) (hk : kids.length = kl) : Nc w b o ⟨k, 0, n, ⟨#[]⟩, own, dat0, kids⟩ none 0 ka kc := by
  subst hk
  exact ⟨by simpa using h 0 _ rfl, h 1 _ rfl, h 2 _ rfl, h 3 _ rfl, h 4 _ rfl, h 5 _ rfl, h 6 _ rfl, h 7 _ rfl, h 8 _ rfl, h 9 _ rfl, h 10 _ rfl, h 11 _ rfl⟩
theorem cc_leaf {B : Nat} {w : World} (g : Nat) (a : Option Addr) : Cc B w g a [] := by
  cases g with
  | zero => rfl
  | succ g => exact ⟨Nat.zero_le _, Or.inl rfl⟩
theorem cc_two {B : Nat} {w : World} {f : ByteArray} {x y : Int} {C L M cap cap2 : Nat} (h1 : Rw w C 0 (cv 9 0 ⟨#[]⟩ (.slice (some ⟨L, 0, none⟩) 2 cap)).toList)
    (h2 : Rw w L 0 ((cv 6 0 outB (.slice none 0 0)).toList ++ (cv 9 0 ⟨#[]⟩ (.slice (some ⟨M, 0, none⟩) 3 cap2)).toList))
    (h3 : Rw w M 0 ((cv 6 0 f (.slice none 0 0)).toList ++ ((cv 1 x ⟨#[]⟩ (.slice none 0 0)).toList ++ (cv 1 y ⟨#[]⟩ (.slice none 0 0)).toList)))
    (hC : C < B) (hL : L < B) (hM : M < B) (hcap : 2 ≤ cap) (hcap2 : 3 ≤ cap2) (hf : f.size ≤ maxLen) : Cc B w 3 (some ⟨C, 0, none⟩) [corC outB [corC f [corN x, corN y]]] := by
  have em : ByteArray.size ⟨#[]⟩ ≤ maxLen := Nat.zero_le _
  refine ⟨by simp, Or.inr ⟨C, 0, rfl, hC, fun i c hi => ?_⟩⟩
  match i, hi with
  | 0, hi =>
    simp at hi
    subst hi
    refine ⟨none, 0, some ⟨L, 0, none⟩, cap, Nc.of (by simpa using h1) rfl, ⟨em, em, em, Nat.le_refl _, hcap⟩, Dc.nil _ _ _ _, ?_⟩
    refine ⟨by simp [corC], Or.inr ⟨L, 0, rfl, hL, fun i c hi => ?_⟩⟩
    match i, hi with
    | 0, hi =>
      simp [corC] at hi
      subst hi
      exact ⟨none, 0, none, 0, Nc.of (by simpa using h2.left) rfl, ⟨em, by decide, em, Nat.le_refl _, Nat.le_refl _⟩, Dc.nil _ _ _ _, cc_leaf _ _⟩
    | 1, hi =>
      simp [corC] at hi
      subst hi
      refine ⟨none, 0, some ⟨M, 0, none⟩, cap2, Nc.of (by simpa [cv] using h2.right) rfl, ⟨em, em, em, Nat.le_refl _, hcap2⟩, Dc.nil _ _ _ _, ?_⟩
      refine ⟨by simp [corC], Or.inr ⟨M, 0, rfl, hM, fun i c hi => ?_⟩⟩
      match i, hi with
      | 0, hi =>
        simp [corC] at hi
        subst hi
        exact ⟨none, 0, none, 0, Nc.of (by simpa using h3.left) rfl, ⟨em, hf, em, Nat.le_refl _, Nat.le_refl _⟩, Dc.nil _ _ _ _, cc_leaf _ _⟩
      | 1, hi =>
        simp [corC] at hi
        subst hi
        exact ⟨none, 0, none, 0, Nc.of (by simpa [cv] using h3.right.left) rfl, ⟨em, em, em, Nat.le_refl _, Nat.le_refl _⟩, Dc.nil _ _ _ _, cc_leaf _ _⟩
      | 2, hi =>
        simp [corC] at hi
        subst hi
        exact ⟨none, 0, none, 0, Nc.of (by simpa [cv] using h3.right.right) rfl, ⟨em, em, em, Nat.le_refl _, Nat.le_refl _⟩, Dc.nil _ _ _ _, cc_leaf _ _⟩
      | n + 3, hi => simp [corC] at hi
    | n + 2, hi => simp [corC] at hi
  | n + 1, hi => simp at hi
def kid2 (x y : Int) : List Value := (cv 1 x ⟨#[]⟩ (.slice none 0 0)).toList ++ (cv 1 y ⟨#[]⟩ (.slice none 0 0)).toList
theorem call2 (f : ByteArray) (x y : Int) (W : World) : Calls Tryd.prog 16 #[.string f, .slice (some ⟨W.heap.size, 0, none⟩) 2 2] (W.alloc (.cells (kid2 x y).toArray 45)) fun e w' => Below W.heap.size W w' ∧ ∃ M cap, W.heap.size ≤ M ∧ M < w'.heap.size ∧ 3 ≤ cap ∧ e = .returned (.agg (cv 9 0 ⟨#[]⟩ (.slice (some ⟨M, 0, none⟩) 3 cap))) ∧ Rw w' M 0 ((cv 6 0 f (.slice none 0 0)).toList ++ kid2 x y) := by
  have hb : Below W.heap.size W (W.alloc (.cells (kid2 x y).toArray 45)) := (Below.refl _ _).alloc (Nat.le_refl _) _
  have h := Rw.of (World.alloc_heap_new W (.cells (kid2 x y).toArray 45))
  refine (callL_any f W.heap.size 2 2 (kid2 x y) _ (by simpa using h) rfl (by omega) (by omega) (alloc_lt _ _)).mono ?_
  rintro e w' ⟨h1, M, cap, h2, h3, h4, h5, h6⟩
  exact ⟨hb.trans (h1.mono hb.size), M, cap, Nat.le_trans hb.size h2, h3, h4, h5, h6⟩
theorem call1 (f : ByteArray) (M cap2 : Nat) (W : World) : Calls Tryd.prog 16 #[.string f, .slice (some ⟨W.heap.size, 0, none⟩) 1 1] (W.alloc (.cells (cv 9 0 ⟨#[]⟩ (.slice (some ⟨M, 0, none⟩) 3 cap2)) 45)) fun e w' => Below W.heap.size W w' ∧ ∃ L cap, W.heap.size ≤ L ∧ L < w'.heap.size ∧ 2 ≤ cap ∧ e = .returned (.agg (cv 9 0 ⟨#[]⟩ (.slice (some ⟨L, 0, none⟩) 2 cap))) ∧ Rw w' L 0 ((cv 6 0 f (.slice none 0 0)).toList ++ (cv 9 0 ⟨#[]⟩ (.slice (some ⟨M, 0, none⟩) 3 cap2)).toList) := by
  have hb : Below W.heap.size W (W.alloc (.cells (cv 9 0 ⟨#[]⟩ (.slice (some ⟨M, 0, none⟩) 3 cap2)) 45)) := (Below.refl _ _).alloc (Nat.le_refl _) _
  have h := Rw.of (World.alloc_heap_new W (.cells (cv 9 0 ⟨#[]⟩ (.slice (some ⟨M, 0, none⟩) 3 cap2)) 45))
  refine (callL_any f W.heap.size 1 1 _ _ h rfl (by omega) (by omega) (alloc_lt _ _)).mono ?_
  rintro e w' ⟨h1, L, cap, h2, h3, h4, h5, h6⟩
  exact ⟨hb.trans (h1.mono hb.size), L, cap, Nat.le_trans hb.size h2, h3, h4, h5, h6⟩
/-- A part of one expression, laid. -/
def laid (nm : ByteArray) (L cap : Nat) (W : World) : World := (W.alloc (.cells (cv 9 0 ⟨#[]⟩ (.slice (some ⟨L, 0, none⟩) 2 cap)) 45)).alloc (.cells #[.string nm, .slice (some ⟨W.heap.size, 0, none⟩) 1 1] 39)
theorem laid_ok (nm f : ByteArray) (x y : Int) (L cap M cap2 : Nat) (W : World) (hL : L < W.heap.size) (hM : M < W.heap.size) (hc : 2 ≤ cap) (hc2 : 3 ≤ cap2) (hf : f.size ≤ maxLen)
    (h2 : Rw W L 0 ((cv 6 0 outB (.slice none 0 0)).toList ++ (cv 9 0 ⟨#[]⟩ (.slice (some ⟨M, 0, none⟩) 3 cap2)).toList)) (h3 : Rw W M 0 ((cv 6 0 f (.slice none 0 0)).toList ++ kid2 x y)) :
    Below W.heap.size W (laid nm L cap W) ∧ Cc (W.heap.size + 1) (laid nm L cap W) 3 (some ⟨W.heap.size, 0, none⟩) [corC outB [corC f [corN x, corN y]]] ∧ W.heap.size + 1 < (laid nm L cap W).heap.size ∧
      (laid nm L cap W).heap[W.heap.size + 1]? = some (.cells #[.string nm, .slice (some ⟨W.heap.size, 0, none⟩) 1 1] 39 (0, 0)) := by
  have hb : Below W.heap.size W (laid nm L cap W) := ((Below.refl _ _).alloc (Nat.le_refl _) _).alloc (by simp) _
  have hn := World.alloc_heap_new (W.alloc (.cells (cv 9 0 ⟨#[]⟩ (.slice (some ⟨L, 0, none⟩) 2 cap)) 45)) (.cells #[.string nm, .slice (some ⟨W.heap.size, 0, none⟩) 1 1] 39)
  have hC : (laid nm L cap W).heap[W.heap.size]? = some (.cells (cv 9 0 ⟨#[]⟩ (.slice (some ⟨L, 0, none⟩) 2 cap)) 45 (0, 0)) := by
    unfold laid
    rw [Below.heap_alloc _ _ _ (alloc_lt _ _)]
    exact World.alloc_heap_new W _
  refine ⟨hb, cc_two (Rw.of hC) (h2.stay (hb.block L hL)) (h3.stay (hb.block M hM)) (by omega) (by omega) (by omega) hc hc2 hf, by simp [laid], ?_⟩
  simpa [laid] using hn
theorem laid_pair (T : Nat) (nm : ByteArray) (x y : Int) (L cap M cap2 : Nat) (W : World) (hL : L < W.heap.size) (hM : M < W.heap.size) (hc : 2 ≤ cap) (hc2 : 3 ≤ cap2)
    (h2 : Rw W L 0 ((cv 6 0 outB (.slice none 0 0)).toList ++ (cv 9 0 ⟨#[]⟩ (.slice (some ⟨M, 0, none⟩) 3 cap2)).toList)) (h3 : Rw W M 0 ((cv 6 0 consB (.slice none 0 0)).toList ++ kid2 x y))
    (ht : Tab T W) (hT : T ≤ W.heap.size) (q1 : rangeN x = true) (q2 : rangeN y = true) :
    Calls Tryd.prog 8 #[.slice (some ⟨W.heap.size + 1, 0, none⟩) 1 1, .int .i64 20] (laid nm L cap W) fun e w' => Below W.heap.size W w' ∧ ∃ a n c, e = .returned (.tuple #[.agg #[.int .i64 1, .slice a n c], fv (0, 0)]) ∧ T1 true (pairB x y) a n c w' := by
  obtain ⟨g1, g2, g3, g4⟩ := laid_ok nm consB x y L cap M cap2 W hL hM hc hc2 (by decide) h2 h3
  refine (Run_pair x y (W.heap.size + 1) 2 T (W.heap.size + 1) W.heap.size 0 1 nm _ g2 (by omega) (by omega) g4 (ht.below (g1.mono hT)) (by omega) q1 q2).mono ?_
  rintro e w' ⟨hb, r⟩
  exact ⟨g1.trans (hb.mono g1.size), r⟩
theorem laid_sum (T : Nat) (nm : ByteArray) (f : Fin 4) (x y : Int) (L cap M cap2 : Nat) (W : World) (hL : L < W.heap.size) (hM : M < W.heap.size) (hc : 2 ≤ cap) (hc2 : 3 ≤ cap2)
    (h2 : Rw W L 0 ((cv 6 0 outB (.slice none 0 0)).toList ++ (cv 9 0 ⟨#[]⟩ (.slice (some ⟨M, 0, none⟩) 3 cap2)).toList)) (h3 : Rw W M 0 ((cv 6 0 (opB f) (.slice none 0 0)).toList ++ kid2 x y))
    (ht : Tab T W) (hT : T ≤ W.heap.size) (q1 : rangeN x = true) (q2 : rangeN y = true) :
    Calls Tryd.prog 8 #[.slice (some ⟨W.heap.size + 1, 0, none⟩) 1 1, .int .i64 100] (laid nm L cap W) fun e w' => Below W.heap.size W w' ∧ ∃ a n c, e = .returned (.tuple #[.agg #[.int .i64 (if opOk f x y then 1 else 6), .slice a n c], fv (0, 0)]) ∧ T1 (opOk f x y) (opS f x y) a n c w' := by
  have hf : (opB f).size ≤ maxLen := by match f with | 0 => decide | 1 => decide | 2 => decide | 3 => decide
  obtain ⟨g1, g2, g3, g4⟩ := laid_ok nm (opB f) x y L cap M cap2 W hL hM hc hc2 hf h2 h3
  refine (Run_sum f x y (W.heap.size + 1) 2 T (W.heap.size + 1) W.heap.size 0 1 nm _ g2 (by omega) (by omega) g4 (ht.below (g1.mono hT)) (by omega) q1 q2).mono ?_
  rintro e w' ⟨hb, r⟩
  exact ⟨g1.trans (hb.mono g1.size), r⟩
theorem cell_lt {w : World} {G q : Nat} {v : Value} (h : w.cell? ⟨G, q, none⟩ = some v) : G < w.heap.size := by
  by_cases hl : G < w.heap.size
  · exact hl
  · simp [World.cell?, Array.getElem?_eq_none (Nat.le_of_not_lt hl)] at h
theorem two_boxes {w : World} {G q : Nat} {v : Value} (A B : Obj) (h : w.cell? ⟨G, q, none⟩ = some v) : ((w.alloc A).alloc B).cell? ⟨G, q, none⟩ = some v := by
  have hl := cell_lt h
  have hb : Below w.heap.size w ((w.alloc A).alloc B) := ((Below.refl _ _).alloc (Nat.le_refl _) _).alloc (by simp) _
  exact (hb.cell (p := ⟨G, q, none⟩) hl).trans h
theorem pair12 : pairB 1 2 = [40, 49, 32, 46, 32, 50, 41] := by
  unfold pairB Lib.itoa
  simp
  unfold Lib.decDigits
  simp
set_option maxRecDepth 100000 in
set_option maxHeartbeats 3200000 in
theorem alive_any (T : Nat) (w : World) (ht : Tab T w) (hT : T ≤ w.heap.size) : Calls Tryd.prog 13 #[] w fun e w' => e = .returned (.bool true) ∧ Below w.heap.size w w' := by
  have HN := hidd num_any
  have HC2 := hidd (call2 consB 1 2)
  have HC1 := hidd (call1 outB)
  have HLP := hidd (laid_pair T ⟨#[109]⟩ 1 2)
  have HT : Hid (Tab T w ∧ T ≤ w.heap.size) := ⟨ht, hT⟩
  clear ht hT
  unfold kid2 cv consB outB laid at *
  simp only [List.append_toArray, List.append, List.cons_append, List.nil_append] at HC2
  go_enter Tryd.func13, Tryd.ntmps13
  go_wp2_with fail
  refine (HN.out 1 _).mono ?_
  rintro e w1 ⟨rfl, hb1⟩
  go_wp2_with fail
  refine (HN.out 2 _).mono ?_
  rintro e w2 ⟨rfl, hb2⟩
  go_wp2_with fail
  refine (HC2.out _).mono ?_
  rintro e w3 ⟨hb3, M, cap2, hM, hM3, hc2, rfl, hr3⟩
  go_wp2_with fail
  refine (HC1.out M cap2 _).mono ?_
  rintro e w4 ⟨hb4, L, cap, hL, hL4, hc, rfl, hr4⟩
  have hm3 := hb4.size
  have hB : Below w.heap.size w w4 := (hb1.trans (hb2.mono hb1.size)).trans ((hb3.mono (Nat.le_trans hb1.size hb2.size)).trans (hb4.mono (Nat.le_trans hb1.size (Nat.le_trans hb2.size hb3.size))))
  have HB := hidd hB
  have HX := hidd (HLP.out L cap M cap2 w4 hL4 (by omega) hc hc2 hr4 (hr3.stay (hb4.block M hM3)) (HT.out.1.below (hB.mono HT.out.2)) (Nat.le_trans HT.out.2 hB.size) rfl rfl)
  rw [pair12] at HX
  clear HLP hr3 hr4 hb1 hb2 hb3 hb4 hB HC1 HC2 HN HT
  go_wp2_with fail
  refine HX.out.mono ?_
  rintro e w5 ⟨hb5, a, n, c, rfl, ht1⟩
  obtain ⟨rfl, G, rfl, hG⟩ := ht1.1 rfl
  have HB5 := hidd (HB.out.trans (hb5.mono HB.out.size))
  clear hb5 ht1 HX
  unfold fv
  have hG2 := two_boxes (.cells #[.int .i64 1, .slice (some ⟨G, 0, none⟩) 1 c] 25) (.cells #[.int .i64 0, .int .i64 0] 28) hG
  have HB6 : Hid (Below w.heap.size w ((w5.alloc (.cells #[.int .i64 1, .slice (some ⟨G, 0, none⟩) 1 c] 25)).alloc (.cells #[.int .i64 0, .int .i64 0] 28))) := (HB5.out.alloc HB5.out.size _).alloc (by have := HB5.out.size; simp; omega) _
  go_wp2_with fail
  go_ret
  exact ⟨rfl, HB6.out⟩
end Go.Proofs.YthooljlikllnpaaDoor
