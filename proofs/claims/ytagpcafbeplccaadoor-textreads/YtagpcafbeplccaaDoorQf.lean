/- The document's reader: One, quotes. -/
import Derived.Test.YtagpcafbeplccaaDoorQd
namespace Go.Proofs.YtagpcafbeplccaaDoor
set_option linter.unusedVariables false
set_option linter.unusedSimpArgs false
open Go.RowKit

def asQuote : Rd Dat → Rd Dat
  | .inl e => .inl e
  | .inr (d, j, m) => .inr (datQuote d, j, m)

set_option maxRecDepth 100000 in
set_option maxHeartbeats 1600000 in
theorem One_quote_much (rb : Nat) (s : ByteArray) (i n : Nat) (dp : Int) (w : World) (h : Wk rb s i n (0, 0) w) (hi : i < s.size) (hs : s.size ≤ 6000) (hn : n ≤ 1999) (hd : dp ≤ 40) (h39 : s[i] = 39) (hd0 : 0 ≤ dp) (hm : n + 1 = 2000 ∨ dp = 40) :
    Calls Tryd.prog 23 #[.pointer (some ⟨rb, 0, none⟩), .int .i64 dp] w (OutW rb s (.inl (4, (i : Int))) w) := by
  have e40 : ((s[i].toNat : Int) == 40) = false := by rw [h39]; rfl
  have e39 : ((s[i].toNat : Int) == 39) = true := by rw [h39]; rfl
  clear h39
  have CT : Hid (∀ w, Wk rb s (i + 1) (n + 1) (0, 0) w → Calls Tryd.prog 39 #[.pointer (some ⟨rb, 0, none⟩), .int .i64 (dp + 1), .int .i64 (i : Int)] w fun e w' => e = .returned (.tuple #[]) ∧ Keep rb w w' ∧ Wk rb s (i + 1) (n + 1 + 1) (4, (i : Int)) w') := fun w h => by
    rcases hm with hm | hm
    · exact rcount_much rb s (i + 1) (n + 1) (dp + 1) i w h hm
    · by_cases h2 : n + 1 = 2000
      · exact rcount_much rb s (i + 1) (n + 1) (dp + 1) i w h h2
      · rw [show dp + 1 = 41 from by omega]; exact rcount_deep rb s (i + 1) (n + 1) i w h (by omega)
  clear hm
  have HR : Hid (Wk rb s i n (0, 0) w) := h
  have c1 := h.c1
  have l1 := h.lt
  have hN : w.heap.size ≠ rb := Nat.ne_of_gt l1
  clear h
  go_enter Tryd.func23, Tryd.ntmps23
  go_wp2_with fail
  refine (rcount_ok rb s i n dp i _ (HR.out.alloc _) hn hd).mono ?_
  rintro e w1 ⟨rfl, hk1, hr1⟩
  have H1 : Hid (Hd rb s i (n + 1) w w1) := ⟨((Keep.refl rb w).alloc _).trans hk1, hr1, (Six.made w).keep hk1 hN⟩
  clear hk1 hr1 c1 HR
  go_wp2_with fail
  refine (good_yes rb s i (n + 1) _ H1.out.wk).mono ?_
  rintro e w2 ⟨rfl, rfl⟩
  have c0 := H1.out.wk.c0
  have c1 := H1.out.wk.c1
  have z1 := H1.out.wk.z 1
  go_wp2_with fail
  refine (CT.out _ (H1.out.wk.move (i + 1) _ (by omega))).mono ?_
  rintro e w3 ⟨rfl, hk3, hr3⟩
  have H2 := H1.out.move hN (i + 1) ((i : Int) + 1) (by omega)
  obtain ⟨x0, x1, x2, x3, x4, x5, x6, x7⟩ := H2.six.keep hk3 hN
  have H3 : Hid (Keep rb w w3 ∧ Wk rb s (i + 1) (n + 1 + 1) (4, (i : Int)) w3) := ⟨H2.keep.trans hk3, hr3⟩
  clear hk3 hr3 H1 H2 c0 c1 z1 CT
  go_wp2_with fail
  refine (good_no rb s (i + 1) (n + 1 + 1) (4, (i : Int)) _ H3.out.2 (by simp)).mono ?_
  rintro e w4 ⟨rfl, rfl⟩
  go_wp2_with fail
  refine bodyPost_ret (v := dv dat0 none 0) (by simp [results, Tryd.results23, go_sem, dv, dat0, x1, x2, x3, x4, x5, x6]) rfl ?_
  exact ⟨keep_six H3.out.1 (Nat.le_refl _) _ _ _ _ _ _, dat0, none, 0, rfl, i + 1, n + 1 + 1, hi, H3.out.2.six hN _ _ _ _ _ _⟩

set_option maxRecDepth 100000 in
set_option maxHeartbeats 1600000 in
theorem One_quote (rb : Nat) (s : ByteArray) (i n : Nat) (dp : Int) (w : World) (h : Wk rb s i n (0, 0) w) (hi : i < s.size) (hs : s.size ≤ 6000) (hn : n ≤ 1999) (hd : dp ≤ 40) (h39 : s[i] = 39) (hn2 : n + 1 ≤ 1999) (hd2 : dp ≤ 39) (hd0 : 0 ≤ dp) (r : Rd Dat) (hnm : ∀ d j m, r = .inr (d, j, m) → d.name.size ≤ 20)
    (ih : ∀ w, Wk rb s (i + 1 + skipL (s.data.toList.drop (i + 1)) false) (n + 2) (0, 0) w → Calls Tryd.prog 23 #[.pointer (some ⟨rb, 0, none⟩), .int .i64 (dp + 1)] w (OutW rb s r w)) :
    Calls Tryd.prog 23 #[.pointer (some ⟨rb, 0, none⟩), .int .i64 dp] w (OutW rb s (asQuote r) w) := by
  have e40 : ((s[i].toNat : Int) == 40) = false := by rw [h39]; rfl
  have e39 : ((s[i].toNat : Int) == 39) = true := by rw [h39]; rfl
  clear h39
  have IH : Hid (∀ w, Wk rb s (i + 1 + skipL (s.data.toList.drop (i + 1)) false) (n + 2) (0, 0) w → Calls Tryd.prog 23 #[.pointer (some ⟨rb, 0, none⟩), .int .i64 (dp + 1)] w (OutW rb s r w)) := ih
  clear ih
  have HR : Hid (Wk rb s i n (0, 0) w) := h
  have c1 := h.c1
  have l1 := h.lt
  have hN : w.heap.size ≠ rb := Nat.ne_of_gt l1
  clear h
  go_enter Tryd.func23, Tryd.ntmps23
  go_wp2_with fail
  refine (rcount_ok rb s i n dp i _ (HR.out.alloc _) hn hd).mono ?_
  rintro e w1 ⟨rfl, hk1, hr1⟩
  have H1 : Hid (Hd rb s i (n + 1) w w1) := ⟨((Keep.refl rb w).alloc _).trans hk1, hr1, (Six.made w).keep hk1 hN⟩
  clear hk1 hr1 c1 HR
  go_wp2_with fail
  refine (good_yes rb s i (n + 1) _ H1.out.wk).mono ?_
  rintro e w2 ⟨rfl, rfl⟩
  have c0 := H1.out.wk.c0
  have c1 := H1.out.wk.c1
  have z1 := H1.out.wk.z 1
  go_wp2_with fail
  refine (rcount_ok rb s (i + 1) (n + 1) (dp + 1) i _ (H1.out.wk.move (i + 1) _ (by omega)) hn2 (by omega)).mono ?_
  rintro e w3 ⟨rfl, hk3, hr3⟩
  have H3 : Hid (Hd rb s (i + 1) (n + 2) w w3) := (H1.out.move hN (i + 1) ((i : Int) + 1) (by omega)).kept hk3 hr3 hN
  clear hk3 hr3 H1 c0 c1 z1
  go_wp2_with fail
  refine (good_yes rb s (i + 1) (n + 2) _ H3.out.wk).mono ?_
  rintro e w4 ⟨rfl, rfl⟩
  go_wp2_with fail
  refine (rskip_any rb s (i + 1) (n + 2) (0, 0) _ H3.out.wk hi hs).mono ?_
  rintro e w5 ⟨rfl, hk5, hr5⟩
  have H5 : Hid (Hd rb s (i + 1 + skipL (s.data.toList.drop (i + 1)) false) (n + 2) w w5) := H3.out.kept hk5 hr5 hN
  clear hk5 hr5 H3
  go_wp2_with fail
  refine (Sym_any ⟨#[113, 117, 111, 116, 101]⟩ _).mono ?_
  rintro e w6 ⟨rfl, hb6⟩
  have H6 : Hid (Hd rb s (i + 1 + skipL (s.data.toList.drop (i + 1)) false) (n + 2) w w6) := H5.out.more hb6
  clear hb6 H5
  unfold dv
  go_wp2_with fail
  refine (IH.out _ H6.out.wk).mono ?_
  intro e w7 ho
  clear IH
  have HNM : Hid (∀ d j m, r = .inr (d, j, m) → d.name.size ≤ 20) := hnm
  clear hnm
  rcases r with x | ⟨d, j, m⟩
  · obtain ⟨hk7, d, a, cap, rfl, j, m, hj, hr7⟩ := ho
    have SY : Hid (Six w.heap.size w7) := H6.out.six.keep hk7 hN
    have H7 : Hid (Keep rb w w7 ∧ Wk rb s j m x w7) := ⟨H6.out.keep.trans hk7, hr7⟩
    clear hk7 hr7 H6
    unfold dv
    go_wp2_with fail
    refine (List_any (some ⟨w7.heap.size, 0, none⟩) 2 2 _).mono ?_
    rintro e w8 ⟨rfl, hb8⟩
    obtain ⟨x0, x1, x2, x3, x4, x5, x6, x7⟩ := (SY.out.alloc _).after hb8
    have H8 : Hid (Keep rb w w8 ∧ Wk rb s j m x w8) := ⟨(H7.out.1.alloc _).below hb8, (H7.out.2.alloc _).below hb8⟩
    clear hb8 H7 SY
    go_wp2_with fail
    refine bodyPost_ret (v := dv (datQuote d) (some ⟨w7.heap.size, 0, none⟩) 2) (by simp [results, Tryd.results23, go_sem, dv, datQuote, datList, x1, x2, x3, x4, x5, x6]) rfl ?_
    exact ⟨keep_six H8.out.1 (Nat.le_refl _) _ _ _ _ _ _, datQuote d, _, 2, rfl, j, m, hj, H8.out.2.six hN _ _ _ _ _ _⟩
  · obtain ⟨hk7, hr7, a, cap, f, rfl, hd7⟩ := ho
    have SY : Hid (Six w.heap.size w7) := H6.out.six.keep hk7 hN
    have H7 : Hid (Keep rb w w7 ∧ Wk rb s j m (0, 0) w7 ∧ Dw (New w6 w7) w7 f a d.kids) := ⟨H6.out.keep.trans hk7, hr7, hd7⟩
    have hz6 := H6.out.keep.size
    have hz7 := hk7.size
    have hN7 := H6.out.six.lt
    clear hk7 hr7 hd7 H6
    unfold dv
    go_wp2_with fail
    refine (List_any (some ⟨w7.heap.size, 0, none⟩) 2 2 _).mono ?_
    rintro e w8 ⟨rfl, hb8⟩
    obtain ⟨x0, x1, x2, x3, x4, x5, x6, x7⟩ := (SY.out.alloc _).after hb8
    have H8 : Hid (Keep rb w w8 ∧ Wk rb s j m (0, 0) w8) := ⟨(H7.out.1.alloc _).below hb8, (H7.out.2.1.alloc _).below hb8⟩
    have hz8 : w7.heap.size + 1 ≤ w8.heap.size := by have := hb8.size; simpa using this
    have HC : Hid (∀ o v, (#[.int .i64 3, .int .i64 0, .string ⟨#[113, 117, 111, 116, 101]⟩, .int .i64 0, .int .i64 0, .slice none 0 0, .int .i64 d.kind, .int .i64 d.n, .string d.name, .int .i64 d.stamp, .int .i64 d.lib, .slice a d.kids.length cap] : Array Value)[o]? = some v → w8.cell? ⟨w7.heap.size, o, none⟩ = some v) := fun o v hv => (hb8.cell (p := ⟨w7.heap.size, o, none⟩) (by simp)).trans ((World.cell?_alloc_mark w7 _ 46 (0, 0) o).trans hv)
    have HB8 : Hid (∀ k, k < w7.heap.size → w8.heap[k]? = w7.heap[k]?) := fun k hk => (hb8.block k (by simp; omega)).trans (Below.heap_alloc _ _ _ hk)
    clear hb8 SY
    go_wp2_with fail
    refine bodyPost_ret (v := dv (datQuote d) (some ⟨w7.heap.size, 0, none⟩) 2) (by simp [results, Tryd.results23, go_sem, dv, datQuote, datList, x1, x2, x3, x4, x5, x6]) rfl ?_
    have hh := six_heap w8 w.heap.size (.int .i64 4) (.int .i64 0) (.string ⟨#[]⟩) (.int .i64 0) (.int .i64 0) (.slice (some ⟨w7.heap.size, 0, none⟩) 2 2)
    refine ⟨keep_six H8.out.1 (Nat.le_refl _) _ _ _ _ _ _, H8.out.2.six hN _ _ _ _ _ _, some ⟨w7.heap.size, 0, none⟩, 2, f + 1, rfl, ?_⟩
    generalize ((((((w8.setCell ⟨w.heap.size, 0, none⟩ (.int .i64 4)).setCell ⟨w.heap.size, 1, none⟩ (.int .i64 0)).setCell ⟨w.heap.size, 2, none⟩ (.string ⟨#[]⟩)).setCell ⟨w.heap.size, 3, none⟩ (.int .i64 0)).setCell ⟨w.heap.size, 4, none⟩ (.int .i64 0)).setCell ⟨w.heap.size, 5, none⟩ (.slice (some ⟨w7.heap.size, 0, none⟩) 2 2)) = F at hh ⊢
    have hcell : ∀ o v, (#[.int .i64 3, .int .i64 0, .string ⟨#[113, 117, 111, 116, 101]⟩, .int .i64 0, .int .i64 0, .slice none 0 0, .int .i64 d.kind, .int .i64 d.n, .string d.name, .int .i64 d.stamp, .int .i64 d.lib, .slice a d.kids.length cap] : Array Value)[o]? = some v → F.cell? ⟨w7.heap.size, o, none⟩ = some v := fun o v hv => (World.cell?_of_block (hh.1 w7.heap.size (by omega))).trans (HC.out o v hv)
    refine ⟨by show (2 : Nat) ≤ 9223372036854775807; omega, Or.inr ⟨w7.heap.size, 0, rfl, ⟨by omega, by rw [hh.2]; omega⟩, ?_⟩⟩
    intro q d' hd'
    match q, hd' with
    | 0, hd' =>
      have e : datSym [113, 117, 111, 116, 101] = d' := Option.some.inj hd'
      subst e
      exact ⟨none, 0, hcell 0 _ rfl, hcell 1 _ rfl, hcell 2 _ rfl, hcell 3 _ rfl, hcell 4 _ rfl, hcell 5 _ rfl, by show (5 : Nat) ≤ maxLen; unfold maxLen; omega, Dw.nil _ _ _ _⟩
    | 1, hd' =>
      have e : d = d' := Option.some.inj hd'
      subst e
      refine ⟨a, cap, hcell 6 _ rfl, hcell 7 _ rfl, hcell 8 _ rfl, hcell 9 _ rfl, hcell 10 _ rfl, hcell 11 _ rfl, by have := HNM.out d j m rfl; unfold maxLen; omega, ?_⟩
      refine Dw.stay ?_ ?_ f _ _ H7.out.2.2
      · intro k hk
        have hk1 := hk.1
        exact (hh.1 k (by omega)).trans (HB8.out k hk.2)
      · intro k hk
        have hk1 := hk.1
        have hk2 := hk.2
        exact ⟨by omega, by rw [hh.2]; omega⟩
    | q + 2, hd' => simp [datQuote, datList] at hd'

end Go.Proofs.YtagpcafbeplccaaDoor
