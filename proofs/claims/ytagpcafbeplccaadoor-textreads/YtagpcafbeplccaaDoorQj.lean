/- The law TextReads, walked. -/
import Derived.Test.YtagpcafbeplccaaDoorQi
namespace Go.Proofs.YtagpcafbeplccaaDoor
set_option linter.unusedVariables false
set_option linter.unusedSimpArgs false
open Go.RowKit

theorem Lies.mono {B B' : Nat} (hB : B ≤ B') {w : World} : ∀ (f : Nat) (a : Option Addr) (ds : List Dat), Lies B w f a ds → Lies B' w f a ds
  | 0, _, _, h => h
  | f + 1, a, ds, h => by
    obtain ⟨hl, h⟩ := h
    refine ⟨hl, ?_⟩
    rcases h with h | ⟨b, o, ha, hb, h⟩
    · exact Or.inl h
    · refine Or.inr ⟨b, o, ha, by omega, fun i d hd => ?_⟩
      obtain ⟨a', cap, c0, c1, c2, c3, c4, c5, hn, hk⟩ := h i d hd
      exact ⟨a', cap, c0, c1, c2, c3, c4, c5, hn, Lies.mono hB f a' _ hk⟩

/-- What both readers give, and that it is the same. -/
theorem TextReads_part (s : ByteArray) (hs : s.size ≤ maxLen) : ∃ (x1 x2 : Int) (n : Nat), ∀ w, Calls Tryd.prog 8 #[.string s] w fun e w1 => Below w.heap.size w w1 ∧ ∃ a cap, e = .returned (.tuple #[.slice a n cap, .agg #[.int .i64 x1, .int .i64 x2]]) ∧
    ∀ w2, Below w1.heap.size w1 w2 → Calls Tryd.prog 9 #[.string s] w2 fun e w3 => Below w2.heap.size w2 w3 ∧ ∃ b cap', e = .returned (.tuple #[.slice b n cap', .agg #[.int .i64 x1, .int .i64 x2]]) ∧
      ∀ w4, Below w3.heap.size w3 w4 → Calls Tryd.prog 10 #[.slice a n cap, .slice b n cap'] w4 (Yes w4) := by
  cases hr : readL s.data.toList with
  | inl x =>
    refine ⟨x.1, x.2, 0, fun w => ?_⟩
    refine (Read_no s w hs x hr).mono ?_
    rintro e w1 ⟨hb1, rfl⟩
    refine ⟨hb1, none, 0, rfl, fun w2 hb2 => ?_⟩
    refine (refRead_any s w2 hs).mono ?_
    rintro e w3 ⟨hb3, ho⟩
    rw [hr] at ho
    exact ⟨hb3, none, 0, ho, fun w4 _ => Same_none none none 0 0 w4⟩
  | inr ds =>
    refine ⟨0, 0, ds.length, fun w => ?_⟩
    refine (Read_ok s w hs ds hr).mono ?_
    rintro e w1 ⟨hb1, a, cap, f, rfl, hl⟩
    refine ⟨hb1, a, cap, rfl, fun w2 hb2 => ?_⟩
    refine (refRead_any s w2 hs).mono ?_
    rintro e w3 ⟨hb3, ho⟩
    rw [hr] at ho
    obtain ⟨b, cap', f', rfl, hd⟩ := ho
    refine ⟨hb3, b, cap', rfl, fun w4 hb4 => ?_⟩
    have h3 := hb3.size
    have h2 := hb2.size
    exact Same_any w3.heap.size f f' ds ds a b cap cap' w4 hb4.size ((Lies.mono (by omega) _ _ _ ((hl.below hb2).below (hb3.mono (by omega)))).below hb4) ((Dw.lies (fun k hk => hk.2) f' b ds hd).below hb4) (Alike.refl f a ds hl)

set_option maxRecDepth 100000 in
set_option maxHeartbeats 1600000 in
theorem TextReads_walk (s : ByteArray) (w : World) (hs : s.size ≤ maxLen) : Calls Tryd.prog 3 #[.string s] w (Yes w) := by
  obtain ⟨x1, x2, n, hp⟩ := TextReads_part s hs
  have HP : Hid _ := hp
  have NA : Hid (∀ w, Calls Tryd.prog 11 #[.string s] w fun e w' => e = .returned (.bool (namedB s)) ∧ Below w.heap.size w w') := fun w => (Named_any s hs w).mono fun e w' ⟨he, hw⟩ => ⟨he, by rw [hw]; exact Below.refl _ _⟩
  have NB : Hid (∀ w, Calls Tryd.prog 12 #[.string s] w fun e w' => e = .returned (.bool (namedB s)) ∧ Below w.heap.size w w') := fun w => refNamed_any s hs w
  generalize namedB s = nm at NA NB
  clear hp
  go_enter Tryd.func3, Tryd.ntmps3
  go_wp2_with fail
  refine (HP.out _).mono ?_
  rintro e w1 ⟨h1, a, cap, rfl, hrest⟩
  have HB1 : Hid (Below w.heap.size w w1) := h1
  have hz1 := h1.size
  have HR : Hid _ := hrest
  clear h1 hrest HP
  go_wp2_with fail
  refine (HR.out _ ((Below.refl _ _).alloc (Nat.le_refl _) _)).mono ?_
  rintro e w2 ⟨h2, b, cap', rfl, hrest⟩
  have HS : Hid _ := hrest
  have q0 : w2.cell? ⟨w1.heap.size, 0, none⟩ = some (.int .i64 x1) := box_cell h2 rfl 0
  have q1 : w2.cell? ⟨w1.heap.size, 1, none⟩ = some (.int .i64 x2) := box_cell h2 rfl 1
  have hz2 : w1.heap.size + 1 ≤ w2.heap.size := by have := h2.size; simpa using this
  have HB2 : Hid (Below w.heap.size w w2) := (HB1.out.alloc hz1 _).trans (h2.mono (by simp; omega))
  have q0' := Lib.cell?_alloc_marked (Obj.cells #[.int .i64 x1, .int .i64 x2] 25) q0
  have q1' := Lib.cell?_alloc_marked (Obj.cells #[.int .i64 x1, .int .i64 x2] 25) q1
  clear h2 hrest HR HB1
  go_wp2_with fail
  refine (HS.out _ ((Below.refl _ _).alloc (Nat.le_refl _) _)).mono ?_
  rintro e w3 ⟨rfl, h3⟩
  have HB3 : Hid (Below w.heap.size w w3) := (HB2.out.alloc (by omega) _).trans (h3.mono (by simp; omega))
  have hz3 : w.heap.size ≤ w3.heap.size := HB3.out.size
  clear h3 HS HB2 q0 q1 q0' q1'
  go_wp2_with fail
  refine (NA.out _).mono ?_
  rintro e w4 ⟨rfl, h4⟩
  have HB4 : Hid (Below w.heap.size w w4) := HB3.out.trans (h4.mono hz3)
  have hz4 : w.heap.size ≤ w4.heap.size := HB4.out.size
  clear h4 HB3 NA
  go_wp2_with fail
  refine (NB.out _).mono ?_
  rintro e w5 ⟨rfl, h5⟩
  have HB5 : Hid (Below w.heap.size w w5) := HB4.out.trans (h5.mono hz4)
  clear h5 HB4 NB
  go_wp2_with fail
  go_ret
  exact ⟨by simp, HB5.out⟩
end Go.Proofs.YtagpcafbeplccaaDoor
