/- A reader's quotes, behind which something is wrong. -/
import Derived.Test.YtagpcafbeplccaaDoorLi
import Derived.RegionDies
namespace Go.Proofs.YtagpcafbeplccaaDoor
set_option linter.unusedVariables false
set_option linter.unusedSimpArgs false
open Go.RowKit

set_option maxRecDepth 100000 in
set_option maxHeartbeats 1600000 in
theorem quote_bad (rb : Nat) (s : ByteArray) (i n : Nat) (dp : Int) (w : World) (h : Rdr rb s i n w) (hi : i < s.size) (hs : s.size ≤ 6000) (hn : n ≤ 1999) (hd0 : 1 ≤ dp) (hd : dp ≤ 39) (x : Int × Int)
    (ih : ∀ (w : World), Rdr rb s (i + 1 + skipL (s.data.toList.drop (i + 1)) false) (n + 1) w → Calls Tryd.prog 38 #[.pointer (some ⟨rb, 0, none⟩), .int .i64 (dp + 1)] w (Out rb s (.inl x) w)) :
    Calls Tryd.prog 57 #[.pointer (some ⟨rb, 0, none⟩), .int .i64 dp] w (Out rb s (.inl x) w) := by
  have IH : Hid (∀ (w : World), Rdr rb s (i + 1 + skipL (s.data.toList.drop (i + 1)) false) (n + 1) w → Calls Tryd.prog 38 #[.pointer (some ⟨rb, 0, none⟩), .int .i64 (dp + 1)] w (Out rb s (.inl x) w)) := ih
  have HR : Hid (Rdr rb s i n w) := h
  have l1 := h.lt
  clear h ih
  go_enter Tryd.func57, Tryd.ntmps57
  go_wp2_with fail
  refine (count_ok rb s i n (dp + 1) _ (HR.out.alloc _) hn (by omega)).mono ?_
  rintro e w1 ⟨rfl, hk1, hr1⟩
  have c1 := hr1.c1
  have z1 := hr1.z1
  have H1 : Hid (Keep rb w w1 ∧ Rdr rb s i (n + 1) w1) := ⟨((Keep.refl _ _).alloc _).trans hk1, hr1⟩
  clear hk1 hr1 HR
  go_wp2_with fail
  refine (skip_any rb s (i + 1) (n + 1) _ (H1.out.2.move' (i + 1) _ (by omega)) (by omega) hs).mono ?_
  rintro e w2 ⟨rfl, hk2, hr2⟩
  have H2 : Hid (Keep rb w w2 ∧ Rdr rb s (i + 1 + skipL (s.data.toList.drop (i + 1)) false) (n + 1) w2) := ⟨(H1.out.1.setCell ⟨rb, 1, none⟩ rfl _).trans hk2, hr2⟩
  clear hk2 hr2 H1 c1 z1
  go_wp2_with fail
  have hwr : IntKind.i64.wrap (dp + 1) = dp + 1 := by rw [IntKind.wrap_i64]; omega
  go_region_dies
  all_goals
    refine (IH.out _ (by exact (H2.out.2.alloc _).drew)).mono ?_
    rintro e w3 ⟨rfl, hk3⟩
    have H3 : Keep rb w w3 := ((H2.out.1.alloc _).drew).trans hk3
    clear hk3
    go_wp2_with fail
    exact ⟨rfl, rfl, H3⟩
end Go.Proofs.YtagpcafbeplccaaDoor
