/- A reader's truths. -/
import Derived.Test.YtagpcafbeplccaaDoorLe
namespace Go.Proofs.YtagpcafbeplccaaDoor
set_option linter.unusedVariables false
set_option linter.unusedSimpArgs false
open Go.RowKit

/-- What a truth that begins at i is. -/
def truthAt (t : List UInt8) (i n : Nat) : Rd Dat :=
  if t = [116] then .inr (datBool 1, i + 2, n) else if t = [102] then .inr (datBool 0, i + 2, n) else .inl (2, (i : Int))

set_option maxRecDepth 100000 in
set_option maxHeartbeats 3200000 in
theorem truth_read (rb : Nat) (s : ByteArray) (i n : Nat) (w : World) (h : Rdr rb s i n w) (hi : i < s.size) (hs : s.size ≤ 6000) :
    Calls Tryd.prog 58 #[.pointer (some ⟨rb, 0, none⟩)] w (Out rb s (truthAt (byteL (s.data.toList.drop (i + 1))) i n) w) := by
  obtain ⟨T, hT, hTs, hTi, hwa⟩ := wordAhead_from s (i + 1) hs
  rw [← hT]
  have WA : Hid (∀ w, Calls Tryd.prog 25 #[.string (s.extract (i + 1) s.size)] w fun e w' => e = .returned (.string T) ∧ w' = w) := hwa
  have c0 := h.c0
  have c1 := h.c1
  have l1 := h.lt
  have z1 := h.z1
  have HR : Hid (Rdr rb s i n w) := h
  clear h hT hwa hTi
  have tl := ByteArray.toList_eq T
  have TL : Hid (T.toList = T.data.toList) := tl
  clear tl
  by_cases t1 : T.data.toList = [116]
  · have HW : Hid (truthAt T.data.toList i n = .inr (datBool 1, i + 2, n)) := by
      show truthAt T.data.toList i n = .inr (datBool 1, i + 2, n)
      unfold truthAt
      rw [if_pos t1]
    have e1 : T = ⟨#[116]⟩ := WideShapes.bytes_inj t1
    subst e1
    clear t1 TL
    go_enter Tryd.func58, Tryd.ntmps58
    go_wp2_with fail
    go_quiet ((go_at_call 25; exact Calls.quiet_of_same (WA.out _)))
    go_wp2_with fail
    refine bodyPost_ret (v := dv (datBool 1) none 0) (by simp [results, Tryd.results58, go_sem, dv, datBool]) rfl ?_
    rw [HW.out]
    refine ⟨?_, ?_, none, 0, 0, rfl, rfl⟩
    · exact keep_six (((((((Keep.refl _ _).alloc _).alloc _).drewN _).setNew ⟨w.heap.size + 1, 1, none⟩ (Nat.le_succ _) _)).setCell ⟨rb, 1, none⟩ rfl _) (Nat.le_refl _) _ _ _ _ _ _
    · exact ((((((HR.out.alloc _).alloc _).drewN _).other ⟨w.heap.size + 1, 1, none⟩ (by simp; omega) _).move' _ _ (by omega)).six (by omega) _ _ _ _ _ _)
  · by_cases t2 : T.data.toList = [102]
    · have HW : Hid (truthAt T.data.toList i n = .inr (datBool 0, i + 2, n)) := by
        show truthAt T.data.toList i n = .inr (datBool 0, i + 2, n)
        unfold truthAt
        rw [if_neg t1, if_pos t2]
      have e1 : T = ⟨#[102]⟩ := WideShapes.bytes_inj t2
      subst e1
      clear t1 t2 TL
      go_enter Tryd.func58, Tryd.ntmps58
      go_wp2_with fail
      go_quiet ((go_at_call 25; exact Calls.quiet_of_same (WA.out _)))
      go_wp2_with fail
      refine bodyPost_ret (v := dv (datBool 0) none 0) (by simp [results, Tryd.results58, go_sem, dv, datBool]) rfl ?_
      rw [HW.out]
      refine ⟨?_, ?_, none, 0, 0, rfl, rfl⟩
      · exact keep_six (((((((Keep.refl _ _).alloc _).alloc _).drewN _).setNew ⟨w.heap.size + 1, 1, none⟩ (Nat.le_succ _) _)).setCell ⟨rb, 1, none⟩ rfl _) (Nat.le_refl _) _ _ _ _ _ _
      · exact ((((((HR.out.alloc _).alloc _).drewN _).other ⟨w.heap.size + 1, 1, none⟩ (by simp; omega) _).move' _ _ (by omega)).six (by omega) _ _ _ _ _ _)

    · have HW : Hid (truthAt T.data.toList i n = .inl (2, (i : Int))) := by
        show truthAt T.data.toList i n = .inl (2, (i : Int))
        unfold truthAt
        rw [if_neg t1, if_neg t2]
      have e1 : (T.toList == [116]) = false := by rw [TL.out]; simpa using t1
      have e2 : (T.toList == [102]) = false := by rw [TL.out]; simpa using t2
      clear t1 t2 TL
      go_enter Tryd.func58, Tryd.ntmps58
      go_wp2_with fail
      go_quiet ((go_at_call 25; exact Calls.quiet_of_same (WA.out _)))
      go_wp2_with fail
      refine (fault_any rb s i n 2 _ (((HR.out.alloc _).alloc _).drewN _)).mono ?_
      rintro e w1 ⟨rfl, hb⟩
      have hk : Keep rb w w1 := ((((Keep.refl _ _).alloc _).alloc _).drewN _).below hb
      clear hb
      go_wp2_with fail
      refine ⟨rfl, ?_⟩
      rw [HW.out]
      exact ⟨rfl, hk⟩
end Go.Proofs.YtagpcafbeplccaaDoor
