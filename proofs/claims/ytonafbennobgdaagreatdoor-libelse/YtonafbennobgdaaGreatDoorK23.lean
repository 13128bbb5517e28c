/- A reader's words, on: a word, a truth. A reader's truths. Rows of data that a call makes by append. -/
import Derived.Test.YtonafbennobgdaaGreatDoorK22
namespace Go.Proofs.YtonafbennobgdaaGreatDoor
section
set_option linter.unusedVariables false
set_option linter.unusedSimpArgs false
open Go.RowKit

theorem keep_six {c N : Nat} {a b : World} (h : Keep c a b) (hN : a.heap.size ≤ N) (v0 v1 v2 v3 v4 v5 : Value) :
    Keep c a ((((((b.setCell ⟨N, 0, none⟩ v0).setCell ⟨N, 1, none⟩ v1).setCell ⟨N, 2, none⟩ v2).setCell ⟨N, 3, none⟩ v3).setCell ⟨N, 4, none⟩ v4).setCell ⟨N, 5, none⟩ v5) :=
  (((((h.setNew ⟨N, 0, none⟩ hN _).setNew ⟨N, 1, none⟩ hN _).setNew ⟨N, 2, none⟩ hN _).setNew ⟨N, 3, none⟩ hN _).setNew ⟨N, 4, none⟩ hN _).setNew ⟨N, 5, none⟩ hN _

theorem Rdr.other {rb : Nat} {s : ByteArray} {i n : Nat} {w : World} (h : Rdr rb s i n w) (p : Addr) (hp : p.block ≠ rb) (v : Value) : Rdr rb s i n (w.setCell p v) := by
  have e : ∀ q, (w.setCell p v).cell? ⟨rb, q, none⟩ = w.cell? ⟨rb, q, none⟩ := fun q => World.cell?_of_block (Below.heap_setCell _ _ _ _ (fun h => hp h.symm))
  exact ⟨by simp [World.setCell]; exact h.lt, (e _).trans h.c0, (e _).trans h.c1, (e _).trans h.c2, by rw [World.frozen?_setCell]; exact h.z1, by rw [World.frozen?_setCell]; exact h.z2⟩

theorem Rdr.six {rb N : Nat} {s : ByteArray} {i n : Nat} {w : World} (h : Rdr rb s i n w) (hN : N ≠ rb) (v0 v1 v2 v3 v4 v5 : Value) :
    Rdr rb s i n ((((((w.setCell ⟨N, 0, none⟩ v0).setCell ⟨N, 1, none⟩ v1).setCell ⟨N, 2, none⟩ v2).setCell ⟨N, 3, none⟩ v3).setCell ⟨N, 4, none⟩ v4).setCell ⟨N, 5, none⟩ v5) :=
  (((((h.other ⟨N, 0, none⟩ hN _).other ⟨N, 1, none⟩ hN _).other ⟨N, 2, none⟩ hN _).other ⟨N, 3, none⟩ hN _).other ⟨N, 4, none⟩ hN _).other ⟨N, 5, none⟩ hN _

theorem wordAhead_from (s : ByteArray) (i : Nat) (hs : s.size ≤ 6000) : ∃ T : ByteArray, T.data.toList = byteL (s.data.toList.drop i) ∧ T.size ≤ 6000 ∧ i + T.size ≤ max i s.size ∧ ∀ w, Calls Tryz.prog 49 #[.string (s.extract i s.size)] w fun e w' => e = .returned (.string T) ∧ w' = w := by
  refine ⟨(s.extract i s.size).extract 0 (wl (s.extract i s.size).data.toList), ?_, ?_, ?_, fun w => wordAhead_any _ (by rw [ByteArray.size_extract]; unfold maxLen; omega) w⟩
  · rw [ByteArray.data_extract]
    simp only [Array.toList_extract, List.extract_eq_take_drop]
    rw [drop_extract]
    simp
    exact take_takeWhile _
  · rw [ByteArray.size_extract, ByteArray.size_extract]
    omega
  · rw [ByteArray.size_extract, ByteArray.size_extract]
    omega

set_option maxRecDepth 100000 in
set_option maxHeartbeats 3200000 in
theorem word_any (rb : Nat) (s : ByteArray) (i n : Nat) (w : World) (h : Rdr rb s i n w) (hi : i < s.size) (hs : s.size ≤ 6000) :
    Calls Tryz.prog 101 #[.pointer (some ⟨rb, 0, none⟩)] w (Out rb s (wordAt (byteL (s.data.toList.drop i)) i n) w) := by
  obtain ⟨T, hT, hTs, hTi, hwa⟩ := wordAhead_from s i hs
  have hTi' : i + T.size ≤ s.size := by omega
  rw [← hT]
  have hTl : T.data.toList.length = T.size := Array.length_toList
  have HTL : Hid (T.data.toList.length = T.size) := hTl
  have WA : Hid (∀ w, Calls Tryz.prog 49 #[.string (s.extract i s.size)] w fun e w' => e = .returned (.string T) ∧ w' = w) := hwa
  obtain ⟨b, HB⟩ : ∃ b, Hid (looksB T.data.toList = b) := ⟨_, rfl⟩
  have LL : Hid (∀ w, Calls Tryz.prog 50 #[.string T] w fun e w' => e = .returned (.bool b) ∧ w' = w) := fun w => by
    have := looksLike_any T (by unfold maxLen; omega) w
    rwa [HB.out] at this
  have c0 := h.c0
  have c1 := h.c1
  have l1 := h.lt
  have HR : Hid (Rdr rb s i n w) := h
  clear h hT hwa hTl hTi
  have SIX : ∀ nq, Six w.heap.size (((w.alloc (Obj.cells #[Value.int IntKind.i64 0, Value.int IntKind.i64 0, Value.string { data := #[] }, Value.int IntKind.i64 0, Value.int IntKind.i64 0, Value.slice none 0 0] 26)).drewN nq).alloc (Obj.cells #[Value.int IntKind.i64 0, Value.int IntKind.i64 0, Value.string { data := #[] }, Value.int IntKind.i64 0, Value.int IntKind.i64 0, Value.slice none 0 0] 26)) := fun nq => ((Six.made w).after (below_drewN (Below.refl _ _) nq)).alloc _
  have SIX2 : ∀ nq, Six (w.heap.size + 1) (((w.alloc (Obj.cells #[Value.int IntKind.i64 0, Value.int IntKind.i64 0, Value.string { data := #[] }, Value.int IntKind.i64 0, Value.int IntKind.i64 0, Value.slice none 0 0] 26)).drewN nq).alloc (Obj.cells #[Value.int IntKind.i64 0, Value.int IntKind.i64 0, Value.string { data := #[] }, Value.int IntKind.i64 0, Value.int IntKind.i64 0, Value.slice none 0 0] 26)) := fun nq => by
    have := Six.made ((w.alloc (Obj.cells #[Value.int IntKind.i64 0, Value.int IntKind.i64 0, Value.string { data := #[] }, Value.int IntKind.i64 0, Value.int IntKind.i64 0, Value.slice none 0 0] 26)).drewN nq)
    have e : ((w.alloc (Obj.cells #[Value.int IntKind.i64 0, Value.int IntKind.i64 0, Value.string { data := #[] }, Value.int IntKind.i64 0, Value.int IntKind.i64 0, Value.slice none 0 0] 26)).drewN nq).heap.size = w.heap.size + 1 := by
      have : ∀ (x : World) (k : Nat), (x.drewN k).heap = x.heap := fun _ _ => rfl
      rw [this]; simp
    rwa [e] at this
  have RDR : ∀ nq, Rdr rb s i n (((w.alloc (Obj.cells #[Value.int IntKind.i64 0, Value.int IntKind.i64 0, Value.string { data := #[] }, Value.int IntKind.i64 0, Value.int IntKind.i64 0, Value.slice none 0 0] 26)).drewN nq).alloc (Obj.cells #[Value.int IntKind.i64 0, Value.int IntKind.i64 0, Value.string { data := #[] }, Value.int IntKind.i64 0, Value.int IntKind.i64 0, Value.slice none 0 0] 26)) := fun nq => ((HR.out.alloc _).drewN nq).alloc _
  have BEL : ∀ nq, Below w.heap.size w (((w.alloc (Obj.cells #[Value.int IntKind.i64 0, Value.int IntKind.i64 0, Value.string { data := #[] }, Value.int IntKind.i64 0, Value.int IntKind.i64 0, Value.slice none 0 0] 26)).drewN nq).alloc (Obj.cells #[Value.int IntKind.i64 0, Value.int IntKind.i64 0, Value.string { data := #[] }, Value.int IntKind.i64 0, Value.int IntKind.i64 0, Value.slice none 0 0] 26)) := fun nq => (below_drewN ((Below.refl _ _).alloc (Nat.le_refl _) _) nq).alloc (by have : ∀ (x : World) (k : Nat), (x.drewN k).heap = x.heap := fun _ _ => rfl; rw [this]; simp) _
  have SIXH : Hid _ := SIX
  have SIX2H : Hid _ := SIX2
  have RDRH : Hid _ := RDR
  have BELH : Hid _ := BEL
  clear SIX SIX2 RDR BEL
  cases b
  · -- a symbol
    by_cases h20 : 20 < T.size
    · have HW : Hid (wordAt T.data.toList i n = .inl (7, (i : Int))) := by
        show wordAt T.data.toList i n = .inl (7, (i : Int))
        unfold wordAt
        rw [HB.out, HTL.out, if_neg (by simp), if_pos h20]
      go_enter Tryz.func101, Tryz.ntmps101
      go_wp2_with fail
      go_quiet ((go_at_call 49; exact Calls.quiet_of_same (WA.out _)))
      go_wp2_with fail
      refine (LL.out _).mono ?_
      rintro e w2 ⟨rfl, rfl⟩
      go_wp2_with fail
      refine (symbol_long rb s i n T _ (RDRH.out _) hTs h20).mono ?_
      rintro e w3 ⟨rfl, hb3⟩
      have hbw := (BELH.out _).trans (hb3.mono (by have := (BELH.out ‹_›).size; exact this))
      clear hb3
      go_wp2_with fail
      refine ⟨rfl, ?_⟩
      rw [HW.out]
      exact ⟨rfl, (Keep.refl _ _).below hbw⟩
    · have HW : Hid (wordAt T.data.toList i n = .inr (datSym T.data.toList, i + T.size, n)) := by
        show wordAt T.data.toList i n = .inr (datSym T.data.toList, i + T.size, n)
        unfold wordAt
        rw [HB.out, HTL.out, if_neg (by simp), if_neg h20]
      have SY : Hid (∀ w, Calls Tryz.prog 122 #[.pointer (some ⟨rb, 0, none⟩), .string T] w fun e w' => e = .returned (.agg #[.int .i64 3, .int .i64 0, .string T, .int .i64 0, .int .i64 0, .slice none 0 0]) ∧ Below w.heap.size w w') := fun w => symbol_short rb T w (by omega)
      go_enter Tryz.func101, Tryz.ntmps101
      go_wp2_with fail
      go_quiet ((go_at_call 49; exact Calls.quiet_of_same (WA.out _)))
      go_wp2_with fail
      refine (LL.out _).mono ?_
      rintro e w2 ⟨rfl, rfl⟩
      go_wp2_with fail
      refine (SY.out _).mono ?_
      rintro e w3 ⟨rfl, hb3⟩
      have hbw := (BELH.out _).trans (hb3.mono (by have := (BELH.out ‹_›).size; exact this))
      obtain ⟨x0, x1, x2, x3, x4, x5, x6, x7⟩ := (SIXH.out _).after hb3
      obtain ⟨y0, y1, y2, y3, y4, y5, y6, y7⟩ := (SIX2H.out _).after hb3
      have RD : Hid (Rdr rb s i n w3) := (RDRH.out _).below hb3
      obtain ⟨r0, r1, r2, r3, r4, r5⟩ := (RDRH.out _).below hb3
      have HBW : Hid (Below w.heap.size w w3) := hbw
      clear hb3 hbw c0 c1
      go_wp2_with fail
      refine bodyPost_ret (v := dv (datSym T.data.toList) none 0) (by simp [results, Tryz.results101, go_sem, dv, datSym, datNum, x1, x2, x3, x4, x5, x6]) rfl ?_
      rw [HW.out]
      refine ⟨?_, ?_, none, 0, 0, rfl, rfl⟩
      · exact keep_six ((keep_six ((Keep.refl _ _).below HBW.out) (Nat.le_succ _) _ _ _ _ _ _).setCell ⟨rb, 1, none⟩ rfl _) (Nat.le_refl _) _ _ _ _ _ _
      · exact (((RD.out.six (by omega) _ _ _ _ _ _).move' _ _ (by omega)).six (by omega) _ _ _ _ _ _)
  · -- a number
    by_cases h17 : 17 < T.size
    · have HW : Hid (wordAt T.data.toList i n = .inl (3, (i : Int))) := by
        show wordAt T.data.toList i n = .inl (3, (i : Int))
        unfold wordAt
        rw [HB.out, HTL.out, if_pos rfl, if_pos h17]
      go_enter Tryz.func101, Tryz.ntmps101
      go_wp2_with fail
      go_quiet ((go_at_call 49; exact Calls.quiet_of_same (WA.out _)))
      go_wp2_with fail
      refine (LL.out _).mono ?_
      rintro e w2 ⟨rfl, rfl⟩
      go_wp2_with fail
      refine (number_long rb s i n T _ (RDRH.out _) hTs h17).mono ?_
      rintro e w3 ⟨rfl, hb3⟩
      have hbw := (BELH.out _).trans (hb3.mono (by have := (BELH.out ‹_›).size; exact this))
      clear hb3
      go_wp2_with fail
      refine ⟨rfl, ?_⟩
      rw [HW.out]
      exact ⟨rfl, (Keep.refl _ _).below hbw⟩
    · have NU : Hid (∀ w, Rdr rb s i n w → Calls Tryz.prog 121 #[.pointer (some ⟨rb, 0, none⟩), .string T] w fun e w' => (if rangeB (numOf T.data.toList) then e = .returned (.agg #[.int .i64 1, .int .i64 (numOf T.data.toList), .string ⟨#[]⟩, .int .i64 0, .int .i64 0, .slice none 0 0]) else e = .panicked (thrown (3, (i : Int)))) ∧ Below w.heap.size w w') := fun w hr => number_short rb s i n T w hr (by omega) HB.out
      obtain ⟨b2, HB2⟩ : ∃ b2, Hid (rangeB (numOf T.data.toList) = b2) := ⟨_, rfl⟩
      rw [HB2.out] at NU
      cases b2
      · have HW : Hid (wordAt T.data.toList i n = .inl (3, (i : Int))) := by
          show wordAt T.data.toList i n = .inl (3, (i : Int))
          unfold wordAt
          rw [HB.out, HTL.out, if_pos rfl, if_neg h17, HB2.out, if_neg (by simp)]
        simp only [Bool.false_eq_true, if_false] at NU
        go_enter Tryz.func101, Tryz.ntmps101
        go_wp2_with fail
        go_quiet ((go_at_call 49; exact Calls.quiet_of_same (WA.out _)))
        go_wp2_with fail
        refine (LL.out _).mono ?_
        rintro e w2 ⟨rfl, rfl⟩
        go_wp2_with fail
        refine (NU.out _ (RDRH.out _)).mono ?_
        rintro e w3 ⟨rfl, hb3⟩
        have hbw := (BELH.out _).trans (hb3.mono (by have := (BELH.out ‹_›).size; exact this))
        clear hb3
        go_wp2_with fail
        refine ⟨rfl, ?_⟩
        rw [HW.out]
        exact ⟨rfl, (Keep.refl _ _).below hbw⟩
      · have HW : Hid (wordAt T.data.toList i n = .inr (datNum (numOf T.data.toList), i + T.size, n)) := by
          show wordAt T.data.toList i n = .inr (datNum (numOf T.data.toList), i + T.size, n)
          unfold wordAt
          rw [HB.out, HTL.out, if_pos rfl, if_neg h17, HB2.out, if_pos rfl]
        simp only [if_true] at NU
        generalize numOf T.data.toList = v at NU HW HB2
        go_enter Tryz.func101, Tryz.ntmps101
        go_wp2_with fail
        go_quiet ((go_at_call 49; exact Calls.quiet_of_same (WA.out _)))
        go_wp2_with fail
        refine (LL.out _).mono ?_
        rintro e w2 ⟨rfl, rfl⟩
        go_wp2_with fail
        refine (NU.out _ (RDRH.out _)).mono ?_
        rintro e w3 ⟨rfl, hb3⟩
        have hbw := (BELH.out _).trans (hb3.mono (by have := (BELH.out ‹_›).size; exact this))
        obtain ⟨x0, x1, x2, x3, x4, x5, x6, x7⟩ := (SIXH.out _).after hb3
        obtain ⟨y0, y1, y2, y3, y4, y5, y6, y7⟩ := (SIX2H.out _).after hb3
        have RD : Hid (Rdr rb s i n w3) := (RDRH.out _).below hb3
        obtain ⟨r0, r1, r2, r3, r4, r5⟩ := (RDRH.out _).below hb3
        have HBW : Hid (Below w.heap.size w w3) := hbw
        clear hb3 hbw c0 c1
        go_wp2_with fail
        refine bodyPost_ret (v := dv (datNum v) none 0) (by simp [results, Tryz.results101, go_sem, dv, datSym, datNum, x1, x2, x3, x4, x5, x6]) rfl ?_
        rw [HW.out]
        refine ⟨?_, ?_, none, 0, 0, rfl, rfl⟩
        · exact keep_six ((keep_six ((Keep.refl _ _).below HBW.out) (Nat.le_succ _) _ _ _ _ _ _).setCell ⟨rb, 1, none⟩ rfl _) (Nat.le_refl _) _ _ _ _ _ _
        · exact (((RD.out.six (by omega) _ _ _ _ _ _).move' _ _ (by omega)).six (by omega) _ _ _ _ _ _)
end
section
set_option linter.unusedVariables false
set_option linter.unusedSimpArgs false
open Go.RowKit

def truthAt (t : List UInt8) (i n : Nat) : Rd Dat :=
  if t = [116] then .inr (datBool 1, i + 2, n) else if t = [102] then .inr (datBool 0, i + 2, n) else .inl (2, (i : Int))

set_option maxRecDepth 100000 in
set_option maxHeartbeats 3200000 in
theorem truth_read (rb : Nat) (s : ByteArray) (i n : Nat) (w : World) (h : Rdr rb s i n w) (hi : i < s.size) (hs : s.size ≤ 6000) :
    Calls Tryz.prog 100 #[.pointer (some ⟨rb, 0, none⟩)] w (Out rb s (truthAt (byteL (s.data.toList.drop (i + 1))) i n) w) := by
  obtain ⟨T, hT, hTs, hTi, hwa⟩ := wordAhead_from s (i + 1) hs
  rw [← hT]
  have WA : Hid (∀ w, Calls Tryz.prog 49 #[.string (s.extract (i + 1) s.size)] w fun e w' => e = .returned (.string T) ∧ w' = w) := hwa
  have c0 := h.c0
  have c1 := h.c1
  have l1 := h.lt
  have z1 := h.z1
  have HR : Hid (Rdr rb s i n w) := h
  clear h hT hwa hTi
  have tl := ByteArray.toList_eq T
  have TL : Hid (T.toList = T.data.toList) := tl
  clear tl
  by_cases t1 : T.data.toList = [116]
  · have HW : Hid (truthAt T.data.toList i n = .inr (datBool 1, i + 2, n)) := by
      show truthAt T.data.toList i n = .inr (datBool 1, i + 2, n)
      unfold truthAt
      rw [if_pos t1]
    have e1 : T = ⟨#[116]⟩ := WideShapes.bytes_inj t1
    subst e1
    clear t1 TL
    go_enter Tryz.func100, Tryz.ntmps100
    go_wp2_with fail
    go_quiet ((go_at_call 49; exact Calls.quiet_of_same (WA.out _)))
    go_wp2_with fail
    refine bodyPost_ret (v := dv (datBool 1) none 0) (by simp [results, Tryz.results100, go_sem, dv, datBool]) rfl ?_
    rw [HW.out]
    refine ⟨?_, ?_, none, 0, 0, rfl, rfl⟩
    · exact keep_six (((((((Keep.refl _ _).alloc _).alloc _).drewN _).setNew ⟨w.heap.size + 1, 1, none⟩ (Nat.le_succ _) _)).setCell ⟨rb, 1, none⟩ rfl _) (Nat.le_refl _) _ _ _ _ _ _
    · exact ((((((HR.out.alloc _).alloc _).drewN _).other ⟨w.heap.size + 1, 1, none⟩ (by simp; omega) _).move' _ _ (by omega)).six (by omega) _ _ _ _ _ _)
  · by_cases t2 : T.data.toList = [102]
    · have HW : Hid (truthAt T.data.toList i n = .inr (datBool 0, i + 2, n)) := by
        show truthAt T.data.toList i n = .inr (datBool 0, i + 2, n)
        unfold truthAt
        rw [if_neg t1, if_pos t2]
      have e1 : T = ⟨#[102]⟩ := WideShapes.bytes_inj t2
      subst e1
      clear t1 t2 TL
      go_enter Tryz.func100, Tryz.ntmps100
      go_wp2_with fail
      go_quiet ((go_at_call 49; exact Calls.quiet_of_same (WA.out _)))
      go_wp2_with fail
      refine bodyPost_ret (v := dv (datBool 0) none 0) (by simp [results, Tryz.results100, go_sem, dv, datBool]) rfl ?_
      rw [HW.out]
      refine ⟨?_, ?_, none, 0, 0, rfl, rfl⟩
      · exact keep_six (((((((Keep.refl _ _).alloc _).alloc _).drewN _).setNew ⟨w.heap.size + 1, 1, none⟩ (Nat.le_succ _) _)).setCell ⟨rb, 1, none⟩ rfl _) (Nat.le_refl _) _ _ _ _ _ _
      · exact ((((((HR.out.alloc _).alloc _).drewN _).other ⟨w.heap.size + 1, 1, none⟩ (by simp; omega) _).move' _ _ (by omega)).six (by omega) _ _ _ _ _ _)

    · have HW : Hid (truthAt T.data.toList i n = .inl (2, (i : Int))) := by
        show truthAt T.data.toList i n = .inl (2, (i : Int))
        unfold truthAt
        rw [if_neg t1, if_neg t2]
      have e1 : (T.toList == [116]) = false := by rw [TL.out]; simpa using t1
      have e2 : (T.toList == [102]) = false := by rw [TL.out]; simpa using t2
      clear t1 t2 TL
      go_enter Tryz.func100, Tryz.ntmps100
      go_wp2_with fail
      go_quiet ((go_at_call 49; exact Calls.quiet_of_same (WA.out _)))
      go_wp2_with fail
      refine (fault_any rb s i n 2 _ (((HR.out.alloc _).alloc _).drewN _)).mono ?_
      rintro e w1 ⟨rfl, hb⟩
      have hk : Keep rb w w1 := ((((Keep.refl _ _).alloc _).alloc _).drewN _).below hb
      clear hb
      go_wp2_with fail
      refine ⟨rfl, ?_⟩
      rw [HW.out]
      exact ⟨rfl, hk⟩
end
section
set_option linter.unusedVariables false
set_option linter.unusedSimpArgs false
open Go.RowKit

theorem run_append_whereT {P : Program} (w : World) (base : Nat) (t ty e : TypeId) (i : TypeInfo) (z : Value) (size bytes : Nat) (ht : P.underlying t = some (.slice e)) (hi : P.info? e = some i) (hz : i.zero = some z)
    (hsize : i.size = size) (hby : i.bytes = bytes) (hzs : z.cells.size = size) (hsz : 0 < size)
    (v : Value) (n : Nat) (xs : List Value) (hown : w.ownsRow base e size v n xs)
    (a : Addr) (m c : Nat) (news : List Value) (hl : news.length = m * size) (hnews : ∀ j u, news[j]? = some u → w.cell? (a.add j) = some u) (h1 : ∀ u ∈ news, u.oneCell' = true) (hm0 : 0 < m)
    (h63 : n + m ≤ maxLen) (hbytes : (n + m) * bytes ≤ 140737488355328) (hbase : base ≤ w.heap.size) :
    ∃ v' w', (Builtin.append_ #[t, t] ty #[v, .slice (some a) m c]).run P w = .ok v' w' ∧ w'.ownsRow base e size v' (n + m) (xs ++ news) ∧ w.grownBy w' v.ownBlock ∧ (v'.ownBlock = v.ownBlock ∨ v'.ownBlock = some w.heap.size) := by
  obtain ⟨v', w', hr, h2, h3, _⟩ := run_append_own (P := P) w base t ty e i z size bytes ht hi hz hsize hby hzs hsz v n xs hown a m c news hl hnews h1 h63 hbytes hbase
  refine ⟨v', w', hr, h2, h3, ?_⟩
  subst hsize
  subst hby
  have hsmall : n + m ≤ 9223372036854775807 := by simp only [maxLen] at h63; omega
  rcases hown.2 with ⟨rfl, rfl⟩ | ⟨g, cap, cur, rfl, hbg, hg, hnc, hcm, hcs, htake⟩
  · have hr2 := run_append_nil (P := P) w t ty e i z ht hi hz a m c news hl hnews hm0 (by omega) (by have hb := hbytes; simp only [Nat.zero_add] at hb; omega)
    rw [hr] at hr2
    obtain ⟨rfl, _⟩ := Result.ok.inj hr2
    exact Or.inr rfl
  · by_cases hroom : n + m ≤ cap
    · have hfit : n * i.size + news.length ≤ cur.size := by rw [hl, hcs, ← Nat.add_mul]; exact Nat.mul_le_mul_right _ hroom
      have hr2 := run_append_room (P := P) w t ty e i ht hi g n cap cur hg a m c news hl hnews h1 hroom hfit
      rw [hr] at hr2
      obtain ⟨rfl, _⟩ := Result.ok.inj hr2
      exact Or.inl rfl
    · have holds : ∀ j u, xs[j]? = some u → w.cell? ((⟨g, 0, none⟩ : Addr).add j) = some u := hown.cells (g := g) rfl
      have hr2 := run_append_grow (P := P) w t ty e i z ht hi hz ⟨g, 0, none⟩ n cap xs hown.1 holds a m c news hl hnews (by omega) (by omega) (growslice_fits (by omega) hbytes)
      rw [hr] at hr2
      obtain ⟨rfl, _⟩ := Result.ok.inj hr2
      exact Or.inr rfl

theorem wpList_append_whereT {P : Program} {w : World} {ops : Array Oper} {rest : List Oper} {o : Oper} {a : Act} {Q : Exit → Act → World → Prop} (hgd : o.guard = none) (s x : Operand) (t : TypeId)
    (ho : o.op = .call { callee := .builtin .append, args := #[s, x], argTypes := #[t, t] })
    (base : Nat) (e : TypeId) (i : TypeInfo) (z : Value) (size bytes : Nat) (ht : P.underlying t = some (.slice e)) (hi : P.info? e = some i) (hz : i.zero = some z)
    (hsize : i.size = size) (hby : i.bytes = bytes) (hzs : z.cells.size = size) (hsz : 0 < size)
    (v : Value) (n : Nat) (xs : List Value) (hs : a.eval s = v) (hown : w.ownsRow base e size v n xs)
    (ad : Addr) (m c : Nat) (news : List Value) (hx : a.eval x = .slice (some ad) m c) (hl : news.length = m * size) (hnews : ∀ j u, news[j]? = some u → w.cell? (ad.add j) = some u) (h1 : ∀ u ∈ news, u.oneCell' = true) (hm0 : 0 < m)
    (h63 : n + m ≤ maxLen) (hbytes : (n + m) * bytes ≤ 140737488355328) (hbase : base ≤ w.heap.size)
    (h : ∀ v' w', w'.ownsRow base e size v' (n + m) (xs ++ news) → w.grownBy w' v.ownBlock → (v'.ownBlock = v.ownBlock ∨ v'.ownBlock = some w.heap.size) → wpList P ops Q rest (a.put o.dst v') w') : wpList P ops Q (o :: rest) a w := by
  refine wpList_plain hgd fun _ hK => ?_
  obtain ⟨v', w', hr, h2, h3, h4⟩ := run_append_whereT (P := P) w base t o.type e i z size bytes ht hi hz hsize hby hzs hsz v n xs hown ad m c news hl hnews h1 hm0 h63 hbytes hbase
  unfold Oper.wp execOp
  simp only [ho, resolve, invoke, builtin, Sem.run_bind, Sem.run_pure, Result.andThen_ok, List.map_toArray, List.map_cons, List.map_nil, hs, hx, hr]
  exact hK _ _ (h v' w' h2 h3 h4)

def flatT (es : List (Dat × Option Addr × Nat)) : List Value := es.flatMap fun e => [.int .i64 e.1.kind, .int .i64 e.1.n, .string e.1.name, .int .i64 e.1.stamp, .int .i64 e.1.lib, .slice e.2.1 e.1.kids.length e.2.2]

structure Row (B : Nat) (v : Value) (es : List (Dat × Option Addr × Nat)) (w : World) : Prop where
  own : w.ownsRow B 26 6 v es.length (flatT es)
  kids : ∀ e ∈ es, e.1.name.size ≤ maxLen ∧ ∃ f, Dw (fun b => B ≤ b ∧ b < w.heap.size ∧ some b ≠ v.ownBlock) w f e.2.1 e.2.2 e.1.kids

theorem Row.nil (B : Nat) (w : World) : Row B (.slice none 0 0) [] w := ⟨World.ownsRow_nil _ _ _ _, by simp⟩

theorem Row.keep {B rb : Nat} {v : Value} {es : List (Dat × Option Addr × Nat)} {w w' : World} (h : Row B v es w) (hk : Keep rb w w') (hrb : rb < B) : Row B v es w' := by
  refine ⟨h.own.kept hk ?_, fun e he => ?_⟩
  · cases hv : v.ownBlock with
    | none => exact Or.inl rfl
    | some k =>
      have := (h.own.lt k hv).1
      refine Or.inr ?_
      intro e
      have := Option.some.inj e
      omega
  · obtain ⟨hn, f, hd⟩ := h.kids e he
    refine ⟨hn, f, Dw.stay ?_ ?_ f _ _ _ hd⟩
    · intro k hk2
      exact hk.block k hk2.2.1 (by simp; omega)
    · intro k hk2
      exact ⟨hk2.1, Nat.lt_of_lt_of_le hk2.2.1 hk.size, hk2.2.2⟩

theorem Row.below {B : Nat} {v : Value} {es : List (Dat × Option Addr × Nat)} {w w' : World} (h : Row B v es w) (hk : Below w.heap.size w w') : Row B v es w' := by
  refine ⟨h.own.kept (row := none) ⟨hk.os, hk.tape, hk.output, hk.size, fun k h1 _ => hk.block k h1⟩ (by cases hv : v.ownBlock <;> simp), fun e he => ?_⟩
  obtain ⟨hn, f, hd⟩ := h.kids e he
  refine ⟨hn, f, Dw.stay ?_ ?_ f _ _ _ hd⟩
  · intro k hk2
    exact hk.block k hk2.2.1
  · intro k hk2
    exact ⟨hk2.1, Nat.lt_of_lt_of_le hk2.2.1 hk.size, hk2.2.2⟩

theorem Row.push {B : Nat} {v v' : Value} {es : List (Dat × Option Addr × Nat)} {wr w w' : World} (o : Obj) {d : Dat} {a : Option Addr} {cap f : Nat} (h : Row B v es w) (hB : B ≤ wr.heap.size) (hv : ∀ k, v.ownBlock = some k → k < wr.heap.size)
    (hd : Dw (NewT wr w) w f a cap d.kids) (hn : d.name.size ≤ maxLen)
    (hown : w'.ownsRow B 26 6 v' (es.length + 1) (flatT es ++ [.int .i64 d.kind, .int .i64 d.n, .string d.name, .int .i64 d.stamp, .int .i64 d.lib, .slice a d.kids.length cap]))
    (hg : (w.alloc o).grownBy w' v.ownBlock) (hw : v'.ownBlock = v.ownBlock ∨ v'.ownBlock = some (w.heap.size + 1)) : Row B v' (es ++ [(d, a, cap)]) w' := by
  have hsz : (w.alloc o).heap.size = w.heap.size + 1 := by simp
  have hold : ∀ k, k < w.heap.size → some k ≠ v.ownBlock → w'.heap[k]? = w.heap[k]? := fun k hk hne => (hg.block k (by omega) hne).trans (Below.heap_alloc _ _ _ hk)
  have hnew : ∀ k, k < w.heap.size → some k ≠ v.ownBlock → some k ≠ v'.ownBlock := by
    intro k hk hne
    rcases hw with e | e
    · rw [e]; exact hne
    · rw [e]
      intro e2
      have := Option.some.inj e2
      omega
  have hle : w.heap.size ≤ w'.heap.size := Nat.le_trans (by omega) hg.size
  refine ⟨?_, fun e he => ?_⟩
  · have e1 : flatT (es ++ [(d, a, cap)]) = flatT es ++ [.int .i64 d.kind, .int .i64 d.n, .string d.name, .int .i64 d.stamp, .int .i64 d.lib, .slice a d.kids.length cap] := by simp [flatT]
    rw [e1, List.length_append]
    exact hown
  · rcases List.mem_append.1 he with he | he
    · obtain ⟨hn, f, hd⟩ := h.kids e he
      refine ⟨hn, f, Dw.stay (fun k hk => hold k hk.2.1 hk.2.2) (fun k hk => ⟨hk.1, Nat.lt_of_lt_of_le hk.2.1 hle, hnew k hk.2.1 hk.2.2⟩) f _ _ _ hd⟩
    · simp at he
      subst he
      have hne : ∀ k, NewT wr w k → some k ≠ v.ownBlock := by
        intro k hk e
        have := hv k e.symm
        have := hk.1
        omega
      exact ⟨hn, f, Dw.stay (fun k hk => hold k hk.2 (hne k hk)) (fun k hk => ⟨by have := hk.1; omega, Nat.lt_of_lt_of_le hk.2 hle, hnew k hk.2 (hne k hk)⟩) f _ _ _ hd⟩

theorem Row.lie {B : Nat} {v : Value} {es : List (Dat × Option Addr × Nat)} {w : World} (h : Row B v es w) (hlen : es.length ≤ 9223372036854775807) : ∃ a cap f, v = .slice a (es.map (·.1)).length cap ∧ Dw (fun b => B ≤ b ∧ b < w.heap.size) w f a cap (es.map (·.1)) := by
  -- one depth for all
  have hfuel : ∃ F, ∀ e ∈ es, Dw (fun b => B ≤ b ∧ b < w.heap.size) w F e.2.1 e.2.2 e.1.kids := by
    have aux : ∀ (l : List (Dat × Option Addr × Nat)), (∀ e ∈ l, ∃ f, Dw (fun b => B ≤ b ∧ b < w.heap.size) w f e.2.1 e.2.2 e.1.kids) → ∃ F, ∀ e ∈ l, Dw (fun b => B ≤ b ∧ b < w.heap.size) w F e.2.1 e.2.2 e.1.kids := by
      intro l
      induction l with
      | nil => exact fun _ => ⟨0, by simp⟩
      | cons x r ih =>
        intro hx
        obtain ⟨F, hF⟩ := ih (fun e he => hx e (List.mem_cons_of_mem _ he))
        obtain ⟨f, hf⟩ := hx x (by simp)
        refine ⟨f + F, fun e he => ?_⟩
        rcases List.mem_cons.1 he with rfl | he
        · exact hf.upto F
        · have := (hF e he).upto f
          rwa [Nat.add_comm] at this
    refine aux es (fun e he => ?_)
    obtain ⟨_, f, hd⟩ := h.kids e he
    exact ⟨f, Dw.stay (fun _ _ => rfl) (fun k hk => ⟨hk.1, hk.2.1⟩) f _ _ _ hd⟩
  obtain ⟨F, hF⟩ := hfuel
  rcases h.own.2 with ⟨rfl, h0⟩ | ⟨g, cap, cur, rfl, hbg, hg, hnc, hcm, hcs, htake⟩
  · have : es = [] := List.length_eq_zero_iff.1 h0
    subst this
    exact ⟨none, 0, 0, rfl, rfl⟩
  · refine ⟨some ⟨g, 0, none⟩, cap, F + 1, by simp, ?_⟩
    refine ⟨⟨by simp; exact hlen, by simpa using hnc⟩, ?_⟩
    refine Or.inr ⟨g, 0, rfl, ⟨hbg, (Array.getElem?_eq_some_iff.1 hg).1⟩, ?_⟩
    intro i d hd
    rw [List.getElem?_map] at hd
    obtain ⟨e, he, rfl⟩ := Option.map_eq_some_iff.1 hd
    have hmem : e ∈ es := List.mem_of_getElem? he
    have hcell : ∀ j u, (flatT es)[j]? = some u → w.cell? ⟨g, j, none⟩ = some u := by
      intro j u hu
      have := h.own.cells (g := g) rfl j u hu
      have hadd : (⟨g, 0, none⟩ : Addr).add j = ⟨g, j, none⟩ := by unfold Addr.add; split <;> simp_all
      rwa [hadd] at this
    have hflat : ∀ k, k < 6 → (flatT es)[i * 6 + k]? = [Value.int .i64 e.1.kind, .int .i64 e.1.n, .string e.1.name, .int .i64 e.1.stamp, .int .i64 e.1.lib, .slice e.2.1 e.1.kids.length e.2.2][k]? := by
      have aux : ∀ (l : List (Dat × Option Addr × Nat)) (i : Nat), l[i]? = some e → ∀ k, k < 6 → (flatT l)[i * 6 + k]? = [Value.int .i64 e.1.kind, .int .i64 e.1.n, .string e.1.name, .int .i64 e.1.stamp, .int .i64 e.1.lib, .slice e.2.1 e.1.kids.length e.2.2][k]? := by
        intro l
        induction l with
        | nil => intro i hi; simp at hi
        | cons x r ih =>
          intro i hi k hk
          have e1 : flatT (x :: r) = [Value.int .i64 x.1.kind, .int .i64 x.1.n, .string x.1.name, .int .i64 x.1.stamp, .int .i64 x.1.lib, .slice x.2.1 x.1.kids.length x.2.2] ++ flatT r := by simp [flatT]
          rw [e1]
          cases i with
          | zero =>
            simp at hi
            subst hi
            rw [List.getElem?_append_left (by simp; omega)]
            simp
          | succ i =>
            rw [List.getElem?_append_right (by simp; omega)]
            have := ih i (by simpa using hi) k hk
            rw [← this]
            congr 1
            simp
            omega
      exact aux es i he
    refine ⟨e.2.1, e.2.2, ?_, ?_, ?_, ?_, ?_, ?_, (h.kids e hmem).1, hF e hmem⟩
    all_goals rw [Nat.zero_add]
    · exact hcell _ _ (hflat 0 (by decide))
    · exact hcell _ _ (hflat 1 (by decide))
    · exact hcell _ _ (hflat 2 (by decide))
    · exact hcell _ _ (hflat 3 (by decide))
    · exact hcell _ _ (hflat 4 (by decide))
    · exact hcell _ _ (hflat 5 (by decide))
end
end Go.Proofs.YtonafbennobgdaaGreatDoor
