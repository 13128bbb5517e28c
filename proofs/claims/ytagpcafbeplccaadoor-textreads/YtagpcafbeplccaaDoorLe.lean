/- A reader's words, on: a word, a truth. -/
import Derived.Test.YtagpcafbeplccaaDoorLd
namespace Go.Proofs.YtagpcafbeplccaaDoor
set_option linter.unusedVariables false
set_option linter.unusedSimpArgs false
open Go.RowKit

theorem keep_six {c N : Nat} {a b : World} (h : Keep c a b) (hN : a.heap.size ≤ N) (v0 v1 v2 v3 v4 v5 : Value) :
    Keep c a ((((((b.setCell ⟨N, 0, none⟩ v0).setCell ⟨N, 1, none⟩ v1).setCell ⟨N, 2, none⟩ v2).setCell ⟨N, 3, none⟩ v3).setCell ⟨N, 4, none⟩ v4).setCell ⟨N, 5, none⟩ v5) :=
  (((((h.setNew ⟨N, 0, none⟩ hN _).setNew ⟨N, 1, none⟩ hN _).setNew ⟨N, 2, none⟩ hN _).setNew ⟨N, 3, none⟩ hN _).setNew ⟨N, 4, none⟩ hN _).setNew ⟨N, 5, none⟩ hN _

theorem Rdr.other {rb : Nat} {s : ByteArray} {i n : Nat} {w : World} (h : Rdr rb s i n w) (p : Addr) (hp : p.block ≠ rb) (v : Value) : Rdr rb s i n (w.setCell p v) := by
  have e : ∀ q, (w.setCell p v).cell? ⟨rb, q, none⟩ = w.cell? ⟨rb, q, none⟩ := fun q => World.cell?_of_block (Below.heap_setCell _ _ _ _ (fun h => hp h.symm))
  exact ⟨by simp [World.setCell]; exact h.lt, (e _).trans h.c0, (e _).trans h.c1, (e _).trans h.c2, by rw [World.frozen?_setCell]; exact h.z1, by rw [World.frozen?_setCell]; exact h.z2⟩

theorem Rdr.six {rb N : Nat} {s : ByteArray} {i n : Nat} {w : World} (h : Rdr rb s i n w) (hN : N ≠ rb) (v0 v1 v2 v3 v4 v5 : Value) :
    Rdr rb s i n ((((((w.setCell ⟨N, 0, none⟩ v0).setCell ⟨N, 1, none⟩ v1).setCell ⟨N, 2, none⟩ v2).setCell ⟨N, 3, none⟩ v3).setCell ⟨N, 4, none⟩ v4).setCell ⟨N, 5, none⟩ v5) :=
  (((((h.other ⟨N, 0, none⟩ hN _).other ⟨N, 1, none⟩ hN _).other ⟨N, 2, none⟩ hN _).other ⟨N, 3, none⟩ hN _).other ⟨N, 4, none⟩ hN _).other ⟨N, 5, none⟩ hN _

theorem wordAhead_from (s : ByteArray) (i : Nat) (hs : s.size ≤ 6000) : ∃ T : ByteArray, T.data.toList = byteL (s.data.toList.drop i) ∧ T.size ≤ 6000 ∧ i + T.size ≤ max i s.size ∧ ∀ w, Calls Tryd.prog 25 #[.string (s.extract i s.size)] w fun e w' => e = .returned (.string T) ∧ w' = w := by
  refine ⟨(s.extract i s.size).extract 0 (wl (s.extract i s.size).data.toList), ?_, ?_, ?_, fun w => wordAhead_any _ (by rw [ByteArray.size_extract]; unfold maxLen; omega) w⟩
  · rw [ByteArray.data_extract]
    simp only [Array.toList_extract, List.extract_eq_take_drop]
    rw [drop_extract]
    simp
    exact take_takeWhile _
  · rw [ByteArray.size_extract, ByteArray.size_extract]
    omega
  · rw [ByteArray.size_extract, ByteArray.size_extract]
    omega

set_option maxRecDepth 100000 in
set_option maxHeartbeats 3200000 in
theorem word_any (rb : Nat) (s : ByteArray) (i n : Nat) (w : World) (h : Rdr rb s i n w) (hi : i < s.size) (hs : s.size ≤ 6000) :
    Calls Tryd.prog 59 #[.pointer (some ⟨rb, 0, none⟩)] w (Out rb s (wordAt (byteL (s.data.toList.drop i)) i n) w) := by
  obtain ⟨T, hT, hTs, hTi, hwa⟩ := wordAhead_from s i hs
  have hTi' : i + T.size ≤ s.size := by omega
  rw [← hT]
  have hTl : T.data.toList.length = T.size := Array.length_toList
  have HTL : Hid (T.data.toList.length = T.size) := hTl
  have WA : Hid (∀ w, Calls Tryd.prog 25 #[.string (s.extract i s.size)] w fun e w' => e = .returned (.string T) ∧ w' = w) := hwa
  obtain ⟨b, HB⟩ : ∃ b, Hid (looksB T.data.toList = b) := ⟨_, rfl⟩
  have LL : Hid (∀ w, Calls Tryd.prog 26 #[.string T] w fun e w' => e = .returned (.bool b) ∧ w' = w) := fun w => by
    have := looksLike_any T (by unfold maxLen; omega) w
    rwa [HB.out] at this
  have c0 := h.c0
  have c1 := h.c1
  have l1 := h.lt
  have HR : Hid (Rdr rb s i n w) := h
  clear h hT hwa hTl hTi
  have SIX : ∀ nq, Six w.heap.size (((w.alloc (Obj.cells #[Value.int IntKind.i64 0, Value.int IntKind.i64 0, Value.string { data := #[] }, Value.int IntKind.i64 0, Value.int IntKind.i64 0, Value.slice none 0 0] 46)).drewN nq).alloc (Obj.cells #[Value.int IntKind.i64 0, Value.int IntKind.i64 0, Value.string { data := #[] }, Value.int IntKind.i64 0, Value.int IntKind.i64 0, Value.slice none 0 0] 46)) := fun nq => ((Six.made w).after (below_drewN (Below.refl _ _) nq)).alloc _
  have SIX2 : ∀ nq, Six (w.heap.size + 1) (((w.alloc (Obj.cells #[Value.int IntKind.i64 0, Value.int IntKind.i64 0, Value.string { data := #[] }, Value.int IntKind.i64 0, Value.int IntKind.i64 0, Value.slice none 0 0] 46)).drewN nq).alloc (Obj.cells #[Value.int IntKind.i64 0, Value.int IntKind.i64 0, Value.string { data := #[] }, Value.int IntKind.i64 0, Value.int IntKind.i64 0, Value.slice none 0 0] 46)) := fun nq => by
    have := Six.made ((w.alloc (Obj.cells #[Value.int IntKind.i64 0, Value.int IntKind.i64 0, Value.string { data := #[] }, Value.int IntKind.i64 0, Value.int IntKind.i64 0, Value.slice none 0 0] 46)).drewN nq)
    have e : ((w.alloc (Obj.cells #[Value.int IntKind.i64 0, Value.int IntKind.i64 0, Value.string { data := #[] }, Value.int IntKind.i64 0, Value.int IntKind.i64 0, Value.slice none 0 0] 46)).drewN nq).heap.size = w.heap.size + 1 := by
      have : ∀ (x : World) (k : Nat), (x.drewN k).heap = x.heap := fun _ _ => rfl
      rw [this]; simp
    rwa [e] at this
  have RDR : ∀ nq, Rdr rb s i n (((w.alloc (Obj.cells #[Value.int IntKind.i64 0, Value.int IntKind.i64 0, Value.string { data := #[] }, Value.int IntKind.i64 0, Value.int IntKind.i64 0, Value.slice none 0 0] 46)).drewN nq).alloc (Obj.cells #[Value.int IntKind.i64 0, Value.int IntKind.i64 0, Value.string { data := #[] }, Value.int IntKind.i64 0, Value.int IntKind.i64 0, Value.slice none 0 0] 46)) := fun nq => ((HR.out.alloc _).drewN nq).alloc _
  have BEL : ∀ nq, Below w.heap.size w (((w.alloc (Obj.cells #[Value.int IntKind.i64 0, Value.int IntKind.i64 0, Value.string { data := #[] }, Value.int IntKind.i64 0, Value.int IntKind.i64 0, Value.slice none 0 0] 46)).drewN nq).alloc (Obj.cells #[Value.int IntKind.i64 0, Value.int IntKind.i64 0, Value.string { data := #[] }, Value.int IntKind.i64 0, Value.int IntKind.i64 0, Value.slice none 0 0] 46)) := fun nq => (below_drewN ((Below.refl _ _).alloc (Nat.le_refl _) _) nq).alloc (by have : ∀ (x : World) (k : Nat), (x.drewN k).heap = x.heap := fun _ _ => rfl; rw [this]; simp) _
  have SIXH : Hid _ := SIX
  have SIX2H : Hid _ := SIX2
  have RDRH : Hid _ := RDR
  have BELH : Hid _ := BEL
  clear SIX SIX2 RDR BEL
  cases b
  · -- a symbol
    by_cases h20 : 20 < T.size
    · have HW : Hid (wordAt T.data.toList i n = .inl (7, (i : Int))) := by
        show wordAt T.data.toList i n = .inl (7, (i : Int))
        unfold wordAt
        rw [HB.out, HTL.out, if_neg (by simp), if_pos h20]
      go_enter Tryd.func59, Tryd.ntmps59
      go_wp2_with fail
      go_quiet ((go_at_call 25; exact Calls.quiet_of_same (WA.out _)))
      go_wp2_with fail
      refine (LL.out _).mono ?_
      rintro e w2 ⟨rfl, rfl⟩
      go_wp2_with fail
      refine (symbol_long rb s i n T _ (RDRH.out _) hTs h20).mono ?_
      rintro e w3 ⟨rfl, hb3⟩
      have hbw := (BELH.out _).trans (hb3.mono (by have := (BELH.out ‹_›).size; exact this))
      clear hb3
      go_wp2_with fail
      refine ⟨rfl, ?_⟩
      rw [HW.out]
      exact ⟨rfl, (Keep.refl _ _).below hbw⟩
    · have HW : Hid (wordAt T.data.toList i n = .inr (datSym T.data.toList, i + T.size, n)) := by
        show wordAt T.data.toList i n = .inr (datSym T.data.toList, i + T.size, n)
        unfold wordAt
        rw [HB.out, HTL.out, if_neg (by simp), if_neg h20]
      have SY : Hid (∀ w, Calls Tryd.prog 67 #[.pointer (some ⟨rb, 0, none⟩), .string T] w fun e w' => e = .returned (.agg #[.int .i64 3, .int .i64 0, .string T, .int .i64 0, .int .i64 0, .slice none 0 0]) ∧ Below w.heap.size w w') := fun w => symbol_short rb T w (by omega)
      go_enter Tryd.func59, Tryd.ntmps59
      go_wp2_with fail
      go_quiet ((go_at_call 25; exact Calls.quiet_of_same (WA.out _)))
      go_wp2_with fail
      refine (LL.out _).mono ?_
      rintro e w2 ⟨rfl, rfl⟩
      go_wp2_with fail
      refine (SY.out _).mono ?_
      rintro e w3 ⟨rfl, hb3⟩
      have hbw := (BELH.out _).trans (hb3.mono (by have := (BELH.out ‹_›).size; exact this))
      obtain ⟨x0, x1, x2, x3, x4, x5, x6, x7⟩ := (SIXH.out _).after hb3
      obtain ⟨y0, y1, y2, y3, y4, y5, y6, y7⟩ := (SIX2H.out _).after hb3
      have RD : Hid (Rdr rb s i n w3) := (RDRH.out _).below hb3
      obtain ⟨r0, r1, r2, r3, r4, r5⟩ := (RDRH.out _).below hb3
      have HBW : Hid (Below w.heap.size w w3) := hbw
      clear hb3 hbw c0 c1
      go_wp2_with fail
      refine bodyPost_ret (v := dv (datSym T.data.toList) none 0) (by simp [results, Tryd.results59, go_sem, dv, datSym, datNum, x1, x2, x3, x4, x5, x6]) rfl ?_
      rw [HW.out]
      refine ⟨?_, ?_, none, 0, 0, rfl, rfl⟩
      · exact keep_six ((keep_six ((Keep.refl _ _).below HBW.out) (Nat.le_succ _) _ _ _ _ _ _).setCell ⟨rb, 1, none⟩ rfl _) (Nat.le_refl _) _ _ _ _ _ _
      · exact (((RD.out.six (by omega) _ _ _ _ _ _).move' _ _ (by omega)).six (by omega) _ _ _ _ _ _)
  · -- a number
    by_cases h17 : 17 < T.size
    · have HW : Hid (wordAt T.data.toList i n = .inl (3, (i : Int))) := by
        show wordAt T.data.toList i n = .inl (3, (i : Int))
        unfold wordAt
        rw [HB.out, HTL.out, if_pos rfl, if_pos h17]
      go_enter Tryd.func59, Tryd.ntmps59
      go_wp2_with fail
      go_quiet ((go_at_call 25; exact Calls.quiet_of_same (WA.out _)))
      go_wp2_with fail
      refine (LL.out _).mono ?_
      rintro e w2 ⟨rfl, rfl⟩
      go_wp2_with fail
      refine (number_long rb s i n T _ (RDRH.out _) hTs h17).mono ?_
      rintro e w3 ⟨rfl, hb3⟩
      have hbw := (BELH.out _).trans (hb3.mono (by have := (BELH.out ‹_›).size; exact this))
      clear hb3
      go_wp2_with fail
      refine ⟨rfl, ?_⟩
      rw [HW.out]
      exact ⟨rfl, (Keep.refl _ _).below hbw⟩
    · have NU : Hid (∀ w, Rdr rb s i n w → Calls Tryd.prog 66 #[.pointer (some ⟨rb, 0, none⟩), .string T] w fun e w' => (if rangeB (numOf T.data.toList) then e = .returned (.agg #[.int .i64 1, .int .i64 (numOf T.data.toList), .string ⟨#[]⟩, .int .i64 0, .int .i64 0, .slice none 0 0]) else e = .panicked (thrown (3, (i : Int)))) ∧ Below w.heap.size w w') := fun w hr => number_short rb s i n T w hr (by omega) HB.out
      obtain ⟨b2, HB2⟩ : ∃ b2, Hid (rangeB (numOf T.data.toList) = b2) := ⟨_, rfl⟩
      rw [HB2.out] at NU
      cases b2
      · have HW : Hid (wordAt T.data.toList i n = .inl (3, (i : Int))) := by
          show wordAt T.data.toList i n = .inl (3, (i : Int))
          unfold wordAt
          rw [HB.out, HTL.out, if_pos rfl, if_neg h17, HB2.out, if_neg (by simp)]
        simp only [Bool.false_eq_true, if_false] at NU
        go_enter Tryd.func59, Tryd.ntmps59
        go_wp2_with fail
        go_quiet ((go_at_call 25; exact Calls.quiet_of_same (WA.out _)))
        go_wp2_with fail
        refine (LL.out _).mono ?_
        rintro e w2 ⟨rfl, rfl⟩
        go_wp2_with fail
        refine (NU.out _ (RDRH.out _)).mono ?_
        rintro e w3 ⟨rfl, hb3⟩
        have hbw := (BELH.out _).trans (hb3.mono (by have := (BELH.out ‹_›).size; exact this))
        clear hb3
        go_wp2_with fail
        refine ⟨rfl, ?_⟩
        rw [HW.out]
        exact ⟨rfl, (Keep.refl _ _).below hbw⟩
      · have HW : Hid (wordAt T.data.toList i n = .inr (datNum (numOf T.data.toList), i + T.size, n)) := by
          show wordAt T.data.toList i n = .inr (datNum (numOf T.data.toList), i + T.size, n)
          unfold wordAt
          rw [HB.out, HTL.out, if_pos rfl, if_neg h17, HB2.out, if_pos rfl]
        simp only [if_true] at NU
        generalize numOf T.data.toList = v at NU HW HB2
        go_enter Tryd.func59, Tryd.ntmps59
        go_wp2_with fail
        go_quiet ((go_at_call 25; exact Calls.quiet_of_same (WA.out _)))
        go_wp2_with fail
        refine (LL.out _).mono ?_
        rintro e w2 ⟨rfl, rfl⟩
        go_wp2_with fail
        refine (NU.out _ (RDRH.out _)).mono ?_
        rintro e w3 ⟨rfl, hb3⟩
        have hbw := (BELH.out _).trans (hb3.mono (by have := (BELH.out ‹_›).size; exact this))
        obtain ⟨x0, x1, x2, x3, x4, x5, x6, x7⟩ := (SIXH.out _).after hb3
        obtain ⟨y0, y1, y2, y3, y4, y5, y6, y7⟩ := (SIX2H.out _).after hb3
        have RD : Hid (Rdr rb s i n w3) := (RDRH.out _).below hb3
        obtain ⟨r0, r1, r2, r3, r4, r5⟩ := (RDRH.out _).below hb3
        have HBW : Hid (Below w.heap.size w w3) := hbw
        clear hb3 hbw c0 c1
        go_wp2_with fail
        refine bodyPost_ret (v := dv (datNum v) none 0) (by simp [results, Tryd.results59, go_sem, dv, datSym, datNum, x1, x2, x3, x4, x5, x6]) rfl ?_
        rw [HW.out]
        refine ⟨?_, ?_, none, 0, 0, rfl, rfl⟩
        · exact keep_six ((keep_six ((Keep.refl _ _).below HBW.out) (Nat.le_succ _) _ _ _ _ _ _).setCell ⟨rb, 1, none⟩ rfl _) (Nat.le_refl _) _ _ _ _ _ _
        · exact (((RD.out.six (by omega) _ _ _ _ _ _).move' _ _ (by omega)).six (by omega) _ _ _ _ _ _)
end Go.Proofs.YtagpcafbeplccaaDoor
