/- A reader's words, on: numbers, symbols. -/
import Derived.Test.YtagpcafbeplccaaDoorLc
namespace Go.Proofs.YtagpcafbeplccaaDoor
set_option linter.unusedVariables false
set_option linter.unusedSimpArgs false
open Go.RowKit

/-- A datum's block as it was made. -/
structure Six (N : Nat) (w : World) : Prop where
  lt : N < w.heap.size
  q0 : w.cell? ⟨N, 0, none⟩ = some (.int .i64 0)
  q1 : w.cell? ⟨N, 1, none⟩ = some (.int .i64 0)
  q2 : w.cell? ⟨N, 2, none⟩ = some (.string ⟨#[]⟩)
  q3 : w.cell? ⟨N, 3, none⟩ = some (.int .i64 0)
  q4 : w.cell? ⟨N, 4, none⟩ = some (.int .i64 0)
  q5 : w.cell? ⟨N, 5, none⟩ = some (.slice none 0 0)
  z : ∀ j, w.frozen? ⟨N, j, none⟩ = false

theorem Six.made (w : World) : Six w.heap.size (w.alloc (.cells #[.int .i64 0, .int .i64 0, .string ⟨#[]⟩, .int .i64 0, .int .i64 0, .slice none 0 0] 46)) := by
  have q : ∀ j, (w.alloc (.cells #[.int .i64 0, .int .i64 0, .string ⟨#[]⟩, .int .i64 0, .int .i64 0, .slice none 0 0] 46)).cell? ⟨w.heap.size, j, none⟩ = _ := fun j => World.cell?_alloc_mark w _ 46 (0, 0) j
  exact ⟨by simp, q 0, q 1, q 2, q 3, q 4, q 5, fun j => by go_simp⟩

theorem Six.after {N : Nat} {w w' : World} (h : Six N w) (hb : Below w.heap.size w w') : Six N w' := by
  have e : ∀ q, w'.cell? ⟨N, q, none⟩ = w.cell? ⟨N, q, none⟩ := fun q => hb.cell (p := ⟨N, q, none⟩) h.lt
  exact ⟨Nat.lt_of_lt_of_le h.lt hb.size, (e _).trans h.q0, (e _).trans h.q1, (e _).trans h.q2, (e _).trans h.q3, (e _).trans h.q4, (e _).trans h.q5, fun j => (hb.frozen (p := ⟨N, j, none⟩) h.lt).trans (h.z j)⟩

theorem Six.keep {N c : Nat} {w w' : World} (h : Six N w) (hb : Keep c w w') (hc : N ≠ c) : Six N w' := by
  have e : ∀ q, w'.cell? ⟨N, q, none⟩ = w.cell? ⟨N, q, none⟩ := fun q => hb.cell (p := ⟨N, q, none⟩) h.lt hc
  exact ⟨Nat.lt_of_lt_of_le h.lt hb.size, (e _).trans h.q0, (e _).trans h.q1, (e _).trans h.q2, (e _).trans h.q3, (e _).trans h.q4, (e _).trans h.q5, fun j => (hb.frozen (p := ⟨N, j, none⟩) h.lt hc).trans (h.z j)⟩

theorem Six.alloc {N : Nat} {w : World} (h : Six N w) (o : Obj) : Six N (w.alloc o) := h.after ((Below.refl _ _).alloc (Nat.le_refl _) _)

/-- Six stores into a block of the call's own. -/
theorem below_six {B N : Nat} {w w' : World} (h : Below B w w') (hN : B ≤ N) (v0 v1 v2 v3 v4 v5 : Value) :
    Below B w ((((((w'.setCell ⟨N, 0, none⟩ v0).setCell ⟨N, 1, none⟩ v1).setCell ⟨N, 2, none⟩ v2).setCell ⟨N, 3, none⟩ v3).setCell ⟨N, 4, none⟩ v4).setCell ⟨N, 5, none⟩ v5) :=
  (((((h.setCell (p := ⟨N, 0, none⟩) hN _).setCell (p := ⟨N, 1, none⟩) hN _).setCell (p := ⟨N, 2, none⟩) hN _).setCell (p := ⟨N, 3, none⟩) hN _).setCell (p := ⟨N, 4, none⟩) hN _).setCell (p := ⟨N, 5, none⟩) hN _

theorem ParseInt_any (T : ByteArray) (hl : looksB T.data.toList = true) (h17 : T.size ≤ 17) (w : World) :
    Calls Tryd.prog 74 #[.string T, .int .i64 10, .int .i64 64] w fun e w' => e = .returned (.tuple #[.int .i64 (numOf T.data.toList), .nilIface]) ∧ Below w.heap.size w w' := by
  refine (Tryd.strconv_ParseInt_10_at64_ok T (by omega) _ (parse_num _ hl (by rw [Array.length_toList]; exact h17)) w).mono ?_
  rintro e w' ⟨rfl, rfl | ⟨t, rfl⟩⟩
  · exact ⟨rfl, Below.refl _ _⟩
  · exact ⟨rfl, Lib.bytesWorld_below _ _ _⟩

set_option maxRecDepth 100000 in
set_option maxHeartbeats 1600000 in
theorem number_long (rb : Nat) (s : ByteArray) (i n : Nat) (T : ByteArray) (w : World) (h : Rdr rb s i n w) (hT : T.size ≤ 6000) (h17 : 17 < T.size) :
    Calls Tryd.prog 66 #[.pointer (some ⟨rb, 0, none⟩), .string T] w fun e w' => e = .panicked (thrown (3, (i : Int))) ∧ Below w.heap.size w w' := by
  have HR : Hid (Rdr rb s i n w) := h
  clear h
  go_enter Tryd.func66, Tryd.ntmps66
  go_wp2_with fail
  refine (fault_any rb s i n 3 _ (HR.out.alloc _)).mono ?_
  rintro e w1 ⟨rfl, hb⟩
  have hk : Below w.heap.size w w1 := ((Below.refl _ _).alloc (Nat.le_refl _) _).trans (hb.mono (by simp))
  clear hb
  go_wp2_with fail
  exact ⟨rfl, rfl, hk⟩

set_option maxRecDepth 100000 in
set_option maxHeartbeats 1600000 in
theorem number_short (rb : Nat) (s : ByteArray) (i n : Nat) (T : ByteArray) (w : World) (h : Rdr rb s i n w) (h17 : T.size ≤ 17) (hl : looksB T.data.toList = true) :
    Calls Tryd.prog 66 #[.pointer (some ⟨rb, 0, none⟩), .string T] w fun e w' => (if rangeB (numOf T.data.toList) then e = .returned (dv (datNum (numOf T.data.toList)) none 0) else e = .panicked (thrown (3, (i : Int)))) ∧ Below w.heap.size w w' := by
  have HR : Hid (Rdr rb s i n w) := h
  have PI : Hid (∀ w, Calls Tryd.prog 74 #[.string T, .int .i64 10, .int .i64 64] w fun e w' => e = .returned (.tuple #[.int .i64 (numOf T.data.toList), .nilIface]) ∧ Below w.heap.size w w') := fun w => ParseInt_any T hl h17 w
  clear h hl
  generalize numOf T.data.toList = v at PI ⊢
  obtain ⟨b, HB⟩ : ∃ b, Hid (rangeB v = b) := ⟨_, rfl⟩
  have RA : Hid (∀ w, Calls Tryd.prog 64 #[.int .i64 v] w fun e w' => e = .returned (.bool b) ∧ w' = w) := fun w => by
    have := inRange_any v w
    rwa [HB.out] at this
  rw [HB.out]
  cases b
  · simp only [Bool.false_eq_true, if_false]
    go_enter Tryd.func66, Tryd.ntmps66
    go_wp2_with fail
    refine (PI.out _).mono ?_
    rintro e w1 ⟨rfl, hb1⟩
    have hk1 : Hid (Rdr rb s i n w1) := (HR.out.alloc _).below hb1
    have hbb : Hid (Below w.heap.size w w1) := ((Below.refl _ _).alloc (Nat.le_refl _) _).trans (hb1.mono (by simp))
    have hz := hb1.size
    simp at hz
    clear hb1
    go_wp2_with fail
    refine (RA.out _).mono ?_
    rintro e w2 ⟨rfl, rfl⟩
    go_wp2_with fail
    refine (fault_any rb s i n 3 _ hk1.out).mono ?_
    rintro e w3 ⟨rfl, hb⟩
    have hk : Below w.heap.size w w3 := hbb.out.trans (hb.mono (by omega))
    clear hb
    go_wp2_with fail
    exact ⟨rfl, rfl, hk⟩
  · simp only [if_true]
    go_enter Tryd.func66, Tryd.ntmps66
    go_wp2_with fail
    refine (PI.out _).mono ?_
    rintro e w1 ⟨rfl, hb1⟩
    have hk1 : Hid (Rdr rb s i n w1) := (HR.out.alloc _).below hb1
    have hbb : Hid (Below w.heap.size w w1) := ((Below.refl _ _).alloc (Nat.le_refl _) _).trans (hb1.mono (by simp))
    have hz := hb1.size
    simp at hz
    have hx := (Six.made w).after hb1
    obtain ⟨x0, x1, x2, x3, x4, x5, x6, x7⟩ := hx
    clear hb1
    go_wp2_with fail
    refine (RA.out _).mono ?_
    rintro e w2 ⟨rfl, rfl⟩
    go_wp2_with fail
    refine bodyPost_ret (v := dv (datNum v) none 0) (by simp [results, Tryd.results66, go_sem, dv, datNum, x1, x2, x3, x4, x5, x6]) rfl ⟨rfl, ?_⟩
    exact below_six hbb.out (Nat.le_refl _) _ _ _ _ _ _

set_option maxRecDepth 100000 in
set_option maxHeartbeats 1600000 in
theorem symbol_long (rb : Nat) (s : ByteArray) (i n : Nat) (T : ByteArray) (w : World) (h : Rdr rb s i n w) (hT : T.size ≤ 6000) (h20 : 20 < T.size) :
    Calls Tryd.prog 67 #[.pointer (some ⟨rb, 0, none⟩), .string T] w fun e w' => e = .panicked (thrown (7, (i : Int))) ∧ Below w.heap.size w w' := by
  have HR : Hid (Rdr rb s i n w) := h
  clear h
  go_enter Tryd.func67, Tryd.ntmps67
  go_wp2_with fail
  refine (fault_any rb s i n 7 _ (HR.out.alloc _)).mono ?_
  rintro e w1 ⟨rfl, hb⟩
  have hk : Below w.heap.size w w1 := ((Below.refl _ _).alloc (Nat.le_refl _) _).trans (hb.mono (by simp))
  clear hb
  go_wp2_with fail
  exact ⟨rfl, rfl, hk⟩

set_option maxHeartbeats 800000 in
theorem Clone_any (T : ByteArray) (hT : T.size ≤ 6000) (w : World) :
    Calls Tryd.prog 75 #[.string T] w fun e w' => e = .returned (.string T) ∧ Below w.heap.size w w' := by
  have CL : Hid (Calls Tryd.prog 84 #[.string T] w fun e w' => e = .returned (.string T) ∧ Below w.heap.size w w') := Tryd.stringslite_Clone T w (by omega)
  go_enter Tryd.func75, Tryd.ntmps75
  go_wp2_with fail
  refine CL.out.mono ?_
  rintro e w1 ⟨rfl, hb⟩
  go_wp2_with fail
  go_ret
  exact ⟨rfl, hb⟩

set_option maxRecDepth 100000 in
set_option maxHeartbeats 1600000 in
theorem symbol_short (rb : Nat) (T : ByteArray) (w : World) (h20 : T.size ≤ 20) :
    Calls Tryd.prog 67 #[.pointer (some ⟨rb, 0, none⟩), .string T] w fun e w' => e = .returned (dv (datSym T.data.toList) none 0) ∧ Below w.heap.size w w' := by
  have CL : Hid (∀ w, Calls Tryd.prog 75 #[.string T] w fun e w' => e = .returned (.string T) ∧ Below w.heap.size w w') := fun w => Clone_any T (by omega) w
  go_enter Tryd.func67, Tryd.ntmps67
  go_wp2_with fail
  refine (CL.out _).mono ?_
  rintro e w1 ⟨rfl, hb1⟩
  have hbb : Hid (Below w.heap.size w w1) := ((Below.refl _ _).alloc (Nat.le_refl _) _).trans (hb1.mono (by simp))
  obtain ⟨x0, x1, x2, x3, x4, x5, x6, x7⟩ := (Six.made w).after hb1
  clear hb1
  go_wp2_with fail
  refine bodyPost_ret (v := dv (datSym T.data.toList) none 0) (by simp [results, Tryd.results67, go_sem, dv, datSym, x1, x2, x3, x4, x5, x6]) rfl ⟨rfl, ?_⟩
  exact below_six hbb.out (Nat.le_refl _) _ _ _ _ _ _
end Go.Proofs.YtagpcafbeplccaaDoor
