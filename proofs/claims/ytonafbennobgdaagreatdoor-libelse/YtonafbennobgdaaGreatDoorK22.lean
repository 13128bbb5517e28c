/- A reader's words. A reader's words, on: numbers, symbols. -/
import Derived.Lib.AtoiErrMem
import Derived.Test.YtonafbennobgdaaGreatDoorK20
import Derived.Test.YtonafbennobgdaaGreatDoorK21
namespace Go.Proofs.YtonafbennobgdaaGreatDoor
section
set_option linter.unusedVariables false
set_option linter.unusedSimpArgs false
set_option linter.unnecessarySimpa false
open Go.RowKit

def Dw (ok : Nat → Prop) (w : World) : Nat → Option Addr → Nat → List Dat → Prop
  | 0, _, _, ds => ds = []
  | f + 1, a, cp, ds => (ds.length ≤ 9223372036854775807 ∧ ds.length ≤ cp) ∧ (ds = [] ∨ ∃ b o, a = some ⟨b, o, none⟩ ∧ ok b ∧ ∀ (i : Nat) (d : Dat), ds[i]? = some d → ∃ a' cap,
      w.cell? ⟨b, o + i * 6, none⟩ = some (.int .i64 d.kind) ∧ w.cell? ⟨b, o + i * 6 + 1, none⟩ = some (.int .i64 d.n) ∧ w.cell? ⟨b, o + i * 6 + 2, none⟩ = some (.string d.name) ∧
      w.cell? ⟨b, o + i * 6 + 3, none⟩ = some (.int .i64 d.stamp) ∧ w.cell? ⟨b, o + i * 6 + 4, none⟩ = some (.int .i64 d.lib) ∧ w.cell? ⟨b, o + i * 6 + 5, none⟩ = some (.slice a' d.kids.length cap) ∧
      d.name.size ≤ maxLen ∧ Dw ok w f a' cap d.kids)

theorem Dw.stay {ok ok' : Nat → Prop} {w w' : World} (hw : ∀ k, ok k → w'.heap[k]? = w.heap[k]?) (ho : ∀ k, ok k → ok' k) : ∀ (f : Nat) (a : Option Addr) (cp : Nat) (ds : List Dat), Dw ok w f a cp ds → Dw ok' w' f a cp ds
  | 0, _, _, _, h => h
  | f + 1, a, cp, ds, h => by
    obtain ⟨hl, h⟩ := h
    refine ⟨hl, ?_⟩
    rcases h with h | ⟨b, o, ha, hb, h⟩
    · exact Or.inl h
    · refine Or.inr ⟨b, o, ha, ho b hb, fun i d hd => ?_⟩
      obtain ⟨a', cap, c0, c1, c2, c3, c4, c5, hn, hk⟩ := h i d hd
      have e : ∀ q, w'.cell? ⟨b, q, none⟩ = w.cell? ⟨b, q, none⟩ := fun q => World.cell?_of_block (hw b hb)
      exact ⟨a', cap, (e _).trans c0, (e _).trans c1, (e _).trans c2, (e _).trans c3, (e _).trans c4, (e _).trans c5, hn, Dw.stay hw ho f a' _ _ hk⟩

theorem Dw.nil (ok : Nat → Prop) (w : World) (f : Nat) (a : Option Addr) (cp : Nat) : Dw ok w f a cp [] := by
  cases f with
  | zero => rfl
  | succ f => exact ⟨⟨Nat.zero_le _, Nat.zero_le _⟩, Or.inl rfl⟩

theorem Dw.cap {ok : Nat → Prop} {w : World} {f : Nat} {a : Option Addr} {cp : Nat} {ds : List Dat} (h : Dw ok w f a cp ds) : ds.length ≤ cp := by
  cases f with
  | zero =>
    rw [show ds = [] from h]
    exact Nat.zero_le _
  | succ f => exact h.1.2

theorem Dw.more {ok : Nat → Prop} {w : World} : ∀ (f : Nat) (a : Option Addr) (cp : Nat) (ds : List Dat), Dw ok w f a cp ds → Dw ok w (f + 1) a cp ds
  | 0, a, cp, ds, h => by
    rw [show ds = [] from h]
    exact Dw.nil _ _ _ _ _
  | f + 1, a, cp, ds, h => by
    obtain ⟨hl, h⟩ := h
    refine ⟨hl, ?_⟩
    rcases h with h | ⟨b, o, ha, hb, h⟩
    · exact Or.inl h
    · refine Or.inr ⟨b, o, ha, hb, fun i d hd => ?_⟩
      obtain ⟨a', cap, c0, c1, c2, c3, c4, c5, hn, hk⟩ := h i d hd
      exact ⟨a', cap, c0, c1, c2, c3, c4, c5, hn, Dw.more f a' _ _ hk⟩

theorem Dw.upto {ok : Nat → Prop} {w : World} {f : Nat} {a : Option Addr} {cp : Nat} {ds : List Dat} (h : Dw ok w f a cp ds) : ∀ (k : Nat), Dw ok w (f + k) a cp ds
  | 0 => h
  | k + 1 => Dw.more _ _ _ _ (h.upto k)

theorem Dw.lies {ok : Nat → Prop} {B : Nat} {w : World} (ho : ∀ k, ok k → k < B) : ∀ (f : Nat) (a : Option Addr) (cp : Nat) (ds : List Dat), Dw ok w f a cp ds → Lies B w f a ds
  | 0, _, _, _, h => h
  | f + 1, a, cp, ds, h => by
    obtain ⟨hl, h⟩ := h
    refine ⟨hl.1, ?_⟩
    rcases h with h | ⟨b, o, ha, hb, h⟩
    · exact Or.inl h
    · refine Or.inr ⟨b, o, ha, ho b hb, fun i d hd => ?_⟩
      obtain ⟨a', cap, c0, c1, c2, c3, c4, c5, hn, hk⟩ := h i d hd
      exact ⟨a', cap, c0, c1, c2, c3, c4, c5, hn, Dw.lies ho f a' _ _ hk⟩

def NewT (w w' : World) (b : Nat) : Prop := w.heap.size ≤ b ∧ b < w'.heap.size

def Out (rb : Nat) (s : ByteArray) (r : Rd Dat) (w : World) (e : Ending) (w' : World) : Prop :=
  match r with
  | .inl x => e = .panicked (thrown x) ∧ Keep rb w w'
  | .inr (d, j, m) => Keep rb w w' ∧ Rdr rb s j m w' ∧ ∃ a cap f, e = .returned (dv d a cap) ∧ Dw (NewT w w') w' f a cap d.kids

/-! Numbers. -/

theorem parseM_ok : ∀ (r : List UInt8) (acc j : Nat), acc < 10 ^ j → j + r.length ≤ 17 → allDig r = true → Lib.parseUintM (2 ^ 64 - 1) acc r = .ok (r.foldl (fun n c => 10 * n + (c.toNat - 48)) acc) ∧ r.foldl (fun n c => 10 * n + (c.toNat - 48)) acc < 10 ^ (j + r.length)
  | [], acc, j, ha, hj, _ => ⟨rfl, by simpa using ha⟩
  | c :: r, acc, j, ha, hj, hd => by
    have hd' : digB (c.toNat : Int) = true ∧ allDig r = true := by simpa [allDig] using hd
    have hc : 48 ≤ c.toNat ∧ c.toNat ≤ 57 := by
      have := hd'.1
      unfold digB at this
      simp at this
      omega
    simp only [List.length_cons] at hj
    have hp : 10 ^ j ≤ 10 ^ 16 := Nat.pow_le_pow_right (by decide) (by omega)
    have hp1 : 10 ^ (j + 1) = 10 * 10 ^ j := by rw [Nat.pow_succ]; omega
    have hp16 : (10 : Nat) ^ 16 = 10000000000000000 := by decide
    have ha' : acc * 10 + (c.toNat - 48) < 10 ^ (j + 1) := by omega
    have ih := parseM_ok r (acc * 10 + (c.toNat - 48)) (j + 1) ha' (by omega) hd'.2
    have e : 10 * acc + (c.toNat - 48) = acc * 10 + (c.toNat - 48) := by omega
    unfold Lib.parseUintM
    rw [if_pos hc, if_neg (by omega), if_neg (by omega), List.foldl_cons, e]
    refine ⟨ih.1, ?_⟩
    have := ih.2
    rw [List.length_cons, show j + (r.length + 1) = j + 1 + r.length from by omega]
    exact this

theorem parse_num (l : List UInt8) (hl : looksB l = true) (h17 : l.length ≤ 17) : Lib.parseIntB 64 l = .ok (numOf l) := by
  unfold looksB at hl
  simp at hl
  obtain ⟨hd, hne⟩ := hl
  have p17 : (10 : Nat) ^ 17 < 2 ^ 63 := by decide
  cases l with
  | nil => exact (hne (by simp [unsign])).elim
  | cons c r =>
    by_cases h45 : c = 45
    · subst h45
      have hu : unsign (45 :: r) = r := by simp [unsign]
      rw [hu] at hd hne
      have hlen : r.length ≤ 17 := by simp at h17; omega
      obtain ⟨h1, h2⟩ := parseM_ok r 0 0 (by decide) (by omega) hd
      have h3 : r.foldl (fun n c => 10 * n + (c.toNat - 48)) 0 < 10 ^ 17 := Nat.lt_of_lt_of_le h2 (Nat.pow_le_pow_right (by decide) (by omega))
      have e1 : (45 : UInt8).toNat = 45 := rfl
      unfold Lib.parseIntB
      simp only [e1, or_true, if_true, not_true, false_and, if_false, true_and]
      unfold Lib.parseUintB
      rw [if_neg (by simpa using hne), h1]
      simp only
      rw [if_neg (by omega)]
      simp [numOf, digN]
    · have hu : unsign (c :: r) = c :: r := by simp [unsign, h45]
      rw [hu] at hd hne
      obtain ⟨h1, h2⟩ := parseM_ok (c :: r) 0 0 (by decide) (by omega) hd
      have h3 : (c :: r).foldl (fun n c => 10 * n + (c.toNat - 48)) 0 < 10 ^ 17 := Nat.lt_of_lt_of_le h2 (Nat.pow_le_pow_right (by decide) (by omega))
      have hc : 48 ≤ c.toNat ∧ c.toNat ≤ 57 := by
        have : digB (c.toNat : Int) = true := by
          have h4 : digB (c.toNat : Int) = true ∧ allDig r = true := by simpa [allDig] using hd
          exact h4.1
        unfold digB at this
        simp at this
        omega
      unfold Lib.parseIntB
      simp only
      rw [if_neg (by omega)]
      unfold Lib.parseUintB
      rw [if_neg (by simp), h1]
      simp only
      rw [if_neg (by omega), if_neg (by omega), if_neg (by omega)]
      simp [numOf, digN, h45]
end
section
set_option linter.unusedVariables false
set_option linter.unusedSimpArgs false
open Go.RowKit

structure Six (N : Nat) (w : World) : Prop where
  lt : N < w.heap.size
  q0 : w.cell? ⟨N, 0, none⟩ = some (.int .i64 0)
  q1 : w.cell? ⟨N, 1, none⟩ = some (.int .i64 0)
  q2 : w.cell? ⟨N, 2, none⟩ = some (.string ⟨#[]⟩)
  q3 : w.cell? ⟨N, 3, none⟩ = some (.int .i64 0)
  q4 : w.cell? ⟨N, 4, none⟩ = some (.int .i64 0)
  q5 : w.cell? ⟨N, 5, none⟩ = some (.slice none 0 0)
  z : ∀ j, w.frozen? ⟨N, j, none⟩ = false

theorem Six.made (w : World) : Six w.heap.size (w.alloc (.cells #[.int .i64 0, .int .i64 0, .string ⟨#[]⟩, .int .i64 0, .int .i64 0, .slice none 0 0] 26)) := by
  have q : ∀ j, (w.alloc (.cells #[.int .i64 0, .int .i64 0, .string ⟨#[]⟩, .int .i64 0, .int .i64 0, .slice none 0 0] 26)).cell? ⟨w.heap.size, j, none⟩ = _ := fun j => World.cell?_alloc_mark w _ 26 (0, 0) j
  exact ⟨by simp, q 0, q 1, q 2, q 3, q 4, q 5, fun j => by go_simp⟩

theorem Six.after {N : Nat} {w w' : World} (h : Six N w) (hb : Below w.heap.size w w') : Six N w' := by
  have e : ∀ q, w'.cell? ⟨N, q, none⟩ = w.cell? ⟨N, q, none⟩ := fun q => hb.cell (p := ⟨N, q, none⟩) h.lt
  exact ⟨Nat.lt_of_lt_of_le h.lt hb.size, (e _).trans h.q0, (e _).trans h.q1, (e _).trans h.q2, (e _).trans h.q3, (e _).trans h.q4, (e _).trans h.q5, fun j => (hb.frozen (p := ⟨N, j, none⟩) h.lt).trans (h.z j)⟩

theorem Six.keep {N c : Nat} {w w' : World} (h : Six N w) (hb : Keep c w w') (hc : N ≠ c) : Six N w' := by
  have e : ∀ q, w'.cell? ⟨N, q, none⟩ = w.cell? ⟨N, q, none⟩ := fun q => hb.cell (p := ⟨N, q, none⟩) h.lt hc
  exact ⟨Nat.lt_of_lt_of_le h.lt hb.size, (e _).trans h.q0, (e _).trans h.q1, (e _).trans h.q2, (e _).trans h.q3, (e _).trans h.q4, (e _).trans h.q5, fun j => (hb.frozen (p := ⟨N, j, none⟩) h.lt hc).trans (h.z j)⟩

theorem Six.alloc {N : Nat} {w : World} (h : Six N w) (o : Obj) : Six N (w.alloc o) := h.after ((Below.refl _ _).alloc (Nat.le_refl _) _)

theorem below_six {B N : Nat} {w w' : World} (h : Below B w w') (hN : B ≤ N) (v0 v1 v2 v3 v4 v5 : Value) :
    Below B w ((((((w'.setCell ⟨N, 0, none⟩ v0).setCell ⟨N, 1, none⟩ v1).setCell ⟨N, 2, none⟩ v2).setCell ⟨N, 3, none⟩ v3).setCell ⟨N, 4, none⟩ v4).setCell ⟨N, 5, none⟩ v5) :=
  (((((h.setCell (p := ⟨N, 0, none⟩) hN _).setCell (p := ⟨N, 1, none⟩) hN _).setCell (p := ⟨N, 2, none⟩) hN _).setCell (p := ⟨N, 3, none⟩) hN _).setCell (p := ⟨N, 4, none⟩) hN _).setCell (p := ⟨N, 5, none⟩) hN _

theorem ParseInt_any (T : ByteArray) (hl : looksB T.data.toList = true) (h17 : T.size ≤ 17) (w : World) :
    Calls Tryz.prog 137 #[.string T, .int .i64 10, .int .i64 64] w fun e w' => e = .returned (.tuple #[.int .i64 (numOf T.data.toList), .nilIface]) ∧ Below w.heap.size w w' := by
  refine (Tryz.strconv_ParseInt_10_at64_ok T (by omega) _ (parse_num _ hl (by rw [Array.length_toList]; exact h17)) w).mono ?_
  rintro e w' ⟨rfl, rfl | ⟨t, rfl⟩⟩
  · exact ⟨rfl, Below.refl _ _⟩
  · exact ⟨rfl, Lib.bytesWorld_below _ _ _⟩

set_option maxRecDepth 100000 in
set_option maxHeartbeats 1600000 in
theorem number_long (rb : Nat) (s : ByteArray) (i n : Nat) (T : ByteArray) (w : World) (h : Rdr rb s i n w) (hT : T.size ≤ 6000) (h17 : 17 < T.size) :
    Calls Tryz.prog 121 #[.pointer (some ⟨rb, 0, none⟩), .string T] w fun e w' => e = .panicked (thrown (3, (i : Int))) ∧ Below w.heap.size w w' := by
  have HR : Hid (Rdr rb s i n w) := h
  clear h
  go_enter Tryz.func121, Tryz.ntmps121
  go_wp2_with fail
  refine (fault_any rb s i n 3 _ (HR.out.alloc _)).mono ?_
  rintro e w1 ⟨rfl, hb⟩
  have hk : Below w.heap.size w w1 := ((Below.refl _ _).alloc (Nat.le_refl _) _).trans (hb.mono (by simp))
  clear hb
  go_wp2_with fail
  exact ⟨rfl, rfl, hk⟩

set_option maxRecDepth 100000 in
set_option maxHeartbeats 1600000 in
theorem number_short (rb : Nat) (s : ByteArray) (i n : Nat) (T : ByteArray) (w : World) (h : Rdr rb s i n w) (h17 : T.size ≤ 17) (hl : looksB T.data.toList = true) :
    Calls Tryz.prog 121 #[.pointer (some ⟨rb, 0, none⟩), .string T] w fun e w' => (if rangeB (numOf T.data.toList) then e = .returned (dv (datNum (numOf T.data.toList)) none 0) else e = .panicked (thrown (3, (i : Int)))) ∧ Below w.heap.size w w' := by
  have HR : Hid (Rdr rb s i n w) := h
  have PI : Hid (∀ w, Calls Tryz.prog 137 #[.string T, .int .i64 10, .int .i64 64] w fun e w' => e = .returned (.tuple #[.int .i64 (numOf T.data.toList), .nilIface]) ∧ Below w.heap.size w w') := fun w => ParseInt_any T hl h17 w
  clear h hl
  generalize numOf T.data.toList = v at PI ⊢
  obtain ⟨b, HB⟩ : ∃ b, Hid (rangeB v = b) := ⟨_, rfl⟩
  have RA : Hid (∀ w, Calls Tryz.prog 93 #[.int .i64 v] w fun e w' => e = .returned (.bool b) ∧ w' = w) := fun w => by
    have := inRange_any v w
    rwa [HB.out] at this
  rw [HB.out]
  cases b
  · simp only [Bool.false_eq_true, if_false]
    go_enter Tryz.func121, Tryz.ntmps121
    go_wp2_with fail
    refine (PI.out _).mono ?_
    rintro e w1 ⟨rfl, hb1⟩
    have hk1 : Hid (Rdr rb s i n w1) := (HR.out.alloc _).below hb1
    have hbb : Hid (Below w.heap.size w w1) := ((Below.refl _ _).alloc (Nat.le_refl _) _).trans (hb1.mono (by simp))
    have hz := hb1.size
    simp at hz
    clear hb1
    go_wp2_with fail
    refine (RA.out _).mono ?_
    rintro e w2 ⟨rfl, rfl⟩
    go_wp2_with fail
    refine (fault_any rb s i n 3 _ hk1.out).mono ?_
    rintro e w3 ⟨rfl, hb⟩
    have hk : Below w.heap.size w w3 := hbb.out.trans (hb.mono (by omega))
    clear hb
    go_wp2_with fail
    exact ⟨rfl, rfl, hk⟩
  · simp only [if_true]
    go_enter Tryz.func121, Tryz.ntmps121
    go_wp2_with fail
    refine (PI.out _).mono ?_
    rintro e w1 ⟨rfl, hb1⟩
    have hk1 : Hid (Rdr rb s i n w1) := (HR.out.alloc _).below hb1
    have hbb : Hid (Below w.heap.size w w1) := ((Below.refl _ _).alloc (Nat.le_refl _) _).trans (hb1.mono (by simp))
    have hz := hb1.size
    simp at hz
    have hx := (Six.made w).after hb1
    obtain ⟨x0, x1, x2, x3, x4, x5, x6, x7⟩ := hx
    clear hb1
    go_wp2_with fail
    refine (RA.out _).mono ?_
    rintro e w2 ⟨rfl, rfl⟩
    go_wp2_with fail
    refine bodyPost_ret (v := dv (datNum v) none 0) (by simp [results, Tryz.results121, go_sem, dv, datNum, x1, x2, x3, x4, x5, x6]) rfl ⟨rfl, ?_⟩
    exact below_six hbb.out (Nat.le_refl _) _ _ _ _ _ _

set_option maxRecDepth 100000 in
set_option maxHeartbeats 1600000 in
theorem symbol_long (rb : Nat) (s : ByteArray) (i n : Nat) (T : ByteArray) (w : World) (h : Rdr rb s i n w) (hT : T.size ≤ 6000) (h20 : 20 < T.size) :
    Calls Tryz.prog 122 #[.pointer (some ⟨rb, 0, none⟩), .string T] w fun e w' => e = .panicked (thrown (7, (i : Int))) ∧ Below w.heap.size w w' := by
  have HR : Hid (Rdr rb s i n w) := h
  clear h
  go_enter Tryz.func122, Tryz.ntmps122
  go_wp2_with fail
  refine (fault_any rb s i n 7 _ (HR.out.alloc _)).mono ?_
  rintro e w1 ⟨rfl, hb⟩
  have hk : Below w.heap.size w w1 := ((Below.refl _ _).alloc (Nat.le_refl _) _).trans (hb.mono (by simp))
  clear hb
  go_wp2_with fail
  exact ⟨rfl, rfl, hk⟩

set_option maxHeartbeats 800000 in
theorem ClonT_any (T : ByteArray) (hT : T.size ≤ 6000) (w : World) :
    Calls Tryz.prog 89 #[.string T] w fun e w' => e = .returned (.string T) ∧ Below w.heap.size w w' := by
  have CL : Hid (Calls Tryz.prog 119 #[.string T] w fun e w' => e = .returned (.string T) ∧ Below w.heap.size w w') := Tryz.stringslite_Clone T w (by omega)
  go_enter Tryz.func89, Tryz.ntmps89
  go_wp2_with fail
  refine CL.out.mono ?_
  rintro e w1 ⟨rfl, hb⟩
  go_wp2_with fail
  go_ret
  exact ⟨rfl, hb⟩

set_option maxRecDepth 100000 in
set_option maxHeartbeats 1600000 in
theorem symbol_short (rb : Nat) (T : ByteArray) (w : World) (h20 : T.size ≤ 20) :
    Calls Tryz.prog 122 #[.pointer (some ⟨rb, 0, none⟩), .string T] w fun e w' => e = .returned (dv (datSym T.data.toList) none 0) ∧ Below w.heap.size w w' := by
  have CL : Hid (∀ w, Calls Tryz.prog 89 #[.string T] w fun e w' => e = .returned (.string T) ∧ Below w.heap.size w w') := fun w => ClonT_any T (by omega) w
  go_enter Tryz.func122, Tryz.ntmps122
  go_wp2_with fail
  refine (CL.out _).mono ?_
  rintro e w1 ⟨rfl, hb1⟩
  have hbb : Hid (Below w.heap.size w w1) := ((Below.refl _ _).alloc (Nat.le_refl _) _).trans (hb1.mono (by simp))
  obtain ⟨x0, x1, x2, x3, x4, x5, x6, x7⟩ := (Six.made w).after hb1
  clear hb1
  go_wp2_with fail
  refine bodyPost_ret (v := dv (datSym T.data.toList) none 0) (by simp [results, Tryz.results122, go_sem, dv, datSym, x1, x2, x3, x4, x5, x6]) rfl ⟨rfl, ?_⟩
  exact below_six hbb.out (Nat.le_refl _) _ _ _ _ _ _
end
end Go.Proofs.YtonafbennobgdaaGreatDoor
