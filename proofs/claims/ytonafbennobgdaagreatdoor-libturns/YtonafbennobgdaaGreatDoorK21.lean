/- A reader's words. A reader's words, on: numbers, symbols. A reader's words, on: a word, a truth. -/
import Derived.Lib.AtoiErrMem
import Derived.Test.YtonafbennobgdaaGreatDoorK19
import Derived.Test.YtonafbennobgdaaGreatDoorK20
namespace Go.Proofs.YtonafbennobgdaaGreatDoor
set_option linter.unusedVariables false
set_option linter.unusedSimpArgs false
section
set_option linter.unnecessarySimpa false
open Go.RowKit

def Dw (ok : Nat → Prop) (w : World) : Nat → Option Addr → Nat → List Dat → Prop
 | 0, _, _, ds => ds = []
 | f + 1, a, cp, ds => (ds.length ≤ 9223372036854775807 ∧ ds.length ≤ cp) ∧ (ds = [] ∨ ∃ b o, a = some ⟨b, o, none⟩ ∧ ok b ∧ ∀ (i : Nat) (d : Dat), ds[i]? = some d → ∃ a' cap,
   w.cell? ⟨b, o + i * 6, none⟩ = some (.int .i64 d.kind) ∧ w.cell? ⟨b, o + i * 6 + 1, none⟩ = some (.int .i64 d.n) ∧ w.cell? ⟨b, o + i * 6 + 2, none⟩ = some (.string d.name) ∧
   w.cell? ⟨b, o + i * 6 + 3, none⟩ = some (.int .i64 d.stamp) ∧ w.cell? ⟨b, o + i * 6 + 4, none⟩ = some (.int .i64 d.lib) ∧ w.cell? ⟨b, o + i * 6 + 5, none⟩ = some (.slice a' d.kids.length cap) ∧
   d.name.size ≤ maxLen ∧ Dw ok w f a' cap d.kids)

theorem Dw.stay {ok ok' : Nat → Prop} {w w' : World} (hw : ∀ k, ok k → w'.heap[k]? = w.heap[k]?) (ho : ∀ k, ok k → ok' k) : ∀ (f : Nat) (a : Option Addr) (cp : Nat) (ds : List Dat), Dw ok w f a cp ds → Dw ok' w' f a cp ds
 | 0, _, _, _, h => h
 | f + 1, a, cp, ds, h => by
  obtain ⟨hl, h⟩ := h
  refine ⟨hl, ?_⟩
  rcases h with h | ⟨b, o, ha, hb, h⟩
  ·exact Or.inl h
  ·refine Or.inr ⟨b, o, ha, ho b hb, fun i d hd => ?_⟩
   obtain ⟨a', cap, c0, c1, c2, c3, c4, c5, hn, hk⟩ := h i d hd
   have e : ∀ q, w'.cell? ⟨b, q, none⟩ = w.cell? ⟨b, q, none⟩ := fun q => World.cell?_of_block (hw b hb)
   exact ⟨a', cap, (e _).trans c0, (e _).trans c1, (e _).trans c2, (e _).trans c3, (e _).trans c4, (e _).trans c5, hn, Dw.stay hw ho f a' _ _ hk⟩

theorem Dw.nil (ok : Nat → Prop) (w : World) (f : Nat) (a : Option Addr) (cp : Nat) : Dw ok w f a cp [] := by
 cases f with
 | zero => rfl
 | succ f => exact ⟨⟨Nat.zero_le _, Nat.zero_le _⟩, Or.inl rfl⟩

theorem Dw.cap {ok : Nat → Prop} {w : World} {f : Nat} {a : Option Addr} {cp : Nat} {ds : List Dat} (h : Dw ok w f a cp ds) : ds.length ≤ cp := by
 cases f with
 | zero =>
  rw [show ds = [] from h]
  exact Nat.zero_le _
 | succ f => exact h.1.2

theorem Dw.more {ok : Nat → Prop} {w : World} : ∀ (f : Nat) (a : Option Addr) (cp : Nat) (ds : List Dat), Dw ok w f a cp ds → Dw ok w (f + 1) a cp ds
 | 0, a, cp, ds, h => by
  rw [show ds = [] from h]
  exact Dw.nil _ _ _ _ _
 | f + 1, a, cp, ds, h => by
  obtain ⟨hl, h⟩ := h
  refine ⟨hl, ?_⟩
  rcases h with h | ⟨b, o, ha, hb, h⟩
  ·exact Or.inl h
  ·refine Or.inr ⟨b, o, ha, hb, fun i d hd => ?_⟩
   obtain ⟨a', cap, c0, c1, c2, c3, c4, c5, hn, hk⟩ := h i d hd
   exact ⟨a', cap, c0, c1, c2, c3, c4, c5, hn, Dw.more f a' _ _ hk⟩

theorem Dw.upto {ok : Nat → Prop} {w : World} {f : Nat} {a : Option Addr} {cp : Nat} {ds : List Dat} (h : Dw ok w f a cp ds) : ∀ (k : Nat), Dw ok w (f + k) a cp ds
 | 0 => h
 | k + 1 => Dw.more _ _ _ _ (h.upto k)

def NewT (w w' : World) (b : Nat) : Prop := w.heap.size ≤ b ∧ b < w'.heap.size

def Out (rb : Nat) (s : ByteArray) (r : Rd Dat) (w : World) (e : Ending) (w' : World) : Prop :=
 match r with
 | .inl x => e = .panicked (thrown x) ∧ Keep rb w w'
 | .inr (d, j, m) => Keep rb w w' ∧ Rdr rb s j m w' ∧ ∃ a cap f, e = .returned (dv d a cap) ∧ Dw (NewT w w') w' f a cap d.kids

/-! Numbers. -/

theorem parseM_ok : ∀ (r : List UInt8) (acc j : Nat), acc < 10 ^ j → j + r.length ≤ 17 → allDig r = true → Lib.parseUintM (2 ^ 64 - 1) acc r = .ok (r.foldl (fun n c => 10 * n + (c.toNat - 48)) acc) ∧ r.foldl (fun n c => 10 * n + (c.toNat - 48)) acc < 10 ^ (j + r.length)
 | [], acc, j, ha, hj, _ => ⟨rfl, by simpa using ha⟩
 | c :: r, acc, j, ha, hj, hd => by
  have hd' : digB (c.toNat : Int) = true ∧ allDig r = true := by simpa [allDig] using hd
  have hc : 48 ≤ c.toNat ∧ c.toNat ≤ 57 := by
   have := hd'.1
   unfold digB at this
   simp at this
   omega
  simp only [List.length_cons] at hj
  have hp : 10 ^ j ≤ 10 ^ 16 := Nat.pow_le_pow_right (by decide) (by omega)
  have hp1 : 10 ^ (j + 1) = 10 * 10 ^ j := by rw [Nat.pow_succ]; omega
  have hp16 : (10 : Nat) ^ 16 = 10000000000000000 := by decide
  have ha' : acc * 10 + (c.toNat - 48) < 10 ^ (j + 1) := by omega
  have ih := parseM_ok r (acc * 10 + (c.toNat - 48)) (j + 1) ha' (by omega) hd'.2
  have e : 10 * acc + (c.toNat - 48) = acc * 10 + (c.toNat - 48) := by omega
  unfold Lib.parseUintM
  rw [if_pos hc, if_neg (by omega), if_neg (by omega), List.foldl_cons, e]
  refine ⟨ih.1, ?_⟩
  have := ih.2
  rw [List.length_cons, show j + (r.length + 1) = j + 1 + r.length from by omega]
  exact this

theorem parse_num (l : List UInt8) (hl : looksB l = true) (h17 : l.length ≤ 17) : Lib.parseIntB 64 l = .ok (numOf l) := by
 unfold looksB at hl
 simp at hl
 obtain ⟨hd, hne⟩ := hl
 have p17 : (10 : Nat) ^ 17 < 2 ^ 63 := by decide
 cases l with
 | nil => exact (hne (by simp [unsign])).elim
 | cons c r =>
  by_cases h45 : c = 45
  ·subst h45
   have hu : unsign (45 :: r) = r := by simp [unsign]
   rw [hu] at hd hne
   have hlen : r.length ≤ 17 := by simp at h17; omega
   obtain ⟨h1, h2⟩ := parseM_ok r 0 0 (by decide) (by omega) hd
   have h3 : r.foldl (fun n c => 10 * n + (c.toNat - 48)) 0 < 10 ^ 17 := Nat.lt_of_lt_of_le h2 (Nat.pow_le_pow_right (by decide) (by omega))
   have e1 : (45 : UInt8).toNat = 45 := rfl
   unfold Lib.parseIntB
   simp only [e1, or_true, if_true, not_true, false_and, if_false, true_and]
   unfold Lib.parseUintB
   rw [if_neg (by simpa using hne), h1]
   simp only
   rw [if_neg (by omega)]
   simp [numOf, digN]
  ·have hu : unsign (c :: r) = c :: r := by simp [unsign, h45]
   rw [hu] at hd hne
   obtain ⟨h1, h2⟩ := parseM_ok (c :: r) 0 0 (by decide) (by omega) hd
   have h3 : (c :: r).foldl (fun n c => 10 * n + (c.toNat - 48)) 0 < 10 ^ 17 := Nat.lt_of_lt_of_le h2 (Nat.pow_le_pow_right (by decide) (by omega))
   have hc : 48 ≤ c.toNat ∧ c.toNat ≤ 57 := by
    have : digB (c.toNat : Int) = true := by
     have h4 : digB (c.toNat : Int) = true ∧ allDig r = true := by simpa [allDig] using hd
     exact h4.1
    unfold digB at this
    simp at this
    omega
   unfold Lib.parseIntB
   simp only
   rw [if_neg (by omega)]
   unfold Lib.parseUintB
   rw [if_neg (by simp), h1]
   simp only
   rw [if_neg (by omega), if_neg (by omega), if_neg (by omega)]
   simp [numOf, digN, h45]
end
section
open Go.RowKit
set_option maxRecDepth 100000
set_option maxHeartbeats 1600000

structure Six (N : Nat) (w : World) : Prop where
 lt : N < w.heap.size
 q0 : w.cell? ⟨N, 0, none⟩ = some (.int .i64 0)
 q1 : w.cell? ⟨N, 1, none⟩ = some (.int .i64 0)
 q2 : w.cell? ⟨N, 2, none⟩ = some (.string ⟨#[]⟩)
 q3 : w.cell? ⟨N, 3, none⟩ = some (.int .i64 0)
 q4 : w.cell? ⟨N, 4, none⟩ = some (.int .i64 0)
 q5 : w.cell? ⟨N, 5, none⟩ = some (.slice none 0 0)
 z : ∀ j, w.frozen? ⟨N, j, none⟩ = false

theorem Six.made (w : World) : Six w.heap.size (w.alloc (.cells #[.int .i64 0, .int .i64 0, .string ⟨#[]⟩, .int .i64 0, .int .i64 0, .slice none 0 0] 26)) := by
 have q : ∀ j, (w.alloc (.cells #[.int .i64 0, .int .i64 0, .string ⟨#[]⟩, .int .i64 0, .int .i64 0, .slice none 0 0] 26)).cell? ⟨w.heap.size, j, none⟩ = _ := fun j => World.cell?_alloc_mark w _ 26 (0, 0) j
 exact ⟨by simp, q 0, q 1, q 2, q 3, q 4, q 5, fun j => by go_simp⟩

theorem Six.after {N : Nat} {w w' : World} (h : Six N w) (hb : Below w.heap.size w w') : Six N w' := by
 have e : ∀ q, w'.cell? ⟨N, q, none⟩ = w.cell? ⟨N, q, none⟩ := fun q => hb.cell (p := ⟨N, q, none⟩) h.lt
 exact ⟨Nat.lt_of_lt_of_le h.lt hb.size, (e _).trans h.q0, (e _).trans h.q1, (e _).trans h.q2, (e _).trans h.q3, (e _).trans h.q4, (e _).trans h.q5, fun j => (hb.frozen (p := ⟨N, j, none⟩) h.lt).trans (h.z j)⟩

theorem Six.keep {N c : Nat} {w w' : World} (h : Six N w) (hb : Keep c w w') (hc : N ≠ c) : Six N w' := by
 have e : ∀ q, w'.cell? ⟨N, q, none⟩ = w.cell? ⟨N, q, none⟩ := fun q => hb.cell (p := ⟨N, q, none⟩) h.lt hc
 exact ⟨Nat.lt_of_lt_of_le h.lt hb.size, (e _).trans h.q0, (e _).trans h.q1, (e _).trans h.q2, (e _).trans h.q3, (e _).trans h.q4, (e _).trans h.q5, fun j => (hb.frozen (p := ⟨N, j, none⟩) h.lt hc).trans (h.z j)⟩

theorem Six.alloc {N : Nat} {w : World} (h : Six N w) (o : Obj) : Six N (w.alloc o) := h.after ((Below.refl _ _).alloc (Nat.le_refl _) _)

theorem below_six {B N : Nat} {w w' : World} (h : Below B w w') (hN : B ≤ N) (v0 v1 v2 v3 v4 v5 : Value) :
  Below B w ((((((w'.setCell ⟨N, 0, none⟩ v0).setCell ⟨N, 1, none⟩ v1).setCell ⟨N, 2, none⟩ v2).setCell ⟨N, 3, none⟩ v3).setCell ⟨N, 4, none⟩ v4).setCell ⟨N, 5, none⟩ v5) :=
 (((((h.setCell (p := ⟨N, 0, none⟩) hN _).setCell (p := ⟨N, 1, none⟩) hN _).setCell (p := ⟨N, 2, none⟩) hN _).setCell (p := ⟨N, 3, none⟩) hN _).setCell (p := ⟨N, 4, none⟩) hN _).setCell (p := ⟨N, 5, none⟩) hN _

theorem ParseInt_any (T : ByteArray) (hl : looksB T.data.toList = true) (h17 : T.size ≤ 17) (w : World) :
  Calls Tryz.prog 137 #[.string T, .int .i64 10, .int .i64 64] w fun e w' => e = .returned (.tuple #[.int .i64 (numOf T.data.toList), .nilIface]) ∧ Below w.heap.size w w' := by
 refine (Tryz.strconv_ParseInt_10_at64_ok T (by omega) _ (parse_num _ hl (by rw [Array.length_toList]; exact h17)) w).mono ?_
 rintro e w' ⟨rfl, rfl | ⟨t, rfl⟩⟩
 ·exact ⟨rfl, Below.refl _ _⟩
 ·exact ⟨rfl, Lib.bytesWorld_below _ _ _⟩

theorem number_long (rb : Nat) (s : ByteArray) (i n : Nat) (T : ByteArray) (w : World) (h : Rdr rb s i n w) (hT : T.size ≤ 6000) (h17 : 17 < T.size) :
  Calls Tryz.prog 121 #[.pointer (some ⟨rb, 0, none⟩), .string T] w fun e w' => e = .panicked (thrown (3, (i : Int))) ∧ Below w.heap.size w w' := by
 have HR : Hid (Rdr rb s i n w) := h
 clear h
 go_enter Tryz.func121, Tryz.ntmps121
 go_wp2_with fail
 refine (fault_any rb s i n 3 _ (HR.out.alloc _)).mono ?_
 rintro e w1 ⟨rfl, hb⟩
 have hk : Below w.heap.size w w1 := ((Below.refl _ _).alloc (Nat.le_refl _) _).trans (hb.mono (by simp))
 clear hb
 go_wp2_with fail
 exact ⟨rfl, rfl, hk⟩

theorem number_short (rb : Nat) (s : ByteArray) (i n : Nat) (T : ByteArray) (w : World) (h : Rdr rb s i n w) (h17 : T.size ≤ 17) (hl : looksB T.data.toList = true) :
  Calls Tryz.prog 121 #[.pointer (some ⟨rb, 0, none⟩), .string T] w fun e w' => (if rangeB (numOf T.data.toList) then e = .returned (dv (datNum (numOf T.data.toList)) none 0) else e = .panicked (thrown (3, (i : Int)))) ∧ Below w.heap.size w w' := by
 have HR : Hid (Rdr rb s i n w) := h
 have PI : Hid (∀ w, Calls Tryz.prog 137 #[.string T, .int .i64 10, .int .i64 64] w fun e w' => e = .returned (.tuple #[.int .i64 (numOf T.data.toList), .nilIface]) ∧ Below w.heap.size w w') := fun w => ParseInt_any T hl h17 w
 clear h hl
 generalize numOf T.data.toList = v at PI ⊢
 obtain ⟨b, HB⟩ : ∃ b, Hid (rangeB v = b) := ⟨_, rfl⟩
 have RA : Hid (∀ w, Calls Tryz.prog 93 #[.int .i64 v] w fun e w' => e = .returned (.bool b) ∧ w' = w) := fun w => by
  have := inRange_any v w
  rwa [HB.out] at this
 rw [HB.out]
 cases b
 ·simp only [Bool.false_eq_true, if_false]
  go_enter Tryz.func121, Tryz.ntmps121
  go_wp2_with fail
  refine (PI.out _).mono ?_
  rintro e w1 ⟨rfl, hb1⟩
  have hk1 : Hid (Rdr rb s i n w1) := (HR.out.alloc _).below hb1
  have hbb : Hid (Below w.heap.size w w1) := ((Below.refl _ _).alloc (Nat.le_refl _) _).trans (hb1.mono (by simp))
  have hz := hb1.size
  simp at hz
  clear hb1
  go_wp2_with fail
  refine (RA.out _).mono ?_
  rintro e w2 ⟨rfl, rfl⟩
  go_wp2_with fail
  refine (fault_any rb s i n 3 _ hk1.out).mono ?_
  rintro e w3 ⟨rfl, hb⟩
  have hk : Below w.heap.size w w3 := hbb.out.trans (hb.mono (by omega))
  clear hb
  go_wp2_with fail
  exact ⟨rfl, rfl, hk⟩
 ·simp only [if_true]
  go_enter Tryz.func121, Tryz.ntmps121
  go_wp2_with fail
  refine (PI.out _).mono ?_
  rintro e w1 ⟨rfl, hb1⟩
  have hk1 : Hid (Rdr rb s i n w1) := (HR.out.alloc _).below hb1
  have hbb : Hid (Below w.heap.size w w1) := ((Below.refl _ _).alloc (Nat.le_refl _) _).trans (hb1.mono (by simp))
  have hz := hb1.size
  simp at hz
  have hx := (Six.made w).after hb1
  obtain ⟨x0, x1, x2, x3, x4, x5, x6, x7⟩ := hx
  clear hb1
  go_wp2_with fail
  refine (RA.out _).mono ?_
  rintro e w2 ⟨rfl, rfl⟩
  go_wp2_with fail
  refine bodyPost_ret (v := dv (datNum v) none 0) (by simp [results, Tryz.results121, go_sem, dv, datNum, x1, x2, x3, x4, x5, x6]) rfl ⟨rfl, ?_⟩
  exact below_six hbb.out (Nat.le_refl _) _ _ _ _ _ _

theorem symbol_long (rb : Nat) (s : ByteArray) (i n : Nat) (T : ByteArray) (w : World) (h : Rdr rb s i n w) (hT : T.size ≤ 6000) (h20 : 20 < T.size) :
  Calls Tryz.prog 122 #[.pointer (some ⟨rb, 0, none⟩), .string T] w fun e w' => e = .panicked (thrown (7, (i : Int))) ∧ Below w.heap.size w w' := by
 have HR : Hid (Rdr rb s i n w) := h
 clear h
 go_enter Tryz.func122, Tryz.ntmps122
 go_wp2_with fail
 refine (fault_any rb s i n 7 _ (HR.out.alloc _)).mono ?_
 rintro e w1 ⟨rfl, hb⟩
 have hk : Below w.heap.size w w1 := ((Below.refl _ _).alloc (Nat.le_refl _) _).trans (hb.mono (by simp))
 clear hb
 go_wp2_with fail
 exact ⟨rfl, rfl, hk⟩

theorem ClonT_any (T : ByteArray) (hT : T.size ≤ 6000) (w : World) :
  Calls Tryz.prog 89 #[.string T] w fun e w' => e = .returned (.string T) ∧ Below w.heap.size w w' := by
 have CL : Hid (Calls Tryz.prog 119 #[.string T] w fun e w' => e = .returned (.string T) ∧ Below w.heap.size w w') := Tryz.stringslite_Clone T w (by omega)
 go_enter Tryz.func89, Tryz.ntmps89
 go_wp2_with fail
 refine CL.out.mono ?_
 rintro e w1 ⟨rfl, hb⟩
 go_wp2_with fail
 go_ret
 exact ⟨rfl, hb⟩

theorem symbol_short (rb : Nat) (T : ByteArray) (w : World) (h20 : T.size ≤ 20) :
  Calls Tryz.prog 122 #[.pointer (some ⟨rb, 0, none⟩), .string T] w fun e w' => e = .returned (dv (datSym T.data.toList) none 0) ∧ Below w.heap.size w w' := by
 have CL : Hid (∀ w, Calls Tryz.prog 89 #[.string T] w fun e w' => e = .returned (.string T) ∧ Below w.heap.size w w') := fun w => ClonT_any T (by omega) w
 go_enter Tryz.func122, Tryz.ntmps122
 go_wp2_with fail
 refine (CL.out _).mono ?_
 rintro e w1 ⟨rfl, hb1⟩
 have hbb : Hid (Below w.heap.size w w1) := ((Below.refl _ _).alloc (Nat.le_refl _) _).trans (hb1.mono (by simp))
 obtain ⟨x0, x1, x2, x3, x4, x5, x6, x7⟩ := (Six.made w).after hb1
 clear hb1
 go_wp2_with fail
 refine bodyPost_ret (v := dv (datSym T.data.toList) none 0) (by simp [results, Tryz.results122, go_sem, dv, datSym, x1, x2, x3, x4, x5, x6]) rfl ⟨rfl, ?_⟩
 exact below_six hbb.out (Nat.le_refl _) _ _ _ _ _ _
end
section
open Go.RowKit

theorem keep_six {c N : Nat} {a b : World} (h : Keep c a b) (hN : a.heap.size ≤ N) (v0 v1 v2 v3 v4 v5 : Value) :
  Keep c a ((((((b.setCell ⟨N, 0, none⟩ v0).setCell ⟨N, 1, none⟩ v1).setCell ⟨N, 2, none⟩ v2).setCell ⟨N, 3, none⟩ v3).setCell ⟨N, 4, none⟩ v4).setCell ⟨N, 5, none⟩ v5) :=
 (((((h.setNew ⟨N, 0, none⟩ hN _).setNew ⟨N, 1, none⟩ hN _).setNew ⟨N, 2, none⟩ hN _).setNew ⟨N, 3, none⟩ hN _).setNew ⟨N, 4, none⟩ hN _).setNew ⟨N, 5, none⟩ hN _

theorem Rdr.other {rb : Nat} {s : ByteArray} {i n : Nat} {w : World} (h : Rdr rb s i n w) (p : Addr) (hp : p.block ≠ rb) (v : Value) : Rdr rb s i n (w.setCell p v) := by
 have e : ∀ q, (w.setCell p v).cell? ⟨rb, q, none⟩ = w.cell? ⟨rb, q, none⟩ := fun q => World.cell?_of_block (Below.heap_setCell _ _ _ _ (fun h => hp h.symm))
 exact ⟨by simp [World.setCell]; exact h.lt, (e _).trans h.c0, (e _).trans h.c1, (e _).trans h.c2, by rw [World.frozen?_setCell]; exact h.z1, by rw [World.frozen?_setCell]; exact h.z2⟩

theorem Rdr.six {rb N : Nat} {s : ByteArray} {i n : Nat} {w : World} (h : Rdr rb s i n w) (hN : N ≠ rb) (v0 v1 v2 v3 v4 v5 : Value) :
  Rdr rb s i n ((((((w.setCell ⟨N, 0, none⟩ v0).setCell ⟨N, 1, none⟩ v1).setCell ⟨N, 2, none⟩ v2).setCell ⟨N, 3, none⟩ v3).setCell ⟨N, 4, none⟩ v4).setCell ⟨N, 5, none⟩ v5) :=
 (((((h.other ⟨N, 0, none⟩ hN _).other ⟨N, 1, none⟩ hN _).other ⟨N, 2, none⟩ hN _).other ⟨N, 3, none⟩ hN _).other ⟨N, 4, none⟩ hN _).other ⟨N, 5, none⟩ hN _

theorem wordAhead_from (s : ByteArray) (i : Nat) (hs : s.size ≤ 6000) : ∃ T : ByteArray, T.data.toList = byteL (s.data.toList.drop i) ∧ T.size ≤ 6000 ∧ i + T.size ≤ max i s.size ∧ ∀ w, Calls Tryz.prog 49 #[.string (s.extract i s.size)] w fun e w' => e = .returned (.string T) ∧ w' = w := by
 refine ⟨(s.extract i s.size).extract 0 (wl (s.extract i s.size).data.toList), ?_, ?_, ?_, fun w => wordAhead_any _ (by rw [ByteArray.size_extract]; unfold maxLen; omega) w⟩
 ·rw [ByteArray.data_extract]
  simp only [Array.toList_extract, List.extract_eq_take_drop]
  rw [drop_extract]
  simp
  exact take_takeWhile _
 ·rw [ByteArray.size_extract, ByteArray.size_extract]
  omega
 ·rw [ByteArray.size_extract, ByteArray.size_extract]
  omega

set_option maxRecDepth 100000 in
set_option maxHeartbeats 3200000 in
theorem word_any (rb : Nat) (s : ByteArray) (i n : Nat) (w : World) (h : Rdr rb s i n w) (hi : i < s.size) (hs : s.size ≤ 6000) :
  Calls Tryz.prog 101 #[.pointer (some ⟨rb, 0, none⟩)] w (Out rb s (wordAt (byteL (s.data.toList.drop i)) i n) w) := by
 obtain ⟨T, hT, hTs, hTi, hwa⟩ := wordAhead_from s i hs
 have hTi' : i + T.size ≤ s.size := by omega
 rw [← hT]
 have hTl : T.data.toList.length = T.size := Array.length_toList
 have HTL : Hid (T.data.toList.length = T.size) := hTl
 have WA : Hid (∀ w, Calls Tryz.prog 49 #[.string (s.extract i s.size)] w fun e w' => e = .returned (.string T) ∧ w' = w) := hwa
 obtain ⟨b, HB⟩ : ∃ b, Hid (looksB T.data.toList = b) := ⟨_, rfl⟩
 have LL : Hid (∀ w, Calls Tryz.prog 50 #[.string T] w fun e w' => e = .returned (.bool b) ∧ w' = w) := fun w => by
  have := looksLike_any T (by unfold maxLen; omega) w
  rwa [HB.out] at this
 have c0 := h.c0
 have c1 := h.c1
 have l1 := h.lt
 have HR : Hid (Rdr rb s i n w) := h
 clear h hT hwa hTl hTi
 have SIX : ∀ nq, Six w.heap.size (((w.alloc (Obj.cells #[Value.int IntKind.i64 0, Value.int IntKind.i64 0, Value.string { data := #[] }, Value.int IntKind.i64 0, Value.int IntKind.i64 0, Value.slice none 0 0] 26)).drewN nq).alloc (Obj.cells #[Value.int IntKind.i64 0, Value.int IntKind.i64 0, Value.string { data := #[] }, Value.int IntKind.i64 0, Value.int IntKind.i64 0, Value.slice none 0 0] 26)) := fun nq => ((Six.made w).after (below_drewN (Below.refl _ _) nq)).alloc _
 have SIX2 : ∀ nq, Six (w.heap.size + 1) (((w.alloc (Obj.cells #[Value.int IntKind.i64 0, Value.int IntKind.i64 0, Value.string { data := #[] }, Value.int IntKind.i64 0, Value.int IntKind.i64 0, Value.slice none 0 0] 26)).drewN nq).alloc (Obj.cells #[Value.int IntKind.i64 0, Value.int IntKind.i64 0, Value.string { data := #[] }, Value.int IntKind.i64 0, Value.int IntKind.i64 0, Value.slice none 0 0] 26)) := fun nq => by
  have := Six.made ((w.alloc (Obj.cells #[Value.int IntKind.i64 0, Value.int IntKind.i64 0, Value.string { data := #[] }, Value.int IntKind.i64 0, Value.int IntKind.i64 0, Value.slice none 0 0] 26)).drewN nq)
  have e : ((w.alloc (Obj.cells #[Value.int IntKind.i64 0, Value.int IntKind.i64 0, Value.string { data := #[] }, Value.int IntKind.i64 0, Value.int IntKind.i64 0, Value.slice none 0 0] 26)).drewN nq).heap.size = w.heap.size + 1 := by
   have : ∀ (x : World) (k : Nat), (x.drewN k).heap = x.heap := fun _ _ => rfl
   rw [this]; simp
  rwa [e] at this
 have RDR : ∀ nq, Rdr rb s i n (((w.alloc (Obj.cells #[Value.int IntKind.i64 0, Value.int IntKind.i64 0, Value.string { data := #[] }, Value.int IntKind.i64 0, Value.int IntKind.i64 0, Value.slice none 0 0] 26)).drewN nq).alloc (Obj.cells #[Value.int IntKind.i64 0, Value.int IntKind.i64 0, Value.string { data := #[] }, Value.int IntKind.i64 0, Value.int IntKind.i64 0, Value.slice none 0 0] 26)) := fun nq => ((HR.out.alloc _).drewN nq).alloc _
 have BEL : ∀ nq, Below w.heap.size w (((w.alloc (Obj.cells #[Value.int IntKind.i64 0, Value.int IntKind.i64 0, Value.string { data := #[] }, Value.int IntKind.i64 0, Value.int IntKind.i64 0, Value.slice none 0 0] 26)).drewN nq).alloc (Obj.cells #[Value.int IntKind.i64 0, Value.int IntKind.i64 0, Value.string { data := #[] }, Value.int IntKind.i64 0, Value.int IntKind.i64 0, Value.slice none 0 0] 26)) := fun nq => (below_drewN ((Below.refl _ _).alloc (Nat.le_refl _) _) nq).alloc (by have : ∀ (x : World) (k : Nat), (x.drewN k).heap = x.heap := fun _ _ => rfl; rw [this]; simp) _
 have SIXH : Hid _ := SIX
 have SIX2H : Hid _ := SIX2
 have RDRH : Hid _ := RDR
 have BELH : Hid _ := BEL
 clear SIX SIX2 RDR BEL
 cases b
 ·-- a symbol
  by_cases h20 : 20 < T.size
  ·have HW : Hid (wordAt T.data.toList i n = .inl (7, (i : Int))) := by
    show wordAt T.data.toList i n = .inl (7, (i : Int))
    unfold wordAt
    rw [HB.out, HTL.out, if_neg (by simp), if_pos h20]
   go_enter Tryz.func101, Tryz.ntmps101
   go_wp2_with fail
   go_quiet ((go_at_call 49; exact Calls.quiet_of_same (WA.out _)))
   go_wp2_with fail
   refine (LL.out _).mono ?_
   rintro e w2 ⟨rfl, rfl⟩
   go_wp2_with fail
   refine (symbol_long rb s i n T _ (RDRH.out _) hTs h20).mono ?_
   rintro e w3 ⟨rfl, hb3⟩
   have hbw := (BELH.out _).trans (hb3.mono (by have := (BELH.out ‹_›).size; exact this))
   clear hb3
   go_wp2_with fail
   refine ⟨rfl, ?_⟩
   rw [HW.out]
   exact ⟨rfl, (Keep.refl _ _).below hbw⟩
  ·have HW : Hid (wordAt T.data.toList i n = .inr (datSym T.data.toList, i + T.size, n)) := by
    show wordAt T.data.toList i n = .inr (datSym T.data.toList, i + T.size, n)
    unfold wordAt
    rw [HB.out, HTL.out, if_neg (by simp), if_neg h20]
   have SY : Hid (∀ w, Calls Tryz.prog 122 #[.pointer (some ⟨rb, 0, none⟩), .string T] w fun e w' => e = .returned (.agg #[.int .i64 3, .int .i64 0, .string T, .int .i64 0, .int .i64 0, .slice none 0 0]) ∧ Below w.heap.size w w') := fun w => symbol_short rb T w (by omega)
   go_enter Tryz.func101, Tryz.ntmps101
   go_wp2_with fail
   go_quiet ((go_at_call 49; exact Calls.quiet_of_same (WA.out _)))
   go_wp2_with fail
   refine (LL.out _).mono ?_
   rintro e w2 ⟨rfl, rfl⟩
   go_wp2_with fail
   refine (SY.out _).mono ?_
   rintro e w3 ⟨rfl, hb3⟩
   have hbw := (BELH.out _).trans (hb3.mono (by have := (BELH.out ‹_›).size; exact this))
   obtain ⟨x0, x1, x2, x3, x4, x5, x6, x7⟩ := (SIXH.out _).after hb3
   obtain ⟨y0, y1, y2, y3, y4, y5, y6, y7⟩ := (SIX2H.out _).after hb3
   have RD : Hid (Rdr rb s i n w3) := (RDRH.out _).below hb3
   obtain ⟨r0, r1, r2, r3, r4, r5⟩ := (RDRH.out _).below hb3
   have HBW : Hid (Below w.heap.size w w3) := hbw
   clear hb3 hbw c0 c1
   go_wp2_with fail
   refine bodyPost_ret (v := dv (datSym T.data.toList) none 0) (by simp [results, Tryz.results101, go_sem, dv, datSym, datNum, x1, x2, x3, x4, x5, x6]) rfl ?_
   rw [HW.out]
   refine ⟨?_, ?_, none, 0, 0, rfl, rfl⟩
   ·exact keep_six ((keep_six ((Keep.refl _ _).below HBW.out) (Nat.le_succ _) _ _ _ _ _ _).setCell ⟨rb, 1, none⟩ rfl _) (Nat.le_refl _) _ _ _ _ _ _
   ·exact (((RD.out.six (by omega) _ _ _ _ _ _).move' _ _ (by omega)).six (by omega) _ _ _ _ _ _)
 ·-- a number
  by_cases h17 : 17 < T.size
  ·have HW : Hid (wordAt T.data.toList i n = .inl (3, (i : Int))) := by
    show wordAt T.data.toList i n = .inl (3, (i : Int))
    unfold wordAt
    rw [HB.out, HTL.out, if_pos rfl, if_pos h17]
   go_enter Tryz.func101, Tryz.ntmps101
   go_wp2_with fail
   go_quiet ((go_at_call 49; exact Calls.quiet_of_same (WA.out _)))
   go_wp2_with fail
   refine (LL.out _).mono ?_
   rintro e w2 ⟨rfl, rfl⟩
   go_wp2_with fail
   refine (number_long rb s i n T _ (RDRH.out _) hTs h17).mono ?_
   rintro e w3 ⟨rfl, hb3⟩
   have hbw := (BELH.out _).trans (hb3.mono (by have := (BELH.out ‹_›).size; exact this))
   clear hb3
   go_wp2_with fail
   refine ⟨rfl, ?_⟩
   rw [HW.out]
   exact ⟨rfl, (Keep.refl _ _).below hbw⟩
  ·have NU : Hid (∀ w, Rdr rb s i n w → Calls Tryz.prog 121 #[.pointer (some ⟨rb, 0, none⟩), .string T] w fun e w' => (if rangeB (numOf T.data.toList) then e = .returned (.agg #[.int .i64 1, .int .i64 (numOf T.data.toList), .string ⟨#[]⟩, .int .i64 0, .int .i64 0, .slice none 0 0]) else e = .panicked (thrown (3, (i : Int)))) ∧ Below w.heap.size w w') := fun w hr => number_short rb s i n T w hr (by omega) HB.out
   obtain ⟨b2, HB2⟩ : ∃ b2, Hid (rangeB (numOf T.data.toList) = b2) := ⟨_, rfl⟩
   rw [HB2.out] at NU
   cases b2
   ·have HW : Hid (wordAt T.data.toList i n = .inl (3, (i : Int))) := by
     show wordAt T.data.toList i n = .inl (3, (i : Int))
     unfold wordAt
     rw [HB.out, HTL.out, if_pos rfl, if_neg h17, HB2.out, if_neg (by simp)]
    simp only [Bool.false_eq_true, if_false] at NU
    go_enter Tryz.func101, Tryz.ntmps101
    go_wp2_with fail
    go_quiet ((go_at_call 49; exact Calls.quiet_of_same (WA.out _)))
    go_wp2_with fail
    refine (LL.out _).mono ?_
    rintro e w2 ⟨rfl, rfl⟩
    go_wp2_with fail
    refine (NU.out _ (RDRH.out _)).mono ?_
    rintro e w3 ⟨rfl, hb3⟩
    have hbw := (BELH.out _).trans (hb3.mono (by have := (BELH.out ‹_›).size; exact this))
    clear hb3
    go_wp2_with fail
    refine ⟨rfl, ?_⟩
    rw [HW.out]
    exact ⟨rfl, (Keep.refl _ _).below hbw⟩
   ·have HW : Hid (wordAt T.data.toList i n = .inr (datNum (numOf T.data.toList), i + T.size, n)) := by
     show wordAt T.data.toList i n = .inr (datNum (numOf T.data.toList), i + T.size, n)
     unfold wordAt
     rw [HB.out, HTL.out, if_pos rfl, if_neg h17, HB2.out, if_pos rfl]
    simp only [if_true] at NU
    generalize numOf T.data.toList = v at NU HW HB2
    go_enter Tryz.func101, Tryz.ntmps101
    go_wp2_with fail
    go_quiet ((go_at_call 49; exact Calls.quiet_of_same (WA.out _)))
    go_wp2_with fail
    refine (LL.out _).mono ?_
    rintro e w2 ⟨rfl, rfl⟩
    go_wp2_with fail
    refine (NU.out _ (RDRH.out _)).mono ?_
    rintro e w3 ⟨rfl, hb3⟩
    have hbw := (BELH.out _).trans (hb3.mono (by have := (BELH.out ‹_›).size; exact this))
    obtain ⟨x0, x1, x2, x3, x4, x5, x6, x7⟩ := (SIXH.out _).after hb3
    obtain ⟨y0, y1, y2, y3, y4, y5, y6, y7⟩ := (SIX2H.out _).after hb3
    have RD : Hid (Rdr rb s i n w3) := (RDRH.out _).below hb3
    obtain ⟨r0, r1, r2, r3, r4, r5⟩ := (RDRH.out _).below hb3
    have HBW : Hid (Below w.heap.size w w3) := hbw
    clear hb3 hbw c0 c1
    go_wp2_with fail
    refine bodyPost_ret (v := dv (datNum v) none 0) (by simp [results, Tryz.results101, go_sem, dv, datSym, datNum, x1, x2, x3, x4, x5, x6]) rfl ?_
    rw [HW.out]
    refine ⟨?_, ?_, none, 0, 0, rfl, rfl⟩
    ·exact keep_six ((keep_six ((Keep.refl _ _).below HBW.out) (Nat.le_succ _) _ _ _ _ _ _).setCell ⟨rb, 1, none⟩ rfl _) (Nat.le_refl _) _ _ _ _ _ _
    ·exact (((RD.out.six (by omega) _ _ _ _ _ _).move' _ _ (by omega)).six (by omega) _ _ _ _ _ _)
end
end Go.Proofs.YtonafbennobgdaaGreatDoor
