/- A reader's words. -/
import Derived.Lib.AtoiErrMem
import Derived.Test.YtonafbennobgdaaGreatDoorK02
import Derived.Test.YtonafbennobgdaaGreatDoorK18
import Derived.Test.YtonafbennobgdaaGreatDoorK19
namespace Go.Proofs.YtonafbennobgdaaGreatDoor
set_option linter.unusedVariables false
set_option linter.unusedSimpArgs false
section
set_option linter.unnecessarySimpa false
open Go.RowKit
def Dw (ok : Nat → Prop) (w : World) : Nat → Option Addr → Nat → List Dat → Prop
 | 0, _, _, ds => ds = []
 | f + 1, a, cp, ds => (ds.length ≤ 9223372036854775807 ∧ ds.length ≤ cp) ∧ (ds = [] ∨ ∃ b o, a = some ⟨b, o, none⟩ ∧ ok b ∧ ∀ (i : Nat) (d : Dat), ds[i]? = some d → ∃ a' cap,
  w.cell? ⟨b, o + i * 6, none⟩ = some (.int .i64 d.kind) ∧ w.cell? ⟨b, o + i * 6 + 1, none⟩ = some (.int .i64 d.n) ∧ w.cell? ⟨b, o + i * 6 + 2, none⟩ = some (.string d.name) ∧
  w.cell? ⟨b, o + i * 6 + 3, none⟩ = some (.int .i64 d.stamp) ∧ w.cell? ⟨b, o + i * 6 + 4, none⟩ = some (.int .i64 d.lib) ∧ w.cell? ⟨b, o + i * 6 + 5, none⟩ = some (.slice a' d.kids.length cap) ∧
  d.name.size ≤ maxLen ∧ Dw ok w f a' cap d.kids)
theorem Dw.stay {ok ok' : Nat → Prop} {w w' : World} (hw : ∀ k, ok k → w'.heap[k]? = w.heap[k]?) (ho : ∀ k, ok k → ok' k) : ∀ (f : Nat) (a : Option Addr) (cp : Nat) (ds : List Dat), Dw ok w f a cp ds → Dw ok' w' f a cp ds
 | 0, _, _, _, h => h
 | f + 1, a, cp, ds, h => by
  obtain ⟨hl, h⟩ := h
  refine ⟨hl, ?_⟩
  rcases h with h | ⟨b, o, ha, hb, h⟩
  ·exact Or.inl h
  refine Or.inr ⟨b, o, ha, ho b hb, fun i d hd => ?_⟩
  obtain ⟨a', cap, c0, c1, c2, c3, c4, c5, hn, hk⟩ := h i d hd
  have e : ∀ q, w'.cell? ⟨b, q, none⟩ = w.cell? ⟨b, q, none⟩ := fun q => World.cell?_of_block (hw b hb)
  exact ⟨a', cap, (e _).trans c0, (e _).trans c1, (e _).trans c2, (e _).trans c3, (e _).trans c4, (e _).trans c5, hn, Dw.stay hw ho f a' _ _ hk⟩
theorem Dw.nil (ok : Nat → Prop) (w : World) (f : Nat) (a : Option Addr) (cp : Nat) : Dw ok w f a cp [] := by
 cases f with
 | zero => rfl
 | succ f => exact ⟨⟨Nat.zero_le _, Nat.zero_le _⟩, Or.inl rfl⟩
theorem Dw.cap {ok : Nat → Prop} {w : World} {f : Nat} {a : Option Addr} {cp : Nat} {ds : List Dat} (h : Dw ok w f a cp ds) : ds.length ≤ cp := by
 cases f with
 | zero =>
  rw [show ds = [] from h]
  exact Nat.zero_le _
 | succ f => exact h.1.2
theorem Dw.more {ok : Nat → Prop} {w : World} : ∀ (f : Nat) (a : Option Addr) (cp : Nat) (ds : List Dat), Dw ok w f a cp ds → Dw ok w (f + 1) a cp ds
 | 0, a, cp, ds, h => by
  rw [show ds = [] from h]
  exact Dw.nil _ _ _ _ _
 | f + 1, a, cp, ds, h => by
  obtain ⟨hl, h⟩ := h
  refine ⟨hl, ?_⟩
  rcases h with h | ⟨b, o, ha, hb, h⟩
  ·exact Or.inl h
  refine Or.inr ⟨b, o, ha, hb, fun i d hd => ?_⟩
  obtain ⟨a', cap, c0, c1, c2, c3, c4, c5, hn, hk⟩ := h i d hd
  exact ⟨a', cap, c0, c1, c2, c3, c4, c5, hn, Dw.more f a' _ _ hk⟩
theorem Dw.upto {ok : Nat → Prop} {w : World} {f : Nat} {a : Option Addr} {cp : Nat} {ds : List Dat} (h : Dw ok w f a cp ds) : ∀ (k : Nat), Dw ok w (f + k) a cp ds
 | 0 => h
 | k + 1 => Dw.more _ _ _ _ (h.upto k)
def NewT (w w' : World) (b : Nat) : Prop := w.heap.size ≤ b ∧ b < w'.heap.size
def Out (rb : Nat) (s : ByteArray) (r : Rd Dat) (w : World) (e : Ending) (w' : World) : Prop :=
 match r with
 | .inl x => e = .panicked (thrown x) ∧ Keep rb w w'
 | .inr (d, j, m) => Keep rb w w' ∧ Rdr rb s j m w' ∧ ∃ a cap f, e = .returned (dv d a cap) ∧ Dw (NewT w w') w' f a cap d.kids
/-! Numbers. -/
theorem parseM_ok : ∀ (r : List UInt8) (acc j : Nat), acc < 10 ^ j → j + r.length ≤ 17 → allDig r = true → Lib.parseUintM (2 ^ 64 - 1) acc r = .ok (r.foldl (fun n c => 10 * n + (c.toNat - 48)) acc) ∧ r.foldl (fun n c => 10 * n + (c.toNat - 48)) acc < 10 ^ (j + r.length)
 | [], acc, j, ha, hj, _ => ⟨rfl, by simpa using ha⟩
 | c :: r, acc, j, ha, hj, hd => by
  have hd' : digB (c.toNat : Int) = true ∧ allDig r = true := by simpa [allDig] using hd
  have hc : 48 ≤ c.toNat ∧ c.toNat ≤ 57 := by
   have := hd'.1
   unfold digB at this
   simp at this
   omega
  simp only [List.length_cons] at hj
  have hp : 10 ^ j ≤ 10 ^ 16 := Nat.pow_le_pow_right (by decide) (by omega)
  have hp1 : 10 ^ (j + 1) = 10 * 10 ^ j := by rw [Nat.pow_succ]; omega
  have hp16 : (10 : Nat) ^ 16 = 10000000000000000 := by decide
  have ha' : acc * 10 + (c.toNat - 48) < 10 ^ (j + 1) := by omega
  have ih := parseM_ok r (acc * 10 + (c.toNat - 48)) (j + 1) ha' (by omega) hd'.2
  have e : 10 * acc + (c.toNat - 48) = acc * 10 + (c.toNat - 48) := by omega
  unfold Lib.parseUintM
  rw [if_pos hc, if_neg (by omega), if_neg (by omega), List.foldl_cons, e]
  refine ⟨ih.1, ?_⟩
  have := ih.2
  rw [List.length_cons, show j + (r.length + 1) = j + 1 + r.length from by omega]
  exact this
theorem parse_num (l : List UInt8) (hl : looksB l = true) (h17 : l.length ≤ 17) : Lib.parseIntB 64 l = .ok (numOf l) := by
 unfold looksB at hl
 simp at hl
 obtain ⟨hd, hne⟩ := hl
 have p17 : (10 : Nat) ^ 17 < 2 ^ 63 := by decide
 cases l with
 | nil => exact (hne (by simp [unsign])).elim
 | cons c r =>
  by_cases h45 : c = 45
  ·subst h45
   have hu : unsign (45 :: r) = r := by simp [unsign]
   rw [hu] at hd hne
   have hlen : r.length ≤ 17 := by simp at h17; omega
   obtain ⟨h1, h2⟩ := parseM_ok r 0 0 (by decide) (by omega) hd
   have h3 : r.foldl (fun n c => 10 * n + (c.toNat - 48)) 0 < 10 ^ 17 := Nat.lt_of_lt_of_le h2 (Nat.pow_le_pow_right (by decide) (by omega))
   have e1 : (45 : UInt8).toNat = 45 := rfl
   unfold Lib.parseIntB
   simp only [e1, or_true, if_true, not_true, false_and, if_false, true_and]
   unfold Lib.parseUintB
   rw [if_neg (by simpa using hne), h1]
   simp only
   rw [if_neg (by omega)]
   simp [numOf, digN]
  have hu : unsign (c :: r) = c :: r := by simp [unsign, h45]
  rw [hu] at hd hne
  obtain ⟨h1, h2⟩ := parseM_ok (c :: r) 0 0 (by decide) (by omega) hd
  have h3 : (c :: r).foldl (fun n c => 10 * n + (c.toNat - 48)) 0 < 10 ^ 17 := Nat.lt_of_lt_of_le h2 (Nat.pow_le_pow_right (by decide) (by omega))
  have hc : 48 ≤ c.toNat ∧ c.toNat ≤ 57 := by
   have : digB (c.toNat : Int) = true := by
    have h4 : digB (c.toNat : Int) = true ∧ allDig r = true := by simpa [allDig] using hd
    exact h4.1
   unfold digB at this
   simp at this
   omega
  unfold Lib.parseIntB
  simp only
  rw [if_neg (by omega)]
  unfold Lib.parseUintB
  rw [if_neg (by simp), h1]
  simp only
  rw [if_neg (by omega), if_neg (by omega), if_neg (by omega)]
  simp [numOf, digN, h45]
end
section
open Go.RowKit
set_option maxRecDepth 100000
set_option maxHeartbeats 1600000
structure Six (N : Nat) (w : World) : Prop where
 lt : N < w.heap.size
 q0 : w.cell? ⟨N, 0, none⟩ = some (.int .i64 0)
 q1 : w.cell? ⟨N, 1, none⟩ = some (.int .i64 0)
 q2 : w.cell? ⟨N, 2, none⟩ = some (.string ⟨#[]⟩)
 q3 : w.cell? ⟨N, 3, none⟩ = some (.int .i64 0)
 q4 : w.cell? ⟨N, 4, none⟩ = some (.int .i64 0)
 q5 : w.cell? ⟨N, 5, none⟩ = some (.slice none 0 0)
 z : ∀ j, w.frozen? ⟨N, j, none⟩ = false
theorem Six.made (w : World) : Six w.heap.size (w.alloc (.cells #[.int .i64 0, .int .i64 0, .string ⟨#[]⟩, .int .i64 0, .int .i64 0, .slice none 0 0] 26)) := by
 have q : ∀ j, (w.alloc (.cells #[.int .i64 0, .int .i64 0, .string ⟨#[]⟩, .int .i64 0, .int .i64 0, .slice none 0 0] 26)).cell? ⟨w.heap.size, j, none⟩ = _ := fun j => World.cell?_alloc_mark w _ 26 (0, 0) j
 exact ⟨by simp, q 0, q 1, q 2, q 3, q 4, q 5, fun j => by go_simp⟩
theorem Six.after {N : Nat} {w w' : World} (h : Six N w) (hb : Below w.heap.size w w') : Six N w' := by
 have e : ∀ q, w'.cell? ⟨N, q, none⟩ = w.cell? ⟨N, q, none⟩ := fun q => hb.cell (p := ⟨N, q, none⟩) h.lt
 exact ⟨Nat.lt_of_lt_of_le h.lt hb.size, (e _).trans h.q0, (e _).trans h.q1, (e _).trans h.q2, (e _).trans h.q3, (e _).trans h.q4, (e _).trans h.q5, fun j => (hb.frozen (p := ⟨N, j, none⟩) h.lt).trans (h.z j)⟩
theorem Six.keep {N c : Nat} {w w' : World} (h : Six N w) (hb : Keep c w w') (hc : N ≠ c) : Six N w' := by
 have e : ∀ q, w'.cell? ⟨N, q, none⟩ = w.cell? ⟨N, q, none⟩ := fun q => hb.cell (p := ⟨N, q, none⟩) h.lt hc
 exact ⟨Nat.lt_of_lt_of_le h.lt hb.size, (e _).trans h.q0, (e _).trans h.q1, (e _).trans h.q2, (e _).trans h.q3, (e _).trans h.q4, (e _).trans h.q5, fun j => (hb.frozen (p := ⟨N, j, none⟩) h.lt hc).trans (h.z j)⟩
theorem Six.alloc {N : Nat} {w : World} (h : Six N w) (o : Obj) : Six N (w.alloc o) := h.after ((Below.refl _ _).alloc (Nat.le_refl _) _)
theorem below_six {B N : Nat} {w w' : World} (h : Below B w w') (hN : B ≤ N) (v0 v1 v2 v3 v4 v5 : Value) :
 Below B w ((((((w'.setCell ⟨N, 0, none⟩ v0).setCell ⟨N, 1, none⟩ v1).setCell ⟨N, 2, none⟩ v2).setCell ⟨N, 3, none⟩ v3).setCell ⟨N, 4, none⟩ v4).setCell ⟨N, 5, none⟩ v5) :=
 (((((h.setCell (p := ⟨N, 0, none⟩) hN _).setCell (p := ⟨N, 1, none⟩) hN _).setCell (p := ⟨N, 2, none⟩) hN _).setCell (p := ⟨N, 3, none⟩) hN _).setCell (p := ⟨N, 4, none⟩) hN _).setCell (p := ⟨N, 5, none⟩) hN _
theorem ParseInt_any (T : ByteArray) (hl : looksB T.data.toList = true) (h17 : T.size ≤ 17) (w : World) :
 Calls Tryz.prog 137 #[.string T, .int .i64 10, .int .i64 64] w fun e w' => e = .returned (.tuple #[.int .i64 (numOf T.data.toList), .nilIface]) ∧ Below w.heap.size w w' := by
 refine (Tryz.strconv_ParseInt_10_at64_ok T (by omega) _ (parse_num _ hl (by rw [Array.length_toList]; exact h17)) w).mono ?_
 rintro e w' ⟨rfl, rfl | ⟨t, rfl⟩⟩
 ·exact ⟨rfl, Below.refl _ _⟩
 exact ⟨rfl, Lib.bytesWorld_below _ _ _⟩
theorem number_long (rb : Nat) (s : ByteArray) (i n : Nat) (T : ByteArray) (w : World) (h : Rdr rb s i n w) (hT : T.size ≤ 6000) (h17 : 17 < T.size) :
 Calls Tryz.prog 121 #[.pointer (some ⟨rb, 0, none⟩), .string T] w fun e w' => e = .panicked (thrown (3, (i : Int))) ∧ Below w.heap.size w w' := by
 have HR : Hid (Rdr rb s i n w) := h
 clear h
 go_enter Tryz.func121, Tryz.ntmps121
 go_wp2_with fail
 refine (fault_any rb s i n 3 _ (HR.out.alloc _)).mono ?_
 rintro e w1 ⟨rfl, hb⟩
 have hk : Below w.heap.size w w1 := ((Below.refl _ _).alloc (Nat.le_refl _) _).trans (hb.mono (by simp))
 clear hb
 go_wp2_with fail
 exact ⟨rfl, rfl, hk⟩
theorem number_short (rb : Nat) (s : ByteArray) (i n : Nat) (T : ByteArray) (w : World) (h : Rdr rb s i n w) (h17 : T.size ≤ 17) (hl : looksB T.data.toList = true) :
 Calls Tryz.prog 121 #[.pointer (some ⟨rb, 0, none⟩), .string T] w fun e w' => (if rangeB (numOf T.data.toList) then e = .returned (dv (datNum (numOf T.data.toList)) none 0) else e = .panicked (thrown (3, (i : Int)))) ∧ Below w.heap.size w w' := by
 have HR : Hid (Rdr rb s i n w) := h
 have PI : Hid (∀ w, Calls Tryz.prog 137 #[.string T, .int .i64 10, .int .i64 64] w fun e w' => e = .returned (.tuple #[.int .i64 (numOf T.data.toList), .nilIface]) ∧ Below w.heap.size w w') := fun w => ParseInt_any T hl h17 w
 clear h hl
 generalize numOf T.data.toList = v at PI ⊢
 obtain ⟨b, HB⟩ : ∃ b, Hid (rangeB v = b) := ⟨_, rfl⟩
 have RA : Hid (∀ w, Calls Tryz.prog 93 #[.int .i64 v] w fun e w' => e = .returned (.bool b) ∧ w' = w) := fun w => by
  have := inRange_any v w
  rwa [HB.out] at this
 rw [HB.out]
 cases b
 ·simp only [Bool.false_eq_true, if_false]
  go_enter Tryz.func121, Tryz.ntmps121
  go_wp2_with fail
  refine (PI.out _).mono ?_
  rintro e w1 ⟨rfl, hb1⟩
  have hk1 : Hid (Rdr rb s i n w1) := (HR.out.alloc _).below hb1
  have hbb : Hid (Below w.heap.size w w1) := ((Below.refl _ _).alloc (Nat.le_refl _) _).trans (hb1.mono (by simp))
  have hz := hb1.size
  simp at hz
  clear hb1
  go_wp2_with fail
  refine (RA.out _).mono ?_
  rintro e w2 ⟨rfl, rfl⟩
  go_wp2_with fail
  refine (fault_any rb s i n 3 _ hk1.out).mono ?_
  rintro e w3 ⟨rfl, hb⟩
  have hk : Below w.heap.size w w3 := hbb.out.trans (hb.mono (by omega))
  clear hb
  go_wp2_with fail
  exact ⟨rfl, rfl, hk⟩
 simp only [if_true]
 go_enter Tryz.func121, Tryz.ntmps121
 go_wp2_with fail
 refine (PI.out _).mono ?_
 rintro e w1 ⟨rfl, hb1⟩
 have hk1 : Hid (Rdr rb s i n w1) := (HR.out.alloc _).below hb1
 have hbb : Hid (Below w.heap.size w w1) := ((Below.refl _ _).alloc (Nat.le_refl _) _).trans (hb1.mono (by simp))
 have hz := hb1.size
 simp at hz
 have hx := (Six.made w).after hb1
 obtain ⟨x0, x1, x2, x3, x4, x5, x6, x7⟩ := hx
 clear hb1
 go_wp2_with fail
 refine (RA.out _).mono ?_
 rintro e w2 ⟨rfl, rfl⟩
 go_wp2_with fail
 refine bodyPost_ret (v := dv (datNum v) none 0) (by simp [results, Tryz.results121, go_sem, dv, datNum, x1, x2, x3, x4, x5, x6]) rfl ⟨rfl, ?_⟩
 exact below_six hbb.out (Nat.le_refl _) _ _ _ _ _ _
theorem symbol_long (rb : Nat) (s : ByteArray) (i n : Nat) (T : ByteArray) (w : World) (h : Rdr rb s i n w) (hT : T.size ≤ 6000) (h20 : 20 < T.size) :
 Calls Tryz.prog 122 #[.pointer (some ⟨rb, 0, none⟩), .string T] w fun e w' => e = .panicked (thrown (7, (i : Int))) ∧ Below w.heap.size w w' := by
 have HR : Hid (Rdr rb s i n w) := h
 clear h
 go_enter Tryz.func122, Tryz.ntmps122
 go_wp2_with fail
 refine (fault_any rb s i n 7 _ (HR.out.alloc _)).mono ?_
 rintro e w1 ⟨rfl, hb⟩
 have hk : Below w.heap.size w w1 := ((Below.refl _ _).alloc (Nat.le_refl _) _).trans (hb.mono (by simp))
 clear hb
 go_wp2_with fail
 exact ⟨rfl, rfl, hk⟩
theorem ClonT_any (T : ByteArray) (hT : T.size ≤ 6000) (w : World) :
 Calls Tryz.prog 89 #[.string T] w fun e w' => e = .returned (.string T) ∧ Below w.heap.size w w' := by
 have CL : Hid (Calls Tryz.prog 119 #[.string T] w fun e w' => e = .returned (.string T) ∧ Below w.heap.size w w') := Tryz.stringslite_Clone T w (by omega)
 go_enter Tryz.func89, Tryz.ntmps89
 go_wp2_with fail
 refine CL.out.mono ?_
 rintro e w1 ⟨rfl, hb⟩
 go_wp2_with fail
 go_ret
 exact ⟨rfl, hb⟩
theorem symbol_short (rb : Nat) (T : ByteArray) (w : World) (h20 : T.size ≤ 20) :
 Calls Tryz.prog 122 #[.pointer (some ⟨rb, 0, none⟩), .string T] w fun e w' => e = .returned (dv (datSym T.data.toList) none 0) ∧ Below w.heap.size w w' := by
 have CL : Hid (∀ w, Calls Tryz.prog 89 #[.string T] w fun e w' => e = .returned (.string T) ∧ Below w.heap.size w w') := fun w => ClonT_any T (by omega) w
 go_enter Tryz.func122, Tryz.ntmps122
 go_wp2_with fail
 refine (CL.out _).mono ?_
 rintro e w1 ⟨rfl, hb1⟩
 have hbb : Hid (Below w.heap.size w w1) := ((Below.refl _ _).alloc (Nat.le_refl _) _).trans (hb1.mono (by simp))
 obtain ⟨x0, x1, x2, x3, x4, x5, x6, x7⟩ := (Six.made w).after hb1
 clear hb1
 go_wp2_with fail
 refine bodyPost_ret (v := dv (datSym T.data.toList) none 0) (by simp [results, Tryz.results122, go_sem, dv, datSym, x1, x2, x3, x4, x5, x6]) rfl ⟨rfl, ?_⟩
 exact below_six hbb.out (Nat.le_refl _) _ _ _ _ _ _
end
section
open Go.RowKit
theorem keep_six {c N : Nat} {a b : World} (h : Keep c a b) (hN : a.heap.size ≤ N) (v0 v1 v2 v3 v4 v5 : Value) :
 Keep c a ((((((b.setCell ⟨N, 0, none⟩ v0).setCell ⟨N, 1, none⟩ v1).setCell ⟨N, 2, none⟩ v2).setCell ⟨N, 3, none⟩ v3).setCell ⟨N, 4, none⟩ v4).setCell ⟨N, 5, none⟩ v5) :=
 (((((h.setNew ⟨N, 0, none⟩ hN _).setNew ⟨N, 1, none⟩ hN _).setNew ⟨N, 2, none⟩ hN _).setNew ⟨N, 3, none⟩ hN _).setNew ⟨N, 4, none⟩ hN _).setNew ⟨N, 5, none⟩ hN _
theorem Rdr.other {rb : Nat} {s : ByteArray} {i n : Nat} {w : World} (h : Rdr rb s i n w) (p : Addr) (hp : p.block ≠ rb) (v : Value) : Rdr rb s i n (w.setCell p v) := by
 have e : ∀ q, (w.setCell p v).cell? ⟨rb, q, none⟩ = w.cell? ⟨rb, q, none⟩ := fun q => World.cell?_of_block (Below.heap_setCell _ _ _ _ (fun h => hp h.symm))
 exact ⟨by simp [World.setCell]; exact h.lt, (e _).trans h.c0, (e _).trans h.c1, (e _).trans h.c2, by rw [World.frozen?_setCell]; exact h.z1, by rw [World.frozen?_setCell]; exact h.z2⟩
theorem Rdr.six {rb N : Nat} {s : ByteArray} {i n : Nat} {w : World} (h : Rdr rb s i n w) (hN : N ≠ rb) (v0 v1 v2 v3 v4 v5 : Value) :
 Rdr rb s i n ((((((w.setCell ⟨N, 0, none⟩ v0).setCell ⟨N, 1, none⟩ v1).setCell ⟨N, 2, none⟩ v2).setCell ⟨N, 3, none⟩ v3).setCell ⟨N, 4, none⟩ v4).setCell ⟨N, 5, none⟩ v5) :=
 (((((h.other ⟨N, 0, none⟩ hN _).other ⟨N, 1, none⟩ hN _).other ⟨N, 2, none⟩ hN _).other ⟨N, 3, none⟩ hN _).other ⟨N, 4, none⟩ hN _).other ⟨N, 5, none⟩ hN _
theorem wordAhead_from (s : ByteArray) (i : Nat) (hs : s.size ≤ 6000) : ∃ T : ByteArray, T.data.toList = byteL (s.data.toList.drop i) ∧ T.size ≤ 6000 ∧ i + T.size ≤ max i s.size ∧ ∀ w, Calls Tryz.prog 49 #[.string (s.extract i s.size)] w fun e w' => e = .returned (.string T) ∧ w' = w := by
 refine ⟨(s.extract i s.size).extract 0 (wl (s.extract i s.size).data.toList), ?_, ?_, ?_, fun w => wordAhead_any _ (by rw [ByteArray.size_extract]; unfold maxLen; omega) w⟩
 ·rw [ByteArray.data_extract]
  simp only [Array.toList_extract, List.extract_eq_take_drop]
  rw [drop_extract]
  simp
  exact take_takeWhile _
 ·rw [ByteArray.size_extract, ByteArray.size_extract]
  omega
 rw [ByteArray.size_extract, ByteArray.size_extract]
 omega
set_option maxRecDepth 100000 in
set_option maxHeartbeats 3200000 in
theorem word_any (rb : Nat) (s : ByteArray) (i n : Nat) (w : World) (h : Rdr rb s i n w) (hi : i < s.size) (hs : s.size ≤ 6000) :
 Calls Tryz.prog 101 #[.pointer (some ⟨rb, 0, none⟩)] w (Out rb s (wordAt (byteL (s.data.toList.drop i)) i n) w) := by
 obtain ⟨T, hT, hTs, hTi, hwa⟩ := wordAhead_from s i hs
 have hTi' : i + T.size ≤ s.size := by omega
 rw [← hT]
 have hTl : T.data.toList.length = T.size := Array.length_toList
 have HTL : Hid (T.data.toList.length = T.size) := hTl
 have WA : Hid (∀ w, Calls Tryz.prog 49 #[.string (s.extract i s.size)] w fun e w' => e = .returned (.string T) ∧ w' = w) := hwa
 obtain ⟨b, HB⟩ : ∃ b, Hid (looksB T.data.toList = b) := ⟨_, rfl⟩
 have LL : Hid (∀ w, Calls Tryz.prog 50 #[.string T] w fun e w' => e = .returned (.bool b) ∧ w' = w) := fun w => by
  have := looksLike_any T (by unfold maxLen; omega) w
  rwa [HB.out] at this
 have c0 := h.c0
 have c1 := h.c1
 have l1 := h.lt
 have HR : Hid (Rdr rb s i n w) := h
 clear h hT hwa hTl hTi
 have SIX : ∀ nq, Six w.heap.size (((w.alloc (Obj.cells #[Value.int IntKind.i64 0, Value.int IntKind.i64 0, Value.string { data := #[] }, Value.int IntKind.i64 0, Value.int IntKind.i64 0, Value.slice none 0 0] 26)).drewN nq).alloc (Obj.cells #[Value.int IntKind.i64 0, Value.int IntKind.i64 0, Value.string { data := #[] }, Value.int IntKind.i64 0, Value.int IntKind.i64 0, Value.slice none 0 0] 26)) := fun nq => ((Six.made w).after (below_drewN (Below.refl _ _) nq)).alloc _
 have SIX2 : ∀ nq, Six (w.heap.size + 1) (((w.alloc (Obj.cells #[Value.int IntKind.i64 0, Value.int IntKind.i64 0, Value.string { data := #[] }, Value.int IntKind.i64 0, Value.int IntKind.i64 0, Value.slice none 0 0] 26)).drewN nq).alloc (Obj.cells #[Value.int IntKind.i64 0, Value.int IntKind.i64 0, Value.string { data := #[] }, Value.int IntKind.i64 0, Value.int IntKind.i64 0, Value.slice none 0 0] 26)) := fun nq => by
  have := Six.made ((w.alloc (Obj.cells #[Value.int IntKind.i64 0, Value.int IntKind.i64 0, Value.string { data := #[] }, Value.int IntKind.i64 0, Value.int IntKind.i64 0, Value.slice none 0 0] 26)).drewN nq)
  have e : ((w.alloc (Obj.cells #[Value.int IntKind.i64 0, Value.int IntKind.i64 0, Value.string { data := #[] }, Value.int IntKind.i64 0, Value.int IntKind.i64 0, Value.slice none 0 0] 26)).drewN nq).heap.size = w.heap.size + 1 := by
   have : ∀ (x : World) (k : Nat), (x.drewN k).heap = x.heap := fun _ _ => rfl
   rw [this]; simp
  rwa [e] at this
 have RDR : ∀ nq, Rdr rb s i n (((w.alloc (Obj.cells #[Value.int IntKind.i64 0, Value.int IntKind.i64 0, Value.string { data := #[] }, Value.int IntKind.i64 0, Value.int IntKind.i64 0, Value.slice none 0 0] 26)).drewN nq).alloc (Obj.cells #[Value.int IntKind.i64 0, Value.int IntKind.i64 0, Value.string { data := #[] }, Value.int IntKind.i64 0, Value.int IntKind.i64 0, Value.slice none 0 0] 26)) := fun nq => ((HR.out.alloc _).drewN nq).alloc _
 have BEL : ∀ nq, Below w.heap.size w (((w.alloc (Obj.cells #[Value.int IntKind.i64 0, Value.int IntKind.i64 0, Value.string { data := #[] }, Value.int IntKind.i64 0, Value.int IntKind.i64 0, Value.slice none 0 0] 26)).drewN nq).alloc (Obj.cells #[Value.int IntKind.i64 0, Value.int IntKind.i64 0, Value.string { data := #[] }, Value.int IntKind.i64 0, Value.int IntKind.i64 0, Value.slice none 0 0] 26)) := fun nq => (below_drewN ((Below.refl _ _).alloc (Nat.le_refl _) _) nq).alloc (by have : ∀ (x : World) (k : Nat), (x.drewN k).heap = x.heap := fun _ _ => rfl; rw [this]; simp) _
 have SIXH : Hid _ := SIX
 have SIX2H : Hid _ := SIX2
 have RDRH : Hid _ := RDR
 have BELH : Hid _ := BEL
 clear SIX SIX2 RDR BEL
 cases b
 ·-- a symbol
  by_cases h20 : 20 < T.size
  ·have HW : Hid (wordAt T.data.toList i n = .inl (7, (i : Int))) := by
    show wordAt T.data.toList i n = .inl (7, (i : Int))
    unfold wordAt
    rw [HB.out, HTL.out, if_neg (by simp), if_pos h20]
   go_enter Tryz.func101, Tryz.ntmps101
   go_wp2_with fail
   go_quiet ((go_at_call 49; exact Calls.quiet_of_same (WA.out _)))
   go_wp2_with fail
   refine (LL.out _).mono ?_
   rintro e w2 ⟨rfl, rfl⟩
   go_wp2_with fail
   refine (symbol_long rb s i n T _ (RDRH.out _) hTs h20).mono ?_
   rintro e w3 ⟨rfl, hb3⟩
   have hbw := (BELH.out _).trans (hb3.mono (by have := (BELH.out ‹_›).size; exact this))
   clear hb3
   go_wp2_with fail
   refine ⟨rfl, ?_⟩
   rw [HW.out]
   exact ⟨rfl, (Keep.refl _ _).below hbw⟩
  have HW : Hid (wordAt T.data.toList i n = .inr (datSym T.data.toList, i + T.size, n)) := by
   show wordAt T.data.toList i n = .inr (datSym T.data.toList, i + T.size, n)
   unfold wordAt
   rw [HB.out, HTL.out, if_neg (by simp), if_neg h20]
  have SY : Hid (∀ w, Calls Tryz.prog 122 #[.pointer (some ⟨rb, 0, none⟩), .string T] w fun e w' => e = .returned (.agg #[.int .i64 3, .int .i64 0, .string T, .int .i64 0, .int .i64 0, .slice none 0 0]) ∧ Below w.heap.size w w') := fun w => symbol_short rb T w (by omega)
  go_enter Tryz.func101, Tryz.ntmps101
  go_wp2_with fail
  go_quiet ((go_at_call 49; exact Calls.quiet_of_same (WA.out _)))
  go_wp2_with fail
  refine (LL.out _).mono ?_
  rintro e w2 ⟨rfl, rfl⟩
  go_wp2_with fail
  refine (SY.out _).mono ?_
  rintro e w3 ⟨rfl, hb3⟩
  have hbw := (BELH.out _).trans (hb3.mono (by have := (BELH.out ‹_›).size; exact this))
  obtain ⟨x0, x1, x2, x3, x4, x5, x6, x7⟩ := (SIXH.out _).after hb3
  obtain ⟨y0, y1, y2, y3, y4, y5, y6, y7⟩ := (SIX2H.out _).after hb3
  have RD : Hid (Rdr rb s i n w3) := (RDRH.out _).below hb3
  obtain ⟨r0, r1, r2, r3, r4, r5⟩ := (RDRH.out _).below hb3
  have HBW : Hid (Below w.heap.size w w3) := hbw
  clear hb3 hbw c0 c1
  go_wp2_with fail
  refine bodyPost_ret (v := dv (datSym T.data.toList) none 0) (by simp [results, Tryz.results101, go_sem, dv, datSym, datNum, x1, x2, x3, x4, x5, x6]) rfl ?_
  rw [HW.out]
  refine ⟨?_, ?_, none, 0, 0, rfl, rfl⟩
  ·exact keep_six ((keep_six ((Keep.refl _ _).below HBW.out) (Nat.le_succ _) _ _ _ _ _ _).setCell ⟨rb, 1, none⟩ rfl _) (Nat.le_refl _) _ _ _ _ _ _
  exact (((RD.out.six (by omega) _ _ _ _ _ _).move' _ _ (by omega)).six (by omega) _ _ _ _ _ _)
 -- a number
 by_cases h17 : 17 < T.size
 ·have HW : Hid (wordAt T.data.toList i n = .inl (3, (i : Int))) := by
   show wordAt T.data.toList i n = .inl (3, (i : Int))
   unfold wordAt
   rw [HB.out, HTL.out, if_pos rfl, if_pos h17]
  go_enter Tryz.func101, Tryz.ntmps101
  go_wp2_with fail
  go_quiet ((go_at_call 49; exact Calls.quiet_of_same (WA.out _)))
  go_wp2_with fail
  refine (LL.out _).mono ?_
  rintro e w2 ⟨rfl, rfl⟩
  go_wp2_with fail
  refine (number_long rb s i n T _ (RDRH.out _) hTs h17).mono ?_
  rintro e w3 ⟨rfl, hb3⟩
  have hbw := (BELH.out _).trans (hb3.mono (by have := (BELH.out ‹_›).size; exact this))
  clear hb3
  go_wp2_with fail
  refine ⟨rfl, ?_⟩
  rw [HW.out]
  exact ⟨rfl, (Keep.refl _ _).below hbw⟩
 have NU : Hid (∀ w, Rdr rb s i n w → Calls Tryz.prog 121 #[.pointer (some ⟨rb, 0, none⟩), .string T] w fun e w' => (if rangeB (numOf T.data.toList) then e = .returned (.agg #[.int .i64 1, .int .i64 (numOf T.data.toList), .string ⟨#[]⟩, .int .i64 0, .int .i64 0, .slice none 0 0]) else e = .panicked (thrown (3, (i : Int)))) ∧ Below w.heap.size w w') := fun w hr => number_short rb s i n T w hr (by omega) HB.out
 obtain ⟨b2, HB2⟩ : ∃ b2, Hid (rangeB (numOf T.data.toList) = b2) := ⟨_, rfl⟩
 rw [HB2.out] at NU
 cases b2
 ·have HW : Hid (wordAt T.data.toList i n = .inl (3, (i : Int))) := by
   show wordAt T.data.toList i n = .inl (3, (i : Int))
   unfold wordAt
   rw [HB.out, HTL.out, if_pos rfl, if_neg h17, HB2.out, if_neg (by simp)]
  simp only [Bool.false_eq_true, if_false] at NU
  go_enter Tryz.func101, Tryz.ntmps101
  go_wp2_with fail
  go_quiet ((go_at_call 49; exact Calls.quiet_of_same (WA.out _)))
  go_wp2_with fail
  refine (LL.out _).mono ?_
  rintro e w2 ⟨rfl, rfl⟩
  go_wp2_with fail
  refine (NU.out _ (RDRH.out _)).mono ?_
  rintro e w3 ⟨rfl, hb3⟩
  have hbw := (BELH.out _).trans (hb3.mono (by have := (BELH.out ‹_›).size; exact this))
  clear hb3
  go_wp2_with fail
  refine ⟨rfl, ?_⟩
  rw [HW.out]
  exact ⟨rfl, (Keep.refl _ _).below hbw⟩
 have HW : Hid (wordAt T.data.toList i n = .inr (datNum (numOf T.data.toList), i + T.size, n)) := by
  show wordAt T.data.toList i n = .inr (datNum (numOf T.data.toList), i + T.size, n)
  unfold wordAt
  rw [HB.out, HTL.out, if_pos rfl, if_neg h17, HB2.out, if_pos rfl]
 simp only [if_true] at NU
 generalize numOf T.data.toList = v at NU HW HB2
 go_enter Tryz.func101, Tryz.ntmps101
 go_wp2_with fail
 go_quiet ((go_at_call 49; exact Calls.quiet_of_same (WA.out _)))
 go_wp2_with fail
 refine (LL.out _).mono ?_
 rintro e w2 ⟨rfl, rfl⟩
 go_wp2_with fail
 refine (NU.out _ (RDRH.out _)).mono ?_
 rintro e w3 ⟨rfl, hb3⟩
 have hbw := (BELH.out _).trans (hb3.mono (by have := (BELH.out ‹_›).size; exact this))
 obtain ⟨x0, x1, x2, x3, x4, x5, x6, x7⟩ := (SIXH.out _).after hb3
 obtain ⟨y0, y1, y2, y3, y4, y5, y6, y7⟩ := (SIX2H.out _).after hb3
 have RD : Hid (Rdr rb s i n w3) := (RDRH.out _).below hb3
 obtain ⟨r0, r1, r2, r3, r4, r5⟩ := (RDRH.out _).below hb3
 have HBW : Hid (Below w.heap.size w w3) := hbw
 clear hb3 hbw c0 c1
 go_wp2_with fail
 refine bodyPost_ret (v := dv (datNum v) none 0) (by simp [results, Tryz.results101, go_sem, dv, datSym, datNum, x1, x2, x3, x4, x5, x6]) rfl ?_
 rw [HW.out]
 refine ⟨?_, ?_, none, 0, 0, rfl, rfl⟩
 ·exact keep_six ((keep_six ((Keep.refl _ _).below HBW.out) (Nat.le_succ _) _ _ _ _ _ _).setCell ⟨rb, 1, none⟩ rfl _) (Nat.le_refl _) _ _ _ _ _ _
 exact (((RD.out.six (by omega) _ _ _ _ _ _).move' _ _ (by omega)).six (by omega) _ _ _ _ _ _)
end
section
open Go.RowKit
def truthAt (t : List UInt8) (i n : Nat) : Rd Dat :=
 if t = [116] then .inr (datBool 1, i + 2, n) else if t = [102] then .inr (datBool 0, i + 2, n) else .inl (2, (i : Int))
set_option maxRecDepth 100000 in
set_option maxHeartbeats 3200000 in
theorem truth_read (rb : Nat) (s : ByteArray) (i n : Nat) (w : World) (h : Rdr rb s i n w) (hi : i < s.size) (hs : s.size ≤ 6000) :
 Calls Tryz.prog 100 #[.pointer (some ⟨rb, 0, none⟩)] w (Out rb s (truthAt (byteL (s.data.toList.drop (i + 1))) i n) w) := by
 obtain ⟨T, hT, hTs, hTi, hwa⟩ := wordAhead_from s (i + 1) hs
 rw [← hT]
 have WA : Hid (∀ w, Calls Tryz.prog 49 #[.string (s.extract (i + 1) s.size)] w fun e w' => e = .returned (.string T) ∧ w' = w) := hwa
 have c0 := h.c0
 have c1 := h.c1
 have l1 := h.lt
 have z1 := h.z1
 have HR : Hid (Rdr rb s i n w) := h
 clear h hT hwa hTi
 have tl := ByteArray.toList_eq T
 have TL : Hid (T.toList = T.data.toList) := tl
 clear tl
 by_cases t1 : T.data.toList = [116]
 ·have HW : Hid (truthAt T.data.toList i n = .inr (datBool 1, i + 2, n)) := by
   show truthAt T.data.toList i n = .inr (datBool 1, i + 2, n)
   unfold truthAt
   rw [if_pos t1]
  have e1 : T = ⟨#[116]⟩ := WideShapes.bytes_inj t1
  subst e1
  clear t1 TL
  go_enter Tryz.func100, Tryz.ntmps100
  go_wp2_with fail
  go_quiet ((go_at_call 49; exact Calls.quiet_of_same (WA.out _)))
  go_wp2_with fail
  refine bodyPost_ret (v := dv (datBool 1) none 0) (by simp [results, Tryz.results100, go_sem, dv, datBool]) rfl ?_
  rw [HW.out]
  refine ⟨?_, ?_, none, 0, 0, rfl, rfl⟩
  ·exact keep_six (((((((Keep.refl _ _).alloc _).alloc _).drewN _).setNew ⟨w.heap.size + 1, 1, none⟩ (Nat.le_succ _) _)).setCell ⟨rb, 1, none⟩ rfl _) (Nat.le_refl _) _ _ _ _ _ _
  exact ((((((HR.out.alloc _).alloc _).drewN _).other ⟨w.heap.size + 1, 1, none⟩ (by simp; omega) _).move' _ _ (by omega)).six (by omega) _ _ _ _ _ _)
 by_cases t2 : T.data.toList = [102]
 ·have HW : Hid (truthAt T.data.toList i n = .inr (datBool 0, i + 2, n)) := by
   show truthAt T.data.toList i n = .inr (datBool 0, i + 2, n)
   unfold truthAt
   rw [if_neg t1, if_pos t2]
  have e1 : T = ⟨#[102]⟩ := WideShapes.bytes_inj t2
  subst e1
  clear t1 t2 TL
  go_enter Tryz.func100, Tryz.ntmps100
  go_wp2_with fail
  go_quiet ((go_at_call 49; exact Calls.quiet_of_same (WA.out _)))
  go_wp2_with fail
  refine bodyPost_ret (v := dv (datBool 0) none 0) (by simp [results, Tryz.results100, go_sem, dv, datBool]) rfl ?_
  rw [HW.out]
  refine ⟨?_, ?_, none, 0, 0, rfl, rfl⟩
  ·exact keep_six (((((((Keep.refl _ _).alloc _).alloc _).drewN _).setNew ⟨w.heap.size + 1, 1, none⟩ (Nat.le_succ _) _)).setCell ⟨rb, 1, none⟩ rfl _) (Nat.le_refl _) _ _ _ _ _ _
  exact ((((((HR.out.alloc _).alloc _).drewN _).other ⟨w.heap.size + 1, 1, none⟩ (by simp; omega) _).move' _ _ (by omega)).six (by omega) _ _ _ _ _ _)
 have HW : Hid (truthAt T.data.toList i n = .inl (2, (i : Int))) := by
  show truthAt T.data.toList i n = .inl (2, (i : Int))
  unfold truthAt
  rw [if_neg t1, if_neg t2]
 have e1 : (T.toList == [116]) = false := by rw [TL.out]; simpa using t1
 have e2 : (T.toList == [102]) = false := by rw [TL.out]; simpa using t2
 clear t1 t2 TL
 go_enter Tryz.func100, Tryz.ntmps100
 go_wp2_with fail
 go_quiet ((go_at_call 49; exact Calls.quiet_of_same (WA.out _)))
 go_wp2_with fail
 refine (fault_any rb s i n 2 _ (((HR.out.alloc _).alloc _).drewN _)).mono ?_
 rintro e w1 ⟨rfl, hb⟩
 have hk : Keep rb w w1 := ((((Keep.refl _ _).alloc _).alloc _).drewN _).below hb
 clear hb
 go_wp2_with fail
 refine ⟨rfl, ?_⟩
 rw [HW.out]
 exact ⟨rfl, hk⟩
end
section
open Go.RowKit
theorem run_append_whereT {P : Program} (w : World) (base : Nat) (t ty e : TypeId) (i : TypeInfo) (z : Value) (size bytes : Nat) (ht : P.underlying t = some (.slice e)) (hi : P.info? e = some i) (hz : i.zero = some z)
 (hsize : i.size = size) (hby : i.bytes = bytes) (hzs : z.cells.size = size) (hsz : 0 < size)
 (v : Value) (n : Nat) (xs : List Value) (hown : w.ownsRow base e size v n xs)
 (a : Addr) (m c : Nat) (news : List Value) (hl : news.length = m * size) (hnews : ∀ j u, news[j]? = some u → w.cell? (a.add j) = some u) (h1 : ∀ u ∈ news, u.oneCell' = true) (hm0 : 0 < m)
 (h63 : n + m ≤ maxLen) (hbytes : (n + m) * bytes ≤ 140737488355328) (hbase : base ≤ w.heap.size) :
 ∃ v' w', (Builtin.append_ #[t, t] ty #[v, .slice (some a) m c]).run P w = .ok v' w' ∧ w'.ownsRow base e size v' (n + m) (xs ++ news) ∧ w.grownBy w' v.ownBlock ∧ (v'.ownBlock = v.ownBlock ∨ v'.ownBlock = some w.heap.size) := by
 obtain ⟨v', w', hr, h2, h3, _⟩ := run_append_own (P := P) w base t ty e i z size bytes ht hi hz hsize hby hzs hsz v n xs hown a m c news hl hnews h1 h63 hbytes hbase
 refine ⟨v', w', hr, h2, h3, ?_⟩
 subst hsize
 subst hby
 have hsmall : n + m ≤ 9223372036854775807 := by simp only [maxLen] at h63; omega
 rcases hown.2 with ⟨rfl, rfl⟩ | ⟨g, cap, cur, rfl, hbg, hg, hnc, hcm, hcs, htake⟩
 ·have hr2 := run_append_nil (P := P) w t ty e i z ht hi hz a m c news hl hnews hm0 (by omega) (by have hb := hbytes; simp only [Nat.zero_add] at hb; omega)
  rw [hr] at hr2
  obtain ⟨rfl, _⟩ := Result.ok.inj hr2
  exact Or.inr rfl
 by_cases hroom : n + m ≤ cap
 ·have hfit : n * i.size + news.length ≤ cur.size := by rw [hl, hcs, ← Nat.add_mul]; exact Nat.mul_le_mul_right _ hroom
  have hr2 := run_append_room (P := P) w t ty e i ht hi g n cap cur hg a m c news hl hnews h1 hroom hfit
  rw [hr] at hr2
  obtain ⟨rfl, _⟩ := Result.ok.inj hr2
  exact Or.inl rfl
 have holds : ∀ j u, xs[j]? = some u → w.cell? ((⟨g, 0, none⟩ : Addr).add j) = some u := hown.cells (g := g) rfl
 have hr2 := run_append_grow (P := P) w t ty e i z ht hi hz ⟨g, 0, none⟩ n cap xs hown.1 holds a m c news hl hnews (by omega) (by omega) (growslice_fits (by omega) hbytes)
 rw [hr] at hr2
 obtain ⟨rfl, _⟩ := Result.ok.inj hr2
 exact Or.inr rfl
theorem wpList_append_whereT {P : Program} {w : World} {ops : Array Oper} {rest : List Oper} {o : Oper} {a : Act} {Q : Exit → Act → World → Prop} (hgd : o.guard = none) (s x : Operand) (t : TypeId)
 (ho : o.op = .call { callee := .builtin .append, args := #[s, x], argTypes := #[t, t] })
 (base : Nat) (e : TypeId) (i : TypeInfo) (z : Value) (size bytes : Nat) (ht : P.underlying t = some (.slice e)) (hi : P.info? e = some i) (hz : i.zero = some z)
 (hsize : i.size = size) (hby : i.bytes = bytes) (hzs : z.cells.size = size) (hsz : 0 < size)
 (v : Value) (n : Nat) (xs : List Value) (hs : a.eval s = v) (hown : w.ownsRow base e size v n xs)
 (ad : Addr) (m c : Nat) (news : List Value) (hx : a.eval x = .slice (some ad) m c) (hl : news.length = m * size) (hnews : ∀ j u, news[j]? = some u → w.cell? (ad.add j) = some u) (h1 : ∀ u ∈ news, u.oneCell' = true) (hm0 : 0 < m)
 (h63 : n + m ≤ maxLen) (hbytes : (n + m) * bytes ≤ 140737488355328) (hbase : base ≤ w.heap.size)
 (h : ∀ v' w', w'.ownsRow base e size v' (n + m) (xs ++ news) → w.grownBy w' v.ownBlock → (v'.ownBlock = v.ownBlock ∨ v'.ownBlock = some w.heap.size) → wpList P ops Q rest (a.put o.dst v') w') : wpList P ops Q (o :: rest) a w := by
 refine wpList_plain hgd fun _ hK => ?_
 obtain ⟨v', w', hr, h2, h3, h4⟩ := run_append_whereT (P := P) w base t o.type e i z size bytes ht hi hz hsize hby hzs hsz v n xs hown ad m c news hl hnews h1 hm0 h63 hbytes hbase
 unfold Oper.wp execOp
 simp only [ho, resolve, invoke, builtin, Sem.run_bind, Sem.run_pure, Result.andThen_ok, List.map_toArray, List.map_cons, List.map_nil, hs, hx, hr]
 exact hK _ _ (h v' w' h2 h3 h4)
def flatT (es : List (Dat × Option Addr × Nat)) : List Value := es.flatMap fun e => [.int .i64 e.1.kind, .int .i64 e.1.n, .string e.1.name, .int .i64 e.1.stamp, .int .i64 e.1.lib, .slice e.2.1 e.1.kids.length e.2.2]
structure Row (B : Nat) (v : Value) (es : List (Dat × Option Addr × Nat)) (w : World) : Prop where
 own : w.ownsRow B 26 6 v es.length (flatT es)
 kids : ∀ e ∈ es, e.1.name.size ≤ maxLen ∧ ∃ f, Dw (fun b => B ≤ b ∧ b < w.heap.size ∧ some b ≠ v.ownBlock) w f e.2.1 e.2.2 e.1.kids
theorem Row.nil (B : Nat) (w : World) : Row B (.slice none 0 0) [] w := ⟨World.ownsRow_nil _ _ _ _, by simp⟩
theorem Row.keep {B rb : Nat} {v : Value} {es : List (Dat × Option Addr × Nat)} {w w' : World} (h : Row B v es w) (hk : Keep rb w w') (hrb : rb < B) : Row B v es w' := by
 refine ⟨h.own.kept hk ?_, fun e he => ?_⟩
 ·cases hv : v.ownBlock with
  | none => exact Or.inl rfl
  | some k =>
   have := (h.own.lt k hv).1
   refine Or.inr ?_
   intro e
   have := Option.some.inj e
   omega
 obtain ⟨hn, f, hd⟩ := h.kids e he
 refine ⟨hn, f, Dw.stay ?_ ?_ f _ _ _ hd⟩
 ·intro k hk2
  exact hk.block k hk2.2.1 (by simp; omega)
 intro k hk2
 exact ⟨hk2.1, Nat.lt_of_lt_of_le hk2.2.1 hk.size, hk2.2.2⟩
theorem Row.below {B : Nat} {v : Value} {es : List (Dat × Option Addr × Nat)} {w w' : World} (h : Row B v es w) (hk : Below w.heap.size w w') : Row B v es w' := by
 refine ⟨h.own.kept (row := none) ⟨hk.os, hk.tape, hk.output, hk.size, fun k h1 _ => hk.block k h1⟩ (by cases hv : v.ownBlock <;> simp), fun e he => ?_⟩
 obtain ⟨hn, f, hd⟩ := h.kids e he
 refine ⟨hn, f, Dw.stay ?_ ?_ f _ _ _ hd⟩
 ·intro k hk2
  exact hk.block k hk2.2.1
 intro k hk2
 exact ⟨hk2.1, Nat.lt_of_lt_of_le hk2.2.1 hk.size, hk2.2.2⟩
theorem Row.push {B : Nat} {v v' : Value} {es : List (Dat × Option Addr × Nat)} {wr w w' : World} (o : Obj) {d : Dat} {a : Option Addr} {cap f : Nat} (h : Row B v es w) (hB : B ≤ wr.heap.size) (hv : ∀ k, v.ownBlock = some k → k < wr.heap.size)
 (hd : Dw (NewT wr w) w f a cap d.kids) (hn : d.name.size ≤ maxLen)
 (hown : w'.ownsRow B 26 6 v' (es.length + 1) (flatT es ++ [.int .i64 d.kind, .int .i64 d.n, .string d.name, .int .i64 d.stamp, .int .i64 d.lib, .slice a d.kids.length cap]))
 (hg : (w.alloc o).grownBy w' v.ownBlock) (hw : v'.ownBlock = v.ownBlock ∨ v'.ownBlock = some (w.heap.size + 1)) : Row B v' (es ++ [(d, a, cap)]) w' := by
 have hsz : (w.alloc o).heap.size = w.heap.size + 1 := by simp
 have hold : ∀ k, k < w.heap.size → some k ≠ v.ownBlock → w'.heap[k]? = w.heap[k]? := fun k hk hne => (hg.block k (by omega) hne).trans (Below.heap_alloc _ _ _ hk)
 have hnew : ∀ k, k < w.heap.size → some k ≠ v.ownBlock → some k ≠ v'.ownBlock := by
  intro k hk hne
  rcases hw with e | e
  ·rw [e]; exact hne
  rw [e]
  intro e2
  have := Option.some.inj e2
  omega
 have hle : w.heap.size ≤ w'.heap.size := Nat.le_trans (by omega) hg.size
 refine ⟨?_, fun e he => ?_⟩
 ·have e1 : flatT (es ++ [(d, a, cap)]) = flatT es ++ [.int .i64 d.kind, .int .i64 d.n, .string d.name, .int .i64 d.stamp, .int .i64 d.lib, .slice a d.kids.length cap] := by simp [flatT]
  rw [e1, List.length_append]
  exact hown
 rcases List.mem_append.1 he with he | he
 ·obtain ⟨hn, f, hd⟩ := h.kids e he
  refine ⟨hn, f, Dw.stay (fun k hk => hold k hk.2.1 hk.2.2) (fun k hk => ⟨hk.1, Nat.lt_of_lt_of_le hk.2.1 hle, hnew k hk.2.1 hk.2.2⟩) f _ _ _ hd⟩
 simp at he
 subst he
 have hne : ∀ k, NewT wr w k → some k ≠ v.ownBlock := by
  intro k hk e
  have := hv k e.symm
  have := hk.1
  omega
 exact ⟨hn, f, Dw.stay (fun k hk => hold k hk.2 (hne k hk)) (fun k hk => ⟨by have := hk.1; omega, Nat.lt_of_lt_of_le hk.2 hle, hnew k hk.2 (hne k hk)⟩) f _ _ _ hd⟩
theorem Row.lie {B : Nat} {v : Value} {es : List (Dat × Option Addr × Nat)} {w : World} (h : Row B v es w) (hlen : es.length ≤ 9223372036854775807) : ∃ a cap f, v = .slice a (es.map (·.1)).length cap ∧ Dw (fun b => B ≤ b ∧ b < w.heap.size) w f a cap (es.map (·.1)) := by
 -- one depth for all
 have hfuel : ∃ F, ∀ e ∈ es, Dw (fun b => B ≤ b ∧ b < w.heap.size) w F e.2.1 e.2.2 e.1.kids := by
  have aux : ∀ (l : List (Dat × Option Addr × Nat)), (∀ e ∈ l, ∃ f, Dw (fun b => B ≤ b ∧ b < w.heap.size) w f e.2.1 e.2.2 e.1.kids) → ∃ F, ∀ e ∈ l, Dw (fun b => B ≤ b ∧ b < w.heap.size) w F e.2.1 e.2.2 e.1.kids := by
   intro l
   induction l with
   | nil => exact fun _ => ⟨0, by simp⟩
   | cons x r ih =>
    intro hx
    obtain ⟨F, hF⟩ := ih (fun e he => hx e (List.mem_cons_of_mem _ he))
    obtain ⟨f, hf⟩ := hx x (by simp)
    refine ⟨f + F, fun e he => ?_⟩
    rcases List.mem_cons.1 he with rfl | he
    ·exact hf.upto F
    have := (hF e he).upto f
    rwa [Nat.add_comm] at this
  refine aux es (fun e he => ?_)
  obtain ⟨_, f, hd⟩ := h.kids e he
  exact ⟨f, Dw.stay (fun _ _ => rfl) (fun k hk => ⟨hk.1, hk.2.1⟩) f _ _ _ hd⟩
 obtain ⟨F, hF⟩ := hfuel
 rcases h.own.2 with ⟨rfl, h0⟩ | ⟨g, cap, cur, rfl, hbg, hg, hnc, hcm, hcs, htake⟩
 ·have : es = [] := List.length_eq_zero_iff.1 h0
  subst this
  exact ⟨none, 0, 0, rfl, rfl⟩
 refine ⟨some ⟨g, 0, none⟩, cap, F + 1, by simp, ?_⟩
 refine ⟨⟨by simp; exact hlen, by simpa using hnc⟩, ?_⟩
 refine Or.inr ⟨g, 0, rfl, ⟨hbg, (Array.getElem?_eq_some_iff.1 hg).1⟩, ?_⟩
 intro i d hd
 rw [List.getElem?_map] at hd
 obtain ⟨e, he, rfl⟩ := Option.map_eq_some_iff.1 hd
 have hmem : e ∈ es := List.mem_of_getElem? he
 have hcell : ∀ j u, (flatT es)[j]? = some u → w.cell? ⟨g, j, none⟩ = some u := by
  intro j u hu
  have := h.own.cells (g := g) rfl j u hu
  have hadd : (⟨g, 0, none⟩ : Addr).add j = ⟨g, j, none⟩ := by unfold Addr.add; split <;> simp_all
  rwa [hadd] at this
 have hflat : ∀ k, k < 6 → (flatT es)[i * 6 + k]? = [Value.int .i64 e.1.kind, .int .i64 e.1.n, .string e.1.name, .int .i64 e.1.stamp, .int .i64 e.1.lib, .slice e.2.1 e.1.kids.length e.2.2][k]? := by
  have aux : ∀ (l : List (Dat × Option Addr × Nat)) (i : Nat), l[i]? = some e → ∀ k, k < 6 → (flatT l)[i * 6 + k]? = [Value.int .i64 e.1.kind, .int .i64 e.1.n, .string e.1.name, .int .i64 e.1.stamp, .int .i64 e.1.lib, .slice e.2.1 e.1.kids.length e.2.2][k]? := by
   intro l
   induction l with
   | nil => intro i hi; simp at hi
   | cons x r ih =>
    intro i hi k hk
    have e1 : flatT (x :: r) = [Value.int .i64 x.1.kind, .int .i64 x.1.n, .string x.1.name, .int .i64 x.1.stamp, .int .i64 x.1.lib, .slice x.2.1 x.1.kids.length x.2.2] ++ flatT r := by simp [flatT]
    rw [e1]
    cases i with
    | zero =>
     simp at hi
     subst hi
     rw [List.getElem?_append_left (by simp; omega)]
     simp
    | succ i =>
     rw [List.getElem?_append_right (by simp; omega)]
     have := ih i (by simpa using hi) k hk
     rw [← this]
     congr 1
     simp
     omega
  exact aux es i he
 refine ⟨e.2.1, e.2.2, ?_, ?_, ?_, ?_, ?_, ?_, (h.kids e hmem).1, hF e hmem⟩
 all_goals rw [Nat.zero_add]
 ·exact hcell _ _ (hflat 0 (by decide))
 ·exact hcell _ _ (hflat 1 (by decide))
 ·exact hcell _ _ (hflat 2 (by decide))
 ·exact hcell _ _ (hflat 3 (by decide))
 ·exact hcell _ _ (hflat 4 (by decide))
 exact hcell _ _ (hflat 5 (by decide))
end
section
open Go.RowKit
def pre (ds : List Dat) : Rd (List Dat) → Rd (List Dat)
 | .inl e => .inl e
 | .inr (es, j, m) => .inr (ds ++ es, j, m)
def asList : Rd (List Dat) → Rd Dat
 | .inl e => .inl e
 | .inr (ds, j, m) => .inr (datList ds, j, m)
theorem pre_nil (r : Rd (List Dat)) : pre [] r = r := by
 cases r with
 | inl e => rfl
 | inr x => rfl
theorem pre_pre (a b : List Dat) (r : Rd (List Dat)) : pre a (pre b r) = pre (a ++ b) r := by
 cases r with
 | inl e => rfl
 | inr x => simp [pre]
section
variable {g : Nat → Nat → Rd Dat} {l : List UInt8} {k j m p : Nat}
theorem items_none (hp : p = j + skipL (l.drop j) false) (h : l[p]? = none) : items g l (k + 1) j m = .inl (2, (p : Int)) := by
 subst hp
 unfold items
 simp only
 rw [h]
theorem items_close (hp : p = j + skipL (l.drop j) false) (h : l[p]? = some 41) : items g l (k + 1) j m = .inr ([], p + 1, m) := by
 subst hp
 unfold items
 simp only
 rw [h]
 rfl
theorem items_bad {c : UInt8} {x : Int × Int} (hp : p = j + skipL (l.drop j) false) (h : l[p]? = some c) (hc : c ≠ 41) (hg : g p m = .inl x) : items g l (k + 1) j m = .inl x := by
 subst hp
 unfold items
 simp only
 rw [h]
 simp only
 rw [if_neg hc, hg]
theorem items_step {c : UInt8} {d : Dat} {j' m' : Nat} (hp : p = j + skipL (l.drop j) false) (h : l[p]? = some c) (hc : c ≠ 41) (hg : g p m = .inr (d, j', m')) : items g l (k + 1) j m = pre [d] (items g l k j' m') := by
 subst hp
 conv => lhs; unfold items
 simp only
 rw [h]
 simp only
 rw [if_neg hc, hg]
 simp only
 cases items g l k j' m' with
 | inl e => rfl
 | inr x => rfl
end
theorem Keep.grown {c : Nat} {a b d : World} {row : Option Nat} (h : Keep c a b) (hg : b.grownBy d row) (hr : ∀ k, row = some k → a.heap.size ≤ k) : Keep c a d :=
 ⟨hg.os.trans h.os, hg.tape.trans h.tape, hg.output.trans h.output, Nat.le_trans h.size hg.size, fun i hi hc => (hg.block i (Nat.lt_of_lt_of_le hi h.size) (fun e => by have := hr i e.symm; omega)).trans (h.block i hi hc)⟩
theorem Rdr.grown {rb : Nat} {s : ByteArray} {i n : Nat} {w w' : World} {row : Option Nat} (h : Rdr rb s i n w) (hg : w.grownBy w' row) (hr : some rb ≠ row) : Rdr rb s i n w' := by
 have e : ∀ q, w'.cell? ⟨rb, q, none⟩ = w.cell? ⟨rb, q, none⟩ := fun q => World.cell?_of_block (hg.block rb h.lt hr)
 have z : ∀ q, w'.frozen? ⟨rb, q, none⟩ = w.frozen? ⟨rb, q, none⟩ := fun q => World.frozen?_of_block (hg.block rb h.lt hr)
 exact ⟨Nat.lt_of_lt_of_le h.lt hg.size, (e _).trans h.c0, (e _).trans h.c1, (e _).trans h.c2, (z _).trans h.z1, (z _).trans h.z2⟩
theorem Six.grown {N : Nat} {w w' : World} {row : Option Nat} (h : Six N w) (hg : w.grownBy w' row) (hr : some N ≠ row) : Six N w' := by
 have e : ∀ q, w'.cell? ⟨N, q, none⟩ = w.cell? ⟨N, q, none⟩ := fun q => World.cell?_of_block (hg.block N h.lt hr)
 have z : ∀ q, w'.frozen? ⟨N, q, none⟩ = w.frozen? ⟨N, q, none⟩ := fun q => World.frozen?_of_block (hg.block N h.lt hr)
 exact ⟨Nat.lt_of_lt_of_le h.lt hg.size, (e _).trans h.q0, (e _).trans h.q1, (e _).trans h.q2, (e _).trans h.q3, (e _).trans h.q4, (e _).trans h.q5, fun j => (z _).trans (h.z j)⟩
theorem six_heapT (w : World) (N : Nat) (v0 v1 v2 v3 v4 v5 : Value) : (∀ b, b ≠ N → ((((((w.setCell ⟨N, 0, none⟩ v0).setCell ⟨N, 1, none⟩ v1).setCell ⟨N, 2, none⟩ v2).setCell ⟨N, 3, none⟩ v3).setCell ⟨N, 4, none⟩ v4).setCell ⟨N, 5, none⟩ v5).heap[b]? = w.heap[b]?) ∧
 ((((((w.setCell ⟨N, 0, none⟩ v0).setCell ⟨N, 1, none⟩ v1).setCell ⟨N, 2, none⟩ v2).setCell ⟨N, 3, none⟩ v3).setCell ⟨N, 4, none⟩ v4).setCell ⟨N, 5, none⟩ v5).heap.size = w.heap.size := by
 refine ⟨fun b hb => ?_, by simp [World.setCell]⟩
 rw [Below.heap_setCell _ _ _ _ hb, Below.heap_setCell _ _ _ _ hb, Below.heap_setCell _ _ _ _ hb, Below.heap_setCell _ _ _ _ hb, Below.heap_setCell _ _ _ _ hb, Below.heap_setCell _ _ _ _ hb]
theorem infoDatT : (Tryz.prog.info? 26).map (fun i => (i.zero, i.size, i.bytes)) = some (some (.agg #[.int .i64 0, .int .i64 0, .string ⟨#[]⟩, .int .i64 0, .int .i64 0, .slice none 0 0]), 6, 72) := by kernel_rfl
structure Lst (l : List UInt8) (s : ByteArray) (f rb N : Nat) (w : World) (i n : Nat) (g : Nat) (v : Value) (wr : World) (es : List (Dat × Option Addr × Nat)) (j k m p : Nat) : Prop where
 pos : p = j + skipL (l.drop j) false
 ple : p ≤ s.size
 jle : j ≤ l.length
 mle : m ≤ 2000
 few : es.length ≤ m
 fuel : l.length + 2 ≤ j + k
 ghost : g = s.size - p
 keep : Keep rb w wr
 rdr : Rdr rb s p m wr
 row : Row (N + 1) v es wr
 six : Six N wr
 same : items (one l f) l (l.length + 1) (i + 1) n = pre (es.map (·.1)) (items (one l f) l k j m)
set_option maxRecDepth 100000 in
set_option maxHeartbeats 6400000 in
theorem list_read (rb : Nat) (s : ByteArray) (f i n : Nat) (dp : Int) (w : World) (h : Rdr rb s i n w) (hi : i < s.size) (hs : s.size ≤ 6000) (hn : n ≤ 2000) (hd0 : 1 ≤ dp) (hd : dp ≤ 40)
 (ih : ∀ (i n : Nat) (w : World), Rdr rb s i n w → i ≤ s.size → n ≤ 2000 → Calls Tryz.prog 73 #[.pointer (some ⟨rb, 0, none⟩), .int .i64 (dp + 1)] w (Out rb s (one s.data.toList f i n) w)) :
 Calls Tryz.prog 98 #[.pointer (some ⟨rb, 0, none⟩), .int .i64 dp] w (Out rb s (asList (items (one s.data.toList f) s.data.toList (s.data.toList.length + 1) (i + 1) n)) w) := by
 have IH : Hid (∀ (i n : Nat) (w : World), Rdr rb s i n w → i ≤ s.size → n ≤ 2000 → Calls Tryz.prog 73 #[.pointer (some ⟨rb, 0, none⟩), .int .i64 (dp + 1)] w (Out rb s (one s.data.toList f i n) w)) := ih
 have HLEN : Hid (s.data.toList.length = s.size) := Array.length_toList
 have c1 := h.c1
 have z1 := h.z1
 have l1 := h.lt
 have HR : Hid (Rdr rb s i n w) := h
 clear h ih
 obtain ⟨l, hl⟩ : ∃ l, l = s.data.toList := ⟨_, rfl⟩
 have HLL : Hid (l = s.data.toList) := hl
 rw [← hl] at IH HLEN ⊢
 clear hl
 obtain ⟨i0, hinf, hz0, hz1, hz2⟩ := info_parts infoDatT
 go_enter Tryz.func98, Tryz.ntmps98
 go_wp2_with fail
 refine (skip_any rb s (i + 1) n _ ((HR.out.move' (i + 1) _ (by omega)).alloc _) (by omega) hs).mono ?_
 rintro e w1 ⟨rfl, hk1, hr1⟩
 have hsix : Six w.heap.size w1 := by
  have h1 := Six.made (w.setCell ⟨rb, 1, none⟩ (.int .i64 ((i : Int) + 1)))
  have h2 : (w.setCell ⟨rb, 1, none⟩ (.int .i64 ((i : Int) + 1))).heap.size = w.heap.size := by simp [World.setCell]
  rw [h2] at h1
  exact h1.keep hk1 (by omega)
 have START : Hid (Lst l s f rb w.heap.size w i n (s.size - ((i + 1) + skipL (l.drop (i + 1)) false)) (.slice none 0 0) w1 [] (i + 1) (l.length + 1) n ((i + 1) + skipL (l.drop (i + 1)) false)) := by
  have hle := skip_le l (i + 1) (by rw [HLEN.out]; omega)
  rw [HLEN.out] at hle
  refine ⟨rfl, hle, by rw [HLEN.out]; omega, hn, by simp, by omega, rfl, ((((Keep.refl _ _).setCell ⟨rb, 1, none⟩ rfl _).alloc _)).trans hk1, by rw [HLL.out]; exact hr1, Row.nil _ _, hsix, (pre_nil _).symm⟩
 clear hk1 hr1 hsix c1 z1 HR
 go_wp2_with fail
 go_loopg [5] (s.size - ((i + 1) + skipL (l.drop (i + 1)) false)) (fun g v wr => ∃ es j k m p, Lst l s f rb w.heap.size w i n g v wr es j k m p)
 case atStart => exact ⟨_, _, _, _, _, START.out⟩
 clear START
 obtain ⟨es, j, k, m, p, hlst⟩ := hrel
 have HL : Hid (Lst l s f rb w.heap.size w i n gk u5 wr es j k m p) := hlst
 have hp := hlst.ple
 have hgk := hlst.ghost
 have hsz := hlst.keep.size
 have en := ended_any rb s p m wr hlst.rdr
 obtain ⟨k', hk'⟩ : ∃ k', k = k' + 1 := ⟨k - 1, by have := hlst.fuel; have := hlst.jle; omega⟩
 have HK : Hid (k = k' + 1) := hk'
 clear hk' hlst
 by_cases hlt : p < s.size
 rotate_left
 ·obtain rfl : p = s.size := by omega
  rw [show ((s.size : Int) == (s.size : Int)) = true from by simp] at en
  have EN : Hid (Calls Tryz.prog 72 #[.pointer (some ⟨rb, 0, none⟩)] wr fun e w' => e = .returned (.bool true) ∧ Below wr.heap.size wr w') := en
  clear en
  have HQ : Hid (items (one l f) l (l.length + 1) (i + 1) n = .inl (2, (s.size : Int))) := by
   show items (one l f) l (l.length + 1) (i + 1) n = .inl (2, (s.size : Int))
   rw [HL.out.same, HK.out, items_none HL.out.pos (by rw [List.getElem?_eq_none (by rw [HLEN.out]; exact Nat.le_refl _)])]
   rfl
  go_wp2_with fail
  refine EN.out.mono ?_
  rintro e w2 ⟨rfl, hb2⟩
  have H2 : Hid (Keep rb w w2 ∧ Rdr rb s s.size m w2) := ⟨HL.out.keep.below hb2, HL.out.rdr.below hb2⟩
  clear hb2 EN
  go_wp2_with fail
  refine (fault_any rb s s.size m 2 _ H2.out.2).mono ?_
  rintro e w3 ⟨rfl, hb3⟩
  have hk3 : Keep rb w w3 := H2.out.1.below hb3
  clear hb3
  go_wp2_with fail
  refine ⟨rfl, ?_⟩
  rw [HQ.out]
  exact ⟨rfl, hk3⟩
 rw [show ((p : Int) == (s.size : Int)) = false from by simp; omega] at en
 have EN : Hid (Calls Tryz.prog 72 #[.pointer (some ⟨rb, 0, none⟩)] wr fun e w' => e = .returned (.bool false) ∧ Below wr.heap.size wr w') := en
 clear en
 have HAT : Hid (l[p]? = some s[p]) := by
  have := at_of hlt
  rw [← HLL.out] at this
  exact this
 go_wp2_with fail
 refine EN.out.mono ?_
 rintro e w2 ⟨rfl, hb2⟩
 have hr2 := HL.out.rdr.below hb2
 have c0 := hr2.c0
 have c1 := hr2.c1
 have z1 := hr2.z1
 have HR2 : Hid (Keep rb w w2 ∧ Rdr rb s p m w2 ∧ Row (w.heap.size + 1) u5 es w2 ∧ Six w.heap.size w2) := ⟨HL.out.keep.below hb2, hr2, HL.out.row.below hb2, HL.out.six.after hb2⟩
 have hs2 := hb2.size
 clear hb2 hr2 EN
 go_wp2_with fail
 go_quiet (fail)
 by_cases b1 : ((s[p].toNat : Int) == 41) = true
 ·have HC : Hid (s[p] = 41) := UInt8.toNat_inj.1 (by have : (s[p].toNat : Int) = 41 := beq_iff_eq.1 b1; show s[p].toNat = 41; omega)
  have HQ : Hid (items (one l f) l (l.length + 1) (i + 1) n = .inr (es.map (·.1), p + 1, m)) := by
   show items (one l f) l (l.length + 1) (i + 1) n = .inr (es.map (·.1), p + 1, m)
   have h1 := HAT.out
   rw [HC.out] at h1
   rw [HL.out.same, HK.out, items_close HL.out.pos h1]
   simp [pre]
  obtain ⟨a', cap', f', hv, hdw⟩ := HR2.out.2.2.1.lie (by have := HL.out.few; have := HL.out.mle; omega)
  have HDW : Hid (Dw (fun b => w.heap.size + 1 ≤ b ∧ b < w2.heap.size) w2 f' a' cap' (es.map (·.1))) := hdw
  obtain ⟨x0, x1, x2, x3, x4, x5, x6, x7⟩ := HR2.out.2.2.2
  subst hv
  clear hdw
  go_wp2_with fail
  refine bodyPost_ret (v := dv (datList (es.map (·.1))) a' cap') (by simp [results, Tryz.results98, go_sem, dv, datList, x1, x2, x3, x4, x5, x6]) rfl ?_
  rw [HQ.out]
  refine ⟨?_, ?_, a', cap', f', rfl, ?_⟩
  ·exact keep_six ((HR2.out.1.drewN _).setCell ⟨rb, 1, none⟩ rfl _) (Nat.le_refl _) _ _ _ _ _ _
  ·exact (((HR2.out.2.1.drewN _).move' _ _ (by omega)).six (by omega) _ _ _ _ _ _)
  have hh := six_heapT ((w2.drewN nq).setCell ⟨rb, 1, none⟩ (.int .i64 ((p : Int) + 1))) w.heap.size (.int .i64 4) (.int .i64 0) (.string ⟨#[]⟩) (.int .i64 0) (.int .i64 0) (.slice a' es.length cap')
  refine Dw.stay ?_ ?_ f' _ _ _ HDW.out
  ·intro b hb
   refine (hh.1 b (by have := hb.1; omega)).trans ?_
   exact Below.heap_setCell _ _ _ _ (by have := hb.1; show b ≠ rb; omega)
  intro b hb
  refine ⟨by have := hb.1; omega, ?_⟩
  rw [hh.2]
  simp only [World.setCell, Array.size_modify]
  exact hb.2
 have n1 : ((s[p].toNat : Int) == 41) = false := by simpa using b1
 clear b1
 have HC : Hid (s[p] ≠ 41) := by
  intro e
  rw [e] at n1
  exact absurd n1 (by decide)
 go_wp2_with fail
 refine (IH.out p m _ (HR2.out.2.1.drewN _) hp (HL.out.mle)).mono ?_
 intro e w3 hout
 cases ho : one l f p m with
 | inl x =>
  rw [ho] at hout
  obtain ⟨rfl, hk3⟩ := hout
  have HQ : Hid (items (one l f) l (l.length + 1) (i + 1) n = .inl x) := by
   show items (one l f) l (l.length + 1) (i + 1) n = .inl x
   rw [HL.out.same, HK.out, items_bad HL.out.pos HAT.out HC.out ho]
   rfl
  have hkk : Keep rb w w3 := (HR2.out.1.drewN _).trans hk3
  clear hk3 ho
  go_wp2_with fail
  refine ⟨rfl, ?_⟩
  rw [HQ.out]
  exact ⟨rfl, hkk⟩
 | inr y =>
  obtain ⟨d, j', m'⟩ := y
  rw [ho] at hout
  obtain ⟨hk3, hr3, a', cap', f', rfl, hdw⟩ := hout
  have hw := one_went l f p m d j' m' (by rw [HLEN.out]; exact hp) HL.out.mle ho
  have HWT : Hid (Went l p m j' m' d) := hw
  have HQ : Hid (items (one l f) l (l.length + 1) (i + 1) n = pre (es.map (·.1) ++ [d]) (items (one l f) l k' j' m')) := by
   show items (one l f) l (l.length + 1) (i + 1) n = pre (es.map (·.1) ++ [d]) (items (one l f) l k' j' m')
   rw [HL.out.same, HK.out, items_step HL.out.pos HAT.out HC.out ho, pre_pre]
  have H3 : Hid (Keep rb w w3 ∧ Rdr rb s j' m' w3 ∧ Row (w.heap.size + 1) u5 es w3 ∧ Six w.heap.size w3 ∧ Dw (NewT (w2.drewN nq) w3) w3 f' a' cap' d.kids) := by
   refine ⟨(HR2.out.1.drewN _).trans hk3, hr3, ?_, ?_, hdw⟩
   ·exact (HR2.out.2.2.1.below (below_drewN (Below.refl _ _) nq)).keep hk3 (by omega)
   exact (HR2.out.2.2.2.after (below_drewN (Below.refl _ _) nq)).keep hk3 (by omega)
  have hs3 := hk3.size
  have hs3' : w2.heap.size ≤ w3.heap.size := hs3
  unfold dv
  clear hk3 hr3 hdw hw ho hs3 c0 c1 z1
  go_wp2_with (at_builtin; refine wpList_append_whereT rfl _ _ 24 rfl (w.heap.size + 1) 26 i0 _ 6 72 Tryz.underlying24 hinf hz0 hz1 hz2 rfl (by decide) u5 es.length (flatT es) rfl (by exact H3.out.2.2.1.own.alloc _) ⟨w3.heap.size, 0, none⟩ 1 1 [.int .i64 d.kind, .int .i64 d.n, .string d.name, .int .i64 d.stamp, .int .i64 d.lib, .slice a' d.kids.length cap'] rfl rfl ?c1 ?c2 (by decide) ?c3 ?c4 ?c5 ?_)
  case c1 =>
   intro q u hq
   have hcell := World.cell?_alloc_mark w3 #[.int .i64 d.kind, .int .i64 d.n, .string d.name, .int .i64 d.stamp, .int .i64 d.lib, .slice a' d.kids.length cap'] 26 (0, 0) q
   have hadd : (⟨w3.heap.size, 0, none⟩ : Addr).add q = ⟨w3.heap.size, q, none⟩ := by unfold Addr.add; split <;> simp_all
   rw [hadd, hcell]
   simpa using hq
  case c2 =>
   intro u hu
   simp at hu
   rcases hu with rfl | rfl | rfl | rfl | rfl | rfl <;> rfl
  case c3 => have := HL.out.few; have := HL.out.mle; unfold maxLen; omega
  case c4 => have := HL.out.few; have := HL.out.mle; omega
  case c5 => simp; omega
  intro v' w4 hown4 hg4 hw4
  have HROW : Hid (Row (w.heap.size + 1) v' (es ++ [(d, a', cap')]) w4) := by
   refine Row.push (wr := w2) _ H3.out.2.2.1 (by have := HR2.out.2.2.2.lt; omega) (fun k hk => (HR2.out.2.2.1.own.lt k hk).2) H3.out.2.2.2.2 (by have := HWT.out.name; unfold maxLen; omega) hown4 hg4 hw4
  have hrow : ∀ k, u5.ownBlock = some k → w.heap.size + 1 ≤ k := fun k hk => (HR2.out.2.2.1.own.lt k hk).1
  have H4 : Hid (Keep rb w w4 ∧ Rdr rb s j' m' w4 ∧ Six w.heap.size w4) := by
   refine ⟨(H3.out.1.alloc _).grown hg4 (fun k hk => by have := hrow k hk; omega), (H3.out.2.1.alloc _).grown hg4 ?_, (H3.out.2.2.2.1.alloc _).grown hg4 ?_⟩
   ·intro e
    have := hrow rb e.symm
    omega
   intro e
   have := hrow w.heap.size e.symm
   omega
  have hs4 : w.heap.size ≤ w4.heap.size := H4.out.1.size
  clear hown4 hg4 hw4 hrow H3
  obtain ⟨ao, ln, cp, hv'⟩ : ∃ ao ln cp, v' = .slice ao ln cp := by
   rcases HROW.out.own.2 with ⟨hv, _⟩ | ⟨gg, cap, cur, hv, _⟩
   ·exact ⟨_, _, _, hv⟩
   exact ⟨_, _, _, hv⟩
  subst hv'
  go_wp2_with fail
  refine (skip_any rb s j' m' _ H4.out.2.1 (by have := HWT.out.upto; rw [HLEN.out] at this; exact this) hs).mono ?_
  rintro e w5 ⟨rfl, hk5, hr5⟩
  have H5 : Hid (Lst l s f rb w.heap.size w i n (s.size - (j' + skipL (l.drop j') false)) (.slice ao ln cp) w5 (es ++ [(d, a', cap')]) j' k' m' (j' + skipL (l.drop j') false)) := by
   have hup := HWT.out.upto
   have hle := skip_le l j' hup
   have hfu := HL.out.fuel
   have hkk := HK.out
   have hpo := HL.out.pos
   have hon := HWT.out.on
   have hmo := HWT.out.more
   have hfe := HL.out.few
   rw [HLEN.out] at hle
   refine ⟨rfl, hle, hup, HWT.out.much, by simp; omega, by omega, rfl, H4.out.1.trans hk5, by rw [HLL.out]; exact hr5, HROW.out.keep hk5 (by omega), H4.out.2.2.keep hk5 (by omega), ?_⟩
   rw [HQ.out]
   simp
  clear hk5 hr5
  go_wp2_with fail
  go_roundg (s.size - (j' + skipL (l.drop j') false))
  case measure => have := HWT.out.on; have := H5.out.ple; omega
  case rel => exact ⟨_, _, _, _, _, H5.out⟩
end
end Go.Proofs.YtonafbennobgdaaGreatDoor
