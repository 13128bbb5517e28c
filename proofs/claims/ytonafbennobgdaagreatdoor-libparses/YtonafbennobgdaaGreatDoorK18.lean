/- A reader in memory; its small methods. -/
import Derived.BigQuiet
import Derived.Deep.LoopGhost
import Derived.Deep.QuietTactic
import Derived.WalkSmall
import Derived.Test.YtonafbennobgdaaGreatDoorK02
import Derived.Test.YtonafbennobgdaaGreatDoorK06
namespace Go.Proofs.YtonafbennobgdaaGreatDoor
set_option linter.unusedVariables false
set_option linter.unusedSimpArgs false
open Go.RowKit
set_option maxRecDepth 100000
set_option maxHeartbeats 1600000
structure Rdr (rb : Nat) (s : ByteArray) (i n : Nat) (w : World) : Prop where
 lt : rb < w.heap.size
 c0 : w.cell? ⟨rb, 0, none⟩ = some (.string s)
 c1 : w.cell? ⟨rb, 1, none⟩ = some (.int .i64 (i : Int))
 c2 : w.cell? ⟨rb, 2, none⟩ = some (.int .i64 (n : Int))
 z1 : w.frozen? ⟨rb, 1, none⟩ = false
 z2 : w.frozen? ⟨rb, 2, none⟩ = false
theorem Rdr.below {rb : Nat} {s : ByteArray} {i n : Nat} {w w' : World} (h : Rdr rb s i n w) (hb : Below w.heap.size w w') : Rdr rb s i n w' :=
 ⟨Nat.lt_of_lt_of_le h.lt hb.size, (hb.cell (p := ⟨rb, 0, none⟩) h.lt).trans h.c0, (hb.cell (p := ⟨rb, 1, none⟩) h.lt).trans h.c1, (hb.cell (p := ⟨rb, 2, none⟩) h.lt).trans h.c2,
  (hb.frozen (p := ⟨rb, 1, none⟩) h.lt).trans h.z1, (hb.frozen (p := ⟨rb, 2, none⟩) h.lt).trans h.z2⟩
theorem Rdr.alloc {rb : Nat} {s : ByteArray} {i n : Nat} {w : World} (h : Rdr rb s i n w) (o : Obj) : Rdr rb s i n (w.alloc o) := h.below ((Below.refl _ _).alloc (Nat.le_refl _) _)
theorem Rdr.drew {rb : Nat} {s : ByteArray} {i n : Nat} {w : World} (h : Rdr rb s i n w) : Rdr rb s i n w.drew := ⟨h.lt, h.c0, h.c1, h.c2, h.z1, h.z2⟩
theorem Rdr.move {rb : Nat} {s : ByteArray} {i n : Nat} {w : World} (h : Rdr rb s i n w) (j : Nat) : Rdr rb s j n (w.setCell ⟨rb, 1, none⟩ (.int .i64 (j : Int))) := by
 refine ⟨by simp [World.setCell]; exact h.lt, ?_, World.cell?_setCell_same _ _ _ h.c1, ?_, ?_, ?_⟩
 ·rw [World.cell?_setCell_other]
  ·exact h.c0
  simp
 ·rw [World.cell?_setCell_other]
  ·exact h.c2
  simp
 ·rw [World.frozen?_setCell]; exact h.z1
 rw [World.frozen?_setCell]; exact h.z2
theorem Rdr.move' {rb : Nat} {s : ByteArray} {i n : Nat} {w : World} (h : Rdr rb s i n w) (j : Nat) (v : Int) (hv : v = (j : Int)) : Rdr rb s j n (w.setCell ⟨rb, 1, none⟩ (.int .i64 v)) := by
 rw [hv]; exact h.move j
theorem Rdr.tick {rb : Nat} {s : ByteArray} {i n : Nat} {w : World} (h : Rdr rb s i n w) (m : Nat) : Rdr rb s i m (w.setCell ⟨rb, 2, none⟩ (.int .i64 (m : Int))) := by
 refine ⟨by simp [World.setCell]; exact h.lt, ?_, ?_, World.cell?_setCell_same _ _ _ h.c2, ?_, ?_⟩
 ·rw [World.cell?_setCell_other]
  ·exact h.c0
  simp
 ·rw [World.cell?_setCell_other]
  ·exact h.c1
  simp
 ·rw [World.frozen?_setCell]; exact h.z1
 rw [World.frozen?_setCell]; exact h.z2
theorem ended_any (rb : Nat) (s : ByteArray) (i n : Nat) (w : World) (h : Rdr rb s i n w) :
 Calls Tryz.prog 72 #[.pointer (some ⟨rb, 0, none⟩)] w fun e w' => e = .returned (.bool ((i : Int) == (s.size : Int))) ∧ Below w.heap.size w w' := by
 have c0 := h.c0
 have c1 := h.c1
 clear h
 go_enter Tryz.func72, Tryz.ntmps72
 go_wp2_with fail
 go_quiet (fail)
 go_wp2_with fail
 go_ret
 refine ⟨rfl, ?_⟩
 exact below_drewN (Below.refl _ _) _
def thrown (x : Int × Int) : List PanicEntry := [{ v := .iface 104 (.agg #[.int .i64 x.1, .int .i64 x.2]), recovered := false }]
theorem fault_any (rb : Nat) (s : ByteArray) (i n : Nat) (e : Int) (w : World) (h : Rdr rb s i n w) :
 Calls Tryz.prog 97 #[.pointer (some ⟨rb, 0, none⟩), .int .i64 e] w fun r w' => r = .returned (.agg #[.int .i64 e, .int .i64 (i : Int)]) ∧ Below w.heap.size w w' := by
 have c1 := h.c1
 have l1 := h.lt
 clear h
 go_enter Tryz.func97, Tryz.ntmps97
 go_wp2_with fail
 refine bodyPost_ret (v := .agg #[.int .i64 e, .int .i64 (i : Int)]) (by simp [results, Tryz.results97, go_sem]) rfl ⟨rfl, ?_⟩
 exact (Below.refl _ _).alloc (Nat.le_refl _) _
theorem count_much (rb : Nat) (s : ByteArray) (i n : Nat) (dp : Int) (w : World) (h : Rdr rb s i n w) (hn : n = 2000) :
 Calls Tryz.prog 96 #[.pointer (some ⟨rb, 0, none⟩), .int .i64 dp] w fun e w' => e = .panicked (thrown (4, (i : Int))) ∧ Keep rb w w' := by
 subst hn
 have c1 := h.c1
 have c2 := h.c2
 have z2 := h.z2
 have HR : Hid (Rdr rb s i 2000 w) := h
 clear h
 go_enter Tryz.func96, Tryz.ntmps96
 go_wp2_with fail
 refine (fault_any rb s i (2000 + 1) 4 _ (HR.out.tick (2000 + 1))).mono ?_
 rintro e w1 ⟨rfl, hb⟩
 have hk : Keep rb w w1 := ((Keep.refl _ _).setCell _ rfl _).below hb
 clear hb c1 c2 z2
 go_wp2_with fail
 exact ⟨rfl, rfl, hk⟩
theorem count_deep (rb : Nat) (s : ByteArray) (i n : Nat) (w : World) (h : Rdr rb s i n w) (hn : n ≤ 1999) :
 Calls Tryz.prog 96 #[.pointer (some ⟨rb, 0, none⟩), .int .i64 41] w fun e w' => e = .panicked (thrown (4, (i : Int))) ∧ Keep rb w w' := by
 have c1 := h.c1
 have c2 := h.c2
 have z2 := h.z2
 have HR : Hid (Rdr rb s i n w) := h
 clear h
 go_enter Tryz.func96, Tryz.ntmps96
 go_wp2_with fail
 refine (fault_any rb s i (n + 1) 4 _ (HR.out.tick (n + 1))).mono ?_
 rintro e w1 ⟨rfl, hb⟩
 have hk : Keep rb w w1 := ((Keep.refl _ _).setCell _ rfl _).below hb
 clear hb c1 c2 z2
 go_wp2_with fail
 exact ⟨rfl, rfl, hk⟩
theorem count_ok (rb : Nat) (s : ByteArray) (i n : Nat) (dp : Int) (w : World) (h : Rdr rb s i n w) (hn : n ≤ 1999) (hd : dp ≤ 40) :
 Calls Tryz.prog 96 #[.pointer (some ⟨rb, 0, none⟩), .int .i64 dp] w fun e w' => e = .returned (.tuple #[]) ∧ Keep rb w w' ∧ Rdr rb s i (n + 1) w' := by
 have c1 := h.c1
 have c2 := h.c2
 have z2 := h.z2
 have HR : Hid (Rdr rb s i n w) := h
 clear h
 go_enter Tryz.func96, Tryz.ntmps96
 go_wp2_with fail
 go_end0
 exact ⟨rfl, (Keep.refl _ _).setCell _ rfl _, HR.out.tick (n + 1)⟩
theorem Keep.drewN {c : Nat} {a b : World} (h : Keep c a b) (k : Nat) : Keep c a (b.drewN k) := h.below (below_drewN (Below.refl _ _) k)
theorem Rdr.drewN {rb : Nat} {s : ByteArray} {i n : Nat} {w : World} (h : Rdr rb s i n w) (k : Nat) : Rdr rb s i n (w.drewN k) := h.below (below_drewN (Below.refl _ _) k)
theorem drop_extract (s : ByteArray) (i : Nat) : (s.extract i s.size).data.toList = s.data.toList.drop i := by
 rw [ByteArray.data_extract]
 simp
 rw [List.take_of_length_le (by simp)]
theorem skipComment_any (rb : Nat) (s : ByteArray) (i n : Nat) (w : World) (h : Rdr rb s i n w) (hi : i < s.size) (hs : s.size ≤ 6000) :
 Calls Tryz.prog 95 #[.pointer (some ⟨rb, 0, none⟩)] w fun e w' => e = .returned (.tuple #[]) ∧ Keep rb w w' ∧ Rdr rb s (i + lineL (s.data.toList.drop i)) n w' := by
 have c0 := h.c0
 have c1 := h.c1
 have z1 := h.z1
 have HR : Hid (Rdr rb s i n w) := h
 clear h
 have hlen : (s.data.toList.drop i).length = s.size - i := by rw [List.length_drop, Array.length_toList]; rfl
 obtain ⟨x, HX⟩ : ∃ x, Hid (Lib.indexByte (s.data.toList.drop i) 10 = x) := ⟨_, rfl⟩
 have hl := line_index (s.data.toList.drop i)
 rw [HX.out, hlen] at hl
 have hle := line_le (s.data.toList.drop i)
 rw [hlen] at hle
 have IX : Hid (∀ w, Calls Tryz.prog 102 #[.string (s.extract i s.size), .int .u8 10] w fun e w' => e = .returned (.int .i64 x) ∧ w' = w) := fun w => by
  have h := Tryz.strings_IndexByte (s.extract i s.size) 10 w
  rw [drop_extract, show (10 : Int).toNat.toUInt8 = 10 from rfl, HX.out] at h
  exact h
 clear hlen HX
 generalize lineL (s.data.toList.drop i) = m at hl hle ⊢
 obtain ⟨h1, h2, h3⟩ := hl
 by_cases hx : x < 0
 ·have hm : m = s.size - i := h1 (by omega)
  subst hm
  have HH : Hid (x < 0) := hx
  clear h1 h2 h3
  go_enter Tryz.func95, Tryz.ntmps95
  go_wp2_with fail
  go_quiet ((go_at_call 102; exact Calls.quiet_of_same (IX.out _)))
  go_wp2_with fail
  go_quiet (fail)
  go_wp2_with fail
  go_end0
  refine ⟨rfl, ?_, ?_⟩
  ·exact ((Keep.refl _ _).drewN _).setCell _ rfl _
  exact (HR.out.drewN _).move' _ _ (by omega)
 have hm : x = (m : Int) := h2 (by omega)
 subst hm
 clear h1 h2 h3
 go_enter Tryz.func95, Tryz.ntmps95
 go_wp2_with fail
 go_quiet ((go_at_call 102; exact Calls.quiet_of_same (IX.out _)))
 go_wp2_with fail
 go_end0
 refine ⟨rfl, ?_, ?_⟩
 ·exact ((Keep.refl _ _).drewN _).setCell _ rfl _
 exact (HR.out.drewN _).move' _ _ (by omega)
theorem at_of {s : ByteArray} {i : Nat} (h : i < s.size) : s.data.toList[i]? = some s[i] := by
 have h' : i < s.data.toList.length := by rw [Array.length_toList]; exact h
 rw [List.getElem?_eq_getElem h']
 rfl
theorem blank_of (c : UInt8) : isBlank c = ((((c.toNat : Int) == 32) || ((c.toNat : Int) == 9)) || ((c.toNat : Int) == 10)) := by
 have h : ∀ (k : UInt8), decide (c = k) = ((c.toNat : Int) == (k.toNat : Int)) := by
  intro k
  by_cases e : c = k
  ·subst e; simp
  have : ¬ c.toNat = k.toNat := fun h => e (UInt8.toNat_inj.1 h)
  simp [e]
  omega
 unfold isBlank
 rw [h 32, h 9, h 10]
 rfl
set_option maxRecDepth 100000 in
set_option maxHeartbeats 1600000 in
theorem skip_any (rb : Nat) (s : ByteArray) (i n : Nat) (w : World) (h : Rdr rb s i n w) (hi : i ≤ s.size) (hs : s.size ≤ 6000) :
 Calls Tryz.prog 71 #[.pointer (some ⟨rb, 0, none⟩)] w fun e w' => e = .returned (.tuple #[]) ∧ Keep rb w w' ∧ Rdr rb s (i + skipL (s.data.toList.drop i) false) n w' := by
 have hlen : s.data.toList.length = s.size := Array.length_toList
 have HLEN : Hid (s.data.toList.length = s.size) := hlen
 clear hlen
 have HR : Hid (Rdr rb s i n w) := h
 clear h
 obtain ⟨t, HT⟩ : ∃ t, Hid (i + skipL (s.data.toList.drop i) false = t) := ⟨_, rfl⟩
 rw [HT.out]
 go_enter Tryz.func71, Tryz.ntmps71
 go_wp2_with fail
 go_loopg [] (s.size - i) (fun g wr => ∃ j : Nat, j ≤ s.size ∧ g = s.size - j ∧ Keep rb w wr ∧ Rdr rb s j n wr ∧ j + skipL (s.data.toList.drop j) false = t)
 case atStart => exact ⟨i, hi, rfl, Keep.refl _ _, HR.out, HT.out⟩
 obtain ⟨j, hj, rfl, hk, hr, he⟩ := hrel
 have HK : Hid (Keep rb w wr ∧ Rdr rb s j n wr) := ⟨hk, hr⟩
 have HE : Hid (j + skipL (s.data.toList.drop j) false = t) := he
 have hx := hr.lt
 have en := ended_any rb s j n wr hr
 clear hk hr he HR HT
 by_cases hlt : j < s.size
 rotate_left
 ·obtain rfl : j = s.size := by omega
  rw [show ((s.size : Int) == (s.size : Int)) = true from by simp] at en
  have EN : Hid (Calls Tryz.prog 72 #[.pointer (some ⟨rb, 0, none⟩)] wr fun e w' => e = .returned (.bool true) ∧ Below wr.heap.size wr w') := en
  have HSS : Hid (s.size = t) := by
   have h3 := HE.out
   rw [skip_end (by rw [HLEN.out]; exact Nat.le_refl _)] at h3
   exact h3
  clear en HE
  go_wp2_with fail
  refine EN.out.mono ?_
  rintro e w2 ⟨rfl, hb2⟩
  have H2 : Hid (Keep rb w w2 ∧ Rdr rb s s.size n w2) := ⟨HK.out.1.below hb2, HK.out.2.below hb2⟩
  clear hb2 EN HK
  go_wp2_with fail
  go_end0
  refine ⟨rfl, H2.out.1, ?_⟩
  rw [← HSS.out]
  exact H2.out.2
 rw [show ((j : Int) == (s.size : Int)) = false from by simp; omega] at en
 have EN : Hid (Calls Tryz.prog 72 #[.pointer (some ⟨rb, 0, none⟩)] wr fun e w' => e = .returned (.bool false) ∧ Below wr.heap.size wr w') := en
 clear en
 have HAT : Hid (s.data.toList[j]? = some s[j]) := at_of hlt
 have HBL : Hid _ := blank_of s[j]
 have HSB : Hid (isBlank s[j] = true → (j + 1) + skipL (s.data.toList.drop (j + 1)) false = t) := fun hb => (skip_blank HAT.out hb).symm.trans HE.out
 go_wp2_with fail
 refine EN.out.mono ?_
 rintro e w2 ⟨rfl, hb2⟩
 have hr2 := HK.out.2.below hb2
 have c0 := hr2.c0
 have c1 := hr2.c1
 have z1 := hr2.z1
 have HR2 : Hid (Keep rb w w2 ∧ Rdr rb s j n w2) := ⟨HK.out.1.below hb2, hr2⟩
 clear hb2 hr2 EN HK
 go_wp2_with fail
 go_quiet (fail)
 by_cases b1 : ((s[j].toNat : Int) == 32) = true
 ·go_wp2_with fail
  go_roundg (s.size - (j + 1))
  case measure => omega
  case rel =>
   refine ⟨j + 1, by omega, rfl, ?_, ?_, HSB.out (by rw [HBL.out, b1]; rfl)⟩
   ·exact ((HR2.out.1.drewN _)).setCell _ rfl _
   exact (HR2.out.2.drewN _).move' _ _ (by omega)
 have n1 : ((s[j].toNat : Int) == 32) = false := by simpa using b1
 clear b1
 by_cases b2 : ((s[j].toNat : Int) == 9) = true
 ·go_wp2_with fail
  go_roundg (s.size - (j + 1))
  case measure => omega
  case rel =>
   refine ⟨j + 1, by omega, rfl, ?_, ?_, HSB.out (by rw [HBL.out, n1, b2]; rfl)⟩
   ·exact ((HR2.out.1.drewN _)).setCell _ rfl _
   exact (HR2.out.2.drewN _).move' _ _ (by omega)
 have n2 : ((s[j].toNat : Int) == 9) = false := by simpa using b2
 clear b2
 by_cases b3 : ((s[j].toNat : Int) == 10) = true
 ·go_wp2_with fail
  go_roundg (s.size - (j + 1))
  case measure => omega
  case rel =>
   refine ⟨j + 1, by omega, rfl, ?_, ?_, HSB.out (by rw [HBL.out, n1, n2, b3]; rfl)⟩
   ·exact ((HR2.out.1.drewN _)).setCell _ rfl _
   exact (HR2.out.2.drewN _).move' _ _ (by omega)
 have n3 : ((s[j].toNat : Int) == 10) = false := by simpa using b3
 clear b3
 have HB0 : Hid (isBlank s[j] = false) := by rw [HBL.out, n1, n2, n3]; rfl
 by_cases b4 : ((s[j].toNat : Int) == 59) = true
 ·have HC : Hid (s[j] = 59) := UInt8.toNat_inj.1 (by have : (s[j].toNat : Int) = 59 := beq_iff_eq.1 b4; show s[j].toNat = 59; omega)
  have HS4 : Hid ((j + lineL (s.data.toList.drop j)) + skipL (s.data.toList.drop (j + lineL (s.data.toList.drop j))) false = t) := by
   have h1 := HAT.out
   rw [HC.out] at h1
   exact (skip_semi h1).symm.trans HE.out
  have HP : Hid (1 ≤ lineL (s.data.toList.drop j) ∧ j + lineL (s.data.toList.drop j) ≤ s.size) := by
   have h1 := HAT.out
   rw [HC.out] at h1
   have h2 := drop_cons h1
   have h3 := line_le (s.data.toList.drop j)
   rw [List.length_drop, HLEN.out] at h3
   refine ⟨?_, by omega⟩
   rw [h2]
   simp [lineL]
  go_wp2_with fail
  refine (skipComment_any rb s j n _ (HR2.out.2.drewN _) hlt hs).mono ?_
  rintro e w3 ⟨rfl, hk3, hr3⟩
  have H3 : Hid (Keep rb w w3 ∧ Rdr rb s (j + lineL (s.data.toList.drop j)) n w3) := ⟨(HR2.out.1.drewN _).trans hk3, hr3⟩
  clear hk3 hr3 c0 c1 z1
  go_wp2_with fail
  go_roundg (s.size - (j + lineL (s.data.toList.drop j)))
  case measure => have := HP.out; omega
  case rel => exact ⟨j + lineL (s.data.toList.drop j), HP.out.2, rfl, H3.out.1, H3.out.2, HS4.out⟩
 have n4 : ((s[j].toNat : Int) == 59) = false := by simpa using b4
 clear b4
 have HSS : Hid (j = t) := by
  have h1 : s[j] ≠ 59 := by
   intro e
   rw [e] at n4
   exact absurd n4 (by decide)
  have h2 := skip_stop HAT.out HB0.out h1
  have h3 := HE.out
  rw [h2] at h3
  exact h3
 go_wp2_with fail
 refine bodyPost_ret (results_none rfl _ _ _) rfl ?_
 refine ⟨rfl, HR2.out.1.drewN _, ?_⟩
 rw [← HSS.out]
 exact HR2.out.2.drewN _
end Go.Proofs.YtonafbennobgdaaGreatDoor
