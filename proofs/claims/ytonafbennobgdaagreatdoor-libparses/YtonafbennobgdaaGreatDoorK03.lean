/- Small functions of the document's answer: what each returns. -/
import Derived.Lib.SlBytesConst
import Derived.WalkKit
import Derived.WalkLawsBesides
import Derived.WalkSpells
import Derived.Test.YtonafbennobgdaaGreatDoorK01
namespace Go.Proofs.YtonafbennobgdaaGreatDoor
set_option linter.unusedVariables false
set_option linter.unusedSimpArgs false
open Go.RowKit
theorem retB {a b : Bool} (h : a = b) : Ending.returned (.bool a) = .returned (.bool b) := by rw [h]
theorem letTab_any (c : Int) (k : Nat) (hk : k < 47) (h : letTab.getD k 0 = c) : letB c = true := by
 have hk' : k < letTab.length := hk
 rw [List.getD_eq_getElem?_getD, List.getElem?_eq_getElem hk'] at h
 exact List.any_eq_true.2 ⟨letTab[k], List.getElem_mem hk', by simpa using h⟩
theorem letTab_none (c : Int) (h : ∀ j, j < 47 → letTab.getD j 0 ≠ c) : letB c = false := by
 unfold letB
 rw [List.any_eq_false]
 intro x hx
 obtain ⟨i, hi, rfl⟩ := List.getElem_of_mem hx
 have := h i hi
 rw [List.getD_eq_getElem?_getD, List.getElem?_eq_getElem hi] at this
 simpa using this
theorem letTab_arr (j : Nat) (hj : j < 47) : (letTab.map (Value.int IntKind.u8)).toArray[j]? = some (Value.int IntKind.u8 (letTab.getD j 0)) := by
 have hk' : j < letTab.length := hj
 simp [List.getElem?_eq_getElem hk']
set_option maxHeartbeats 400000 in
theorem Letter_any (c : Int) (h0 : 0 ≤ c) (h1 : c ≤ 255) (w : World) :
 Calls Tryz.prog 112 #[.int .u8 c] w fun e w' => e = .returned (.bool (letB c)) ∧ Below w.heap.size w w' := by
 have kc := fun (w : World) (C : Array Value) (n c : Nat) => Lib.run_convert_bytes_const (P := Tryz.prog) w 129 5 C n c Tryz.underlying129 Tryz.underlying5
 go_enter Tryz.func112, Tryz.ntmps112
 go_wp2
 go_loopw [8] (fun i wr => ∃ k : Nat, k ≤ 47 ∧ i = .int .i64 k ∧ Below w.heap.size w wr ∧ (∀ j, j < 47 → wr.cell? ⟨w.heap.size, j, none⟩ = some (.int .u8 (letTab.getD j 0))) ∧ ∀ j, j < k → letTab.getD j 0 ≠ c) (fun i _ => 47 - (intOf i).toNat)
 case atStart =>
  refine ⟨0, by omega, rfl, (Below.refl _ _).alloc (Nat.le_refl _) _, ?_, by omega⟩
  intro j hj
  exact (World.cell?_alloc_mark w (letTab.map (Value.int IntKind.u8)).toArray 5 (47, 48) j).trans (letTab_arr j hj)
 obtain ⟨k, hk, rfl, hb, hc, hn⟩ := hrel
 by_cases hlt : k < 47
 ·have hck := hc k hlt
  have HN : Hid (∀ j, j < k → letTab.getD j 0 ≠ c) := hn
  have HC : Hid (∀ j, j < 47 → wr.cell? ⟨w.heap.size, j, none⟩ = some (.int .u8 (letTab.getD j 0))) := hc
  clear hn hc kc
  obtain ⟨x, hx⟩ : ∃ x, letTab.getD k 0 = x := ⟨_, rfl⟩
  rw [hx] at hck
  have HX : Hid (letTab.getD k 0 = x) := hx
  clear hx
  by_cases he : x = c
  ·subst he
   go_wp2
   go_ret
   exact ⟨retB (letTab_any _ k hlt HX.out).symm, hb⟩
  have he' : (x == c) = false := by simpa using he
  go_wp2
  go_roundw
  case rel =>
   refine ⟨k + 1, by omega, by go_num, hb, HC.out, ?_⟩
   intro j hj
   by_cases e : j = k
   ·subst e; rw [HX.out]; exact he
   exact HN.out j (by omega)
  case measure => simp [intOf]; omega
 have HN : Hid (∀ j, j < k → letTab.getD j 0 ≠ c) := hn
 clear hn hc kc
 go_wp2
 go_ret
 exact ⟨retB (letTab_none c (fun j hj => HN.out j (by omega))).symm, hb⟩
theorem bytesRow_at (s : ByteArray) (cap j : Nat) (h : j < s.size) : (bytesRow s cap)[j]? = some (.int .u8 ((s.data.toList[j]?.getD 0).toNat : Int)) := by
 have h' : j < s.data.size := h
 unfold bytesRow
 rw [Array.getElem?_append_left (by simpa using h')]
 simp [Array.getElem?_eq_getElem h']
theorem take_snoc' (l : List UInt8) (k : Nat) (h : k < l.length) : l.take (k + 1) = l.take k ++ [l[k]?.getD 0] := by
 rw [List.take_succ_eq_append_getElem h]
 simp [List.getElem?_eq_getElem h]
theorem all_take_false {p : UInt8 → Bool} (l : List UInt8) (k : Nat) (h : k < l.length) (hp : p (l[k]?.getD 0) = false) : l.all p = false := by
 rw [List.all_eq_false]
 exact ⟨l[k]?.getD 0, by simp [List.getElem?_eq_getElem h], by rw [hp]; simp⟩
theorem dig_step (l : List UInt8) (k : Nat) (h : k < l.length) :
 ((((l[k]?.getD 0).toNat : Int) < 48 ∨ (57 : Int) < (l[k]?.getD 0).toNat) → allDig l = false) ∧
 ((¬ ((l[k]?.getD 0).toNat : Int) < 48) → (¬ (57 : Int) < (l[k]?.getD 0).toNat) → allDig (l.take (k + 1)) = allDig (l.take k)) := by
 refine ⟨fun g => ?_, fun a b => ?_⟩
 ·refine all_take_false l k h ?_
  simp [digB]
  omega
 rw [take_snoc' l k h]
 simp only [allDig, List.all_append]
 simp [digB]
 intro _
 omega
theorem looks_of {l m : List UInt8} (h : unsign l = m) : looksB l = (allDig m && !m.isEmpty) := by
 unfold looksB; rw [h]
theorem all_of (l : List UInt8) (k : Nat) (h : l.length ≤ k) (hn : allDig (l.take k) = true) : allDig l = true := by
 rwa [List.take_of_length_le h] at hn
theorem end_dec {l : List UInt8} {n : Nat} (h : l.length = n) : decide (0 < n) = (true && !l.isEmpty) := by
 cases l with
 | nil => simp at h; subst h; rfl
 | cons c r => simp at h; simp; omega
theorem end_true {l : List UInt8} {n : Nat} (h : l.length = n) (hz : 0 < n) : true = (true && !l.isEmpty) := by
 cases l with
 | nil => simp at h; omega
 | cons c r => rfl
theorem unsign_yes (s : ByteArray) (hz : 0 < s.size) (hm : ((s[0].toNat : Int) == 45) = true) : unsign s.data.toList = (s.extract 1 s.size).data.toList ∧ (s.extract 1 s.size).data.toList.length = s.size - 1 := by
 obtain ⟨⟨l⟩⟩ := s
 match l, hz with
 | c :: r, _ =>
  have hc : c = 45 := by
   have h1 : (c.toNat : Int) = 45 := beq_iff_eq.1 hm
   have h2 : c.toNat = 45 := by omega
   exact UInt8.toNat_inj.1 (by simpa using h2)
  subst hc
  constructor
  ·simp [unsign, ByteArray.size]
  simp [ByteArray.size]
theorem unsign_no (s : ByteArray) (hz : 0 < s.size) (hm : ((s[0].toNat : Int) == 45) = false) : unsign s.data.toList = s.data.toList := by
 obtain ⟨⟨l⟩⟩ := s
 match l, hz with
 | c :: r, _ =>
  have hc : ¬ c = 45 := by
   intro h
   subst h
   exact Bool.noConfusion (hm.symm.trans (show (((45 : UInt8).toNat : Int) == 45) = true from rfl))
  simp [unsign, hc]
theorem unsign_nil (s : ByteArray) (hz : s.size = 0) : unsign s.data.toList = s.data.toList ∧ s.data.toList = [] := by
 obtain ⟨⟨l⟩⟩ := s
 match l, hz with
 | [], _ => exact ⟨rfl, rfl⟩
set_option maxHeartbeats 400000 in
theorem Looks_any (s : ByteArray) (hs : s.size ≤ maxLen) (w : World) :
 Calls Tryz.prog 113 #[.string s] w fun e w' => e = .returned (.bool (looksB s.data.toList)) ∧ Below w.heap.size w w' := by
 unfold maxLen at hs
 have hcv := fun w s => run_bytes_of_string (P := Tryz.prog) w 9 129 5 s Tryz.underlying9 Tryz.underlying129 Tryz.underlying5
 by_cases hz : 0 < s.size
 rotate_left
 ·have hz' : s.size = 0 := by omega
  have U : Hid (unsign s.data.toList = s.data.toList ∧ s.data.toList = []) := unsign_nil s hz'
  go_enter Tryz.func113, Tryz.ntmps113
  go_wp2
  go_loopw [18] (fun i wr => i = .int .i64 0 ∧ Below w.heap.size w wr) (fun i _ => 0)
  case atStart => exact ⟨rfl, ((Below.refl _ _).alloc (Nat.le_refl _) _).drew⟩
  obtain ⟨rfl, hb⟩ := hrel
  clear hcv
  go_wp2
  go_ret
  exact ⟨retB (by rw [looks_of U.out.1, U.out.2]; rfl), hb⟩
 by_cases hm : ((s[0].toNat : Int) == 45) = true
 ·have U : Hid (unsign s.data.toList = (s.extract 1 s.size).data.toList ∧ (s.extract 1 s.size).data.toList.length = s.size - 1) := unsign_yes s hz hm
  go_enter Tryz.func113, Tryz.ntmps113
  go_wp2
  go_loopw [18] (fun i wr => ∃ k : Nat, k ≤ (s.size - 1) ∧ i = .int .i64 k ∧ Below w.heap.size w wr ∧ (∀ j, j < (s.size - 1) → wr.cell? ⟨w.heap.size, j, none⟩ = some (.int .u8 (((s.extract 1 s.size).data.toList[j]?.getD 0).toNat : Int))) ∧ allDig ((s.extract 1 s.size).data.toList.take k) = true) (fun i _ => (s.size - 1) - (intOf i).toNat)
  case atStart =>
   refine ⟨0, by omega, rfl, ((Below.refl _ _).alloc (Nat.le_refl _) _).drew, ?_, rfl⟩
   intro j hj
   refine (World.cell?_alloc_mark w _ 5 _ j).trans ?_
   exact bytesRow_at _ _ j (by rw [ByteArray.size_extract]; omega)
  obtain ⟨k, hk, rfl, hb, hc, hn⟩ := hrel
  by_cases hlt : k < (s.size - 1)
  ·have hck := hc k hlt
   have hbd := ((s.extract 1 s.size).data.toList[k]?.getD 0).toNat_lt
   have HC : Hid (∀ j, j < (s.size - 1) → wr.cell? ⟨w.heap.size, j, none⟩ = some (.int .u8 (((s.extract 1 s.size).data.toList[j]?.getD 0).toNat : Int))) := hc
   have HN : Hid (allDig ((s.extract 1 s.size).data.toList.take k) = true) := hn
   have HS := dig_step (s.extract 1 s.size).data.toList k (by have := U.out.2; omega)
   clear hn hc hcv
   generalize ((s.extract 1 s.size).data.toList[k]?.getD 0).toNat = x at hck hbd HS
   by_cases a : (x : Int) < 48
   ·have HS' : Hid _ := HS
    clear HS
    go_wp2
    go_ret
    exact ⟨retB (by rw [looks_of U.out.1, HS'.out.1 (by omega)]; simp), hb⟩
   by_cases b : (57 : Int) < x
   ·have HS' : Hid _ := HS
    clear HS
    go_wp2
    go_ret
    exact ⟨retB (by rw [looks_of U.out.1, HS'.out.1 (by omega)]; simp), hb⟩
   have HS' : Hid _ := HS
   clear HS
   go_wp2
   go_roundw
   case rel =>
    exact ⟨k + 1, by omega, by go_num, hb, HC.out, by rw [HS'.out.2 (by omega) (by omega)]; exact HN.out⟩
   case measure => simp [intOf]; omega
  have HN : Hid (allDig ((s.extract 1 s.size).data.toList.take k) = true) := hn
  clear hn hc hcv
  go_wp2
  go_ret
  exact ⟨retB (by rw [looks_of U.out.1, all_of (s.extract 1 s.size).data.toList k (by have := U.out.2; omega) HN.out]; exact end_dec U.out.2), hb⟩
 have hm' : ((s[0].toNat : Int) == 45) = false := by simpa using hm
 clear hm
 have U : Hid (unsign s.data.toList = s.data.toList) := unsign_no s hz hm'
 have hlen : s.data.toList.length = s.size := Array.length_toList
 have L : Hid (s.data.toList.length = s.size) := hlen
 clear hlen
 go_enter Tryz.func113, Tryz.ntmps113
 go_wp2
 go_loopw [18] (fun i wr => ∃ k : Nat, k ≤ s.size ∧ i = .int .i64 k ∧ Below w.heap.size w wr ∧ (∀ j, j < s.size → wr.cell? ⟨w.heap.size, j, none⟩ = some (.int .u8 ((s.data.toList[j]?.getD 0).toNat : Int))) ∧ allDig (s.data.toList.take k) = true) (fun i _ => s.size - (intOf i).toNat)
 case atStart =>
  refine ⟨0, by omega, rfl, ((Below.refl _ _).alloc (Nat.le_refl _) _).drew, ?_, rfl⟩
  intro j hj
  refine (World.cell?_alloc_mark w _ 5 _ j).trans ?_
  exact bytesRow_at _ _ j (by omega)
 obtain ⟨k, hk, rfl, hb, hc, hn⟩ := hrel
 by_cases hlt : k < s.size
 ·have hck := hc k hlt
  have hbd := (s.data.toList[k]?.getD 0).toNat_lt
  have HC : Hid (∀ j, j < s.size → wr.cell? ⟨w.heap.size, j, none⟩ = some (.int .u8 ((s.data.toList[j]?.getD 0).toNat : Int))) := hc
  have HN : Hid (allDig (s.data.toList.take k) = true) := hn
  have HS := dig_step s.data.toList k (by have := L.out; omega)
  clear hn hc hcv
  generalize (s.data.toList[k]?.getD 0).toNat = x at hck hbd HS
  by_cases a : (x : Int) < 48
  ·have HS' : Hid _ := HS
   clear HS
   go_wp2
   go_ret
   exact ⟨retB (by rw [looks_of U.out, HS'.out.1 (by omega)]; simp), hb⟩
  by_cases b : (57 : Int) < x
  ·have HS' : Hid _ := HS
   clear HS
   go_wp2
   go_ret
   exact ⟨retB (by rw [looks_of U.out, HS'.out.1 (by omega)]; simp), hb⟩
  have HS' : Hid _ := HS
  clear HS
  go_wp2
  go_roundw
  case rel =>
   exact ⟨k + 1, by omega, by go_num, hb, HC.out, by rw [HS'.out.2 (by omega) (by omega)]; exact HN.out⟩
  case measure => simp [intOf]; omega
 have HN : Hid (allDig (s.data.toList.take k) = true) := hn
 clear hn hc hcv
 go_wp2
 go_ret
 exact ⟨retB (by rw [looks_of U.out, all_of s.data.toList k (by have := L.out; omega) HN.out]; exact end_true L.out hz), hb⟩
end Go.Proofs.YtonafbennobgdaaGreatDoor
