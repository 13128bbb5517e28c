/- Small functions of package text: what each returns. -/
import Derived.Test.YtonafbennobgdaaGreatDoorK03
import Derived.Test.YtonafbennobgdaaGreatDoorK04
namespace Go.Proofs.YtonafbennobgdaaGreatDoor
set_option linter.unusedVariables false
set_option linter.unusedSimpArgs false
open Go.RowKit
set_option maxHeartbeats 400000 in
theorem digit_any (c : Int) (h0 : 0 ≤ c) (h1 : c ≤ 255) (w : World) :
 Calls Tryz.prog 76 #[.int .u8 c] w fun e w' => e = .returned (.bool (digB c)) ∧ w' = w := by
 by_cases a : 48 ≤ c
 ·by_cases b : c ≤ 57
  ·go_enter Tryz.func76, Tryz.ntmps76
   go_wp2
   go_ret
   exact ⟨by simp [digB, a, b], rfl⟩
  go_enter Tryz.func76, Tryz.ntmps76
  go_wp2
  go_ret
  exact ⟨by simp [digB, a, b], rfl⟩
 have a' : ¬ 48 ≤ c := a
 go_enter Tryz.func76, Tryz.ntmps76
 go_wp2
 go_ret
 refine ⟨retB ?_, rfl⟩
 unfold digB
 rw [decide_eq_false (by omega), Bool.false_and]
def sgn : List UInt8 := [33, 63, 42, 43, 45, 47, 60, 61, 62, 95, 46]
theorem letter_all : ∀ c : Fin 256, letB (c.val : Int) = ((decide (97 ≤ (c.val : Int)) && decide ((c.val : Int) ≤ 122)) || (digB (c.val : Int) || decide (0 ≤ Lib.indexByte sgn c.val.toUInt8))) := by
 decide +kernel
theorem letB_eq (c : Int) (h0 : 0 ≤ c) (h1 : c ≤ 255) : letB c = ((decide (97 ≤ c) && decide (c ≤ 122)) || (digB c || decide (0 ≤ Lib.indexByte sgn c.toNat.toUInt8))) := by
 obtain ⟨n, rfl⟩ := Int.eq_ofNat_of_zero_le h0
 exact letter_all ⟨n, by omega⟩
set_option maxHeartbeats 400000 in
theorem letter_any (c : Int) (h0 : 0 ≤ c) (h1 : c ≤ 255) (w : World) :
 Calls Tryz.prog 74 #[.int .u8 c] w fun e w' => e = .returned (.bool (letB c)) ∧ w' = w := by
 have HE : Hid (letB c = ((decide (97 ≤ c) && decide (c ≤ 122)) || (digB c || decide (0 ≤ Lib.indexByte sgn c.toNat.toUInt8)))) := letB_eq c h0 h1
 by_cases a : 97 ≤ c ∧ c ≤ 122
 ·obtain ⟨a1, a2⟩ := a
  go_enter Tryz.func74, Tryz.ntmps74
  go_wp2_with fail
  go_ret
  exact ⟨retB (by rw [HE.out, decide_eq_true a1, decide_eq_true a2]; rfl), rfl⟩
 have ha : Hid ((decide (97 ≤ c) && decide (c ≤ 122)) = false) := by
  show (decide (97 ≤ c) && decide (c ≤ 122)) = false
  by_cases g : 97 ≤ c
  ·rw [decide_eq_false (p := c ≤ 122) (by omega), Bool.and_false]
  rw [decide_eq_false g, Bool.false_and]
 clear a
 have hor : (97 ≤ c ∧ ¬ c ≤ 122) ∨ ¬ 97 ≤ c := by
  by_cases g : 97 ≤ c
  ·refine Or.inl ⟨g, fun h => ?_⟩
   have := ha.out
   simp [g, h] at this
  exact Or.inr g
 obtain ⟨d, HD⟩ : ∃ d, Hid (digB c = d) := ⟨_, rfl⟩
 obtain ⟨i, HI⟩ : ∃ i, Hid (Lib.indexByte sgn c.toNat.toUInt8 = i) := ⟨_, rfl⟩
 have dg := digit_any c h0 h1 w
 rw [HD.out] at dg
 have ix : Calls Tryz.prog 102 #[.string ⟨#[33, 63, 42, 43, 45, 47, 60, 61, 62, 95, 46]⟩, .int .u8 c] w fun e w' => e = .returned (.int .i64 i) ∧ w' = w := by
  have h := Tryz.strings_IndexByte ⟨#[33, 63, 42, 43, 45, 47, 60, 61, 62, 95, 46]⟩ c w
  rw [show Lib.indexByte (⟨#[33, 63, 42, 43, 45, 47, 60, 61, 62, 95, 46]⟩ : ByteArray).data.toList c.toNat.toUInt8 = i from HI.out] at h
  exact h
 have DG : Hid (Calls Tryz.prog 76 #[.int .u8 c] w fun e w' => e = .returned (.bool d) ∧ w' = w) := dg
 have IX : Hid (Calls Tryz.prog 102 #[.string ⟨#[33, 63, 42, 43, 45, 47, 60, 61, 62, 95, 46]⟩, .int .u8 c] w fun e w' => e = .returned (.int .i64 i) ∧ w' = w) := ix
 clear dg ix
 rcases hor with ⟨a1, a2⟩ | a1
 all_goals
  cases d
  ·by_cases hi : 0 ≤ i
   ·go_enter Tryz.func74, Tryz.ntmps74
    go_wp2_with fail
    refine DG.out.mono ?_
    rintro e w' ⟨rfl, rfl⟩
    go_wp2_with fail
    refine IX.out.mono ?_
    rintro e w' ⟨rfl, rfl⟩
    go_wp2_with fail
    go_ret
    exact ⟨retB (by rw [HE.out, ha.out, HD.out, HI.out, decide_eq_true hi]; rfl), rfl⟩
   go_enter Tryz.func74, Tryz.ntmps74
   go_wp2_with fail
   refine DG.out.mono ?_
   rintro e w' ⟨rfl, rfl⟩
   go_wp2_with fail
   refine IX.out.mono ?_
   rintro e w' ⟨rfl, rfl⟩
   go_wp2_with fail
   go_ret
   exact ⟨retB (by rw [HE.out, ha.out, HD.out, HI.out, decide_eq_false (by omega)]; rfl), rfl⟩
  go_enter Tryz.func74, Tryz.ntmps74
  go_wp2_with fail
  refine DG.out.mono ?_
  rintro e w' ⟨rfl, rfl⟩
  go_wp2_with fail
  go_ret
  exact ⟨retB (by rw [HE.out, ha.out, HD.out]; rfl), rfl⟩
def wl (l : List UInt8) : Nat := (l.takeWhile fun c => letB (c.toNat : Int)).length
theorem takeWhile_stop {p : UInt8 → Bool} : ∀ (l : List UInt8) (k : Nat) (h : k < l.length), (l.take k).all p = true → p l[k] = false → (l.takeWhile p).length = k
 | c :: r, 0, h, _, hp => by simp at hp; simp [hp]
 | c :: r, k + 1, h, ha, hp => by
  simp at ha
  obtain ⟨h1, h2⟩ := ha
  have := takeWhile_stop r k (by simpa using h) (by simpa using h2) (by simpa using hp)
  simp [h1, this]
theorem takeWhile_end {p : UInt8 → Bool} : ∀ (l : List UInt8), l.all p = true → (l.takeWhile p).length = l.length
 | [], _ => rfl
 | c :: r, ha => by
  simp at ha
  have := takeWhile_end (p := p) r (by simpa using ha.2)
  simp [ha.1, this]
theorem retS {a b : ByteArray} (h : a = b) : Ending.returned (.string a) = .returned (.string b) := by rw [h]
theorem let_step (s : ByteArray) (k : Nat) (h : k < s.size) (hl : letB (s[k].toNat : Int) = true) (ha : allLet (s.data.toList.take k) = true) : allLet (s.data.toList.take (k + 1)) = true := by
 have h' : k < s.data.toList.length := by rw [Array.length_toList]; exact h
 rw [List.take_succ_eq_append_getElem h']
 simp only [allLet, List.all_append] at ha ⊢
 rw [ha]
 have e : s.data.toList[k] = s[k] := rfl
 simp [e, hl]
theorem wl_stop (s : ByteArray) (k : Nat) (h : k < s.size) (hl : letB (s[k].toNat : Int) = false) (ha : allLet (s.data.toList.take k) = true) : wl s.data.toList = k := by
 have h' : k < s.data.toList.length := by rw [Array.length_toList]; exact h
 exact takeWhile_stop (p := fun c => letB (c.toNat : Int)) _ k h' ha hl
theorem wl_end (s : ByteArray) (ha : allLet (s.data.toList.take s.size) = true) : wl s.data.toList = s.size := by
 have e : s.data.toList.length = s.size := Array.length_toList
 rw [List.take_of_length_le (by omega)] at ha
 exact (takeWhile_end (p := fun c => letB (c.toNat : Int)) _ ha).trans e
set_option maxHeartbeats 400000 in
theorem wordAhead_any (s : ByteArray) (hs : s.size ≤ maxLen) (w : World) :
 Calls Tryz.prog 49 #[.string s] w fun e w' => e = .returned (.string (s.extract 0 (wl s.data.toList))) ∧ w' = w := by
 unfold maxLen at hs
 go_enter Tryz.func49, Tryz.ntmps49
 go_wp2_with fail
 go_loop [3] (fun i => ∃ k : Nat, k ≤ s.size ∧ i = .int .i64 k ∧ allLet (s.data.toList.take k) = true) (fun i => s.size - (intOf i).toNat)
 case atStart => exact ⟨0, Nat.zero_le _, rfl, rfl⟩
 obtain ⟨k, hk, rfl, ha⟩ := hrel
 have HA : Hid (allLet (s.data.toList.take k) = true) := ha
 clear ha
 by_cases hlt : k < s.size
 ·have hbd := s[k].toNat_lt
  have lc := letter_any (s[k].toNat : Int) (by omega) (by omega) w
  obtain ⟨d, HD⟩ : ∃ d, Hid (letB (s[k].toNat : Int) = d) := ⟨letB (s[k].toNat : Int), (rfl : letB (s[k].toNat : Int) = letB (s[k].toNat : Int))⟩
  rw [HD.out] at lc
  have LC : Hid (Calls Tryz.prog 74 #[.int .u8 (s[k].toNat : Int)] w fun e w' => e = .returned (.bool d) ∧ w' = w) := lc
  clear lc
  cases d
  ·go_wp2_with fail
   refine LC.out.mono ?_
   rintro e w' ⟨rfl, rfl⟩
   go_wp2_with fail
   go_ret
   exact ⟨retS (by rw [wl_stop s k hlt HD.out HA.out]), rfl⟩
  go_wp2_with fail
  refine LC.out.mono ?_
  rintro e w' ⟨rfl, rfl⟩
  go_wp2_with fail
  go_round
  case rel => exact ⟨k + 1, by omega, by go_num, let_step s k hlt HD.out HA.out⟩
  case measure => simp [intOf]; omega
 obtain rfl : k = s.size := by omega
 go_wp2_with fail
 go_ret
 exact ⟨retS (by rw [wl_end s HA.out]; simp), rfl⟩
theorem trim_unsign (l : List UInt8) : Lib.trimPrefix l [45] = unsign l := by
 unfold Lib.trimPrefix Lib.hasPrefix unsign
 cases l with
 | nil => rfl
 | cons c r =>
  by_cases h : c = 45
  ·subst h; simp
  have h' : ¬ (45 : UInt8) = c := fun e => h e.symm
  simp [h, h']
theorem dig_stop (t : ByteArray) (k : Nat) (h : k < t.size) (hl : digB (t[k].toNat : Int) = false) : allDig t.data.toList = false := by
 have h' : k < t.data.toList.length := by rw [Array.length_toList]; exact h
 unfold allDig
 rw [List.all_eq_false]
 exact ⟨t.data.toList[k], List.getElem_mem h', by rw [show t.data.toList[k] = t[k] from rfl, hl]; simp⟩
theorem dig_go (t : ByteArray) (k : Nat) (h : k < t.size) (hl : digB (t[k].toNat : Int) = true) (ha : allDig (t.data.toList.take k) = true) : allDig (t.data.toList.take (k + 1)) = true := by
 have h' : k < t.data.toList.length := by rw [Array.length_toList]; exact h
 rw [List.take_succ_eq_append_getElem h']
 simp only [allDig, List.all_append] at ha ⊢
 rw [ha]
 have e : t.data.toList[k] = t[k] := rfl
 simp [e, hl]
theorem dig_end (t : ByteArray) (ha : allDig (t.data.toList.take t.size) = true) : allDig t.data.toList = true := by
 have e : t.data.toList.length = t.size := Array.length_toList
 rwa [List.take_of_length_le (by omega)] at ha
set_option maxHeartbeats 400000 in
theorem looksLike_any (s : ByteArray) (hs : s.size ≤ maxLen) (w : World) :
 Calls Tryz.prog 50 #[.string s] w fun e w' => e = .returned (.bool (looksB s.data.toList)) ∧ w' = w := by
 unfold maxLen at hs
 obtain ⟨t, HT⟩ : ∃ t : ByteArray, Hid (t.data.toList = unsign s.data.toList) := ⟨⟨(unsign s.data.toList).toArray⟩, rfl⟩
 have hts : t.size ≤ s.size := by
  have h1 := congrArg List.length HT.out
  have h2 : (unsign s.data.toList).length ≤ s.data.toList.length := by
   unfold unsign; split <;> simp
  have h3 : t.data.toList.length = t.size := Array.length_toList
  have h4 : s.data.toList.length = s.size := Array.length_toList
  omega
 have tp : Calls Tryz.prog 75 #[.string s, .string ⟨#[45]⟩] w fun e w' => e = .returned (.string t) ∧ w' = w := by
  have h := Tryz.strings_TrimPrefix s ⟨#[45]⟩ w
  rw [show (⟨#[45]⟩ : ByteArray).data.toList = [45] from rfl, trim_unsign, ← HT.out] at h
  exact h
 have TP : Hid (Calls Tryz.prog 75 #[.string s, .string ⟨#[45]⟩] w fun e w' => e = .returned (.string t) ∧ w' = w) := tp
 clear tp
 go_enter Tryz.func50, Tryz.ntmps50
 go_wp2_with fail
 refine TP.out.mono ?_
 rintro e w' ⟨rfl, rfl⟩
 clear TP
 go_wp2_with fail
 go_loop [9] (fun i => ∃ k : Nat, k ≤ t.size ∧ i = .int .i64 k ∧ allDig (t.data.toList.take k) = true) (fun i => t.size - (intOf i).toNat)
 case atStart => exact ⟨0, Nat.zero_le _, rfl, rfl⟩
 obtain ⟨k, hk, rfl, ha⟩ := hrel
 have HA : Hid (allDig (t.data.toList.take k) = true) := ha
 clear ha
 by_cases hlt : k < t.size
 ·have hbd := t[k].toNat_lt
  have lc := digit_any (t[k].toNat : Int) (by omega) (by omega) w'
  obtain ⟨d, HD⟩ : ∃ d, Hid (digB (t[k].toNat : Int) = d) := ⟨digB (t[k].toNat : Int), (rfl : digB (t[k].toNat : Int) = digB (t[k].toNat : Int))⟩
  rw [HD.out] at lc
  have LC : Hid (Calls Tryz.prog 76 #[.int .u8 (t[k].toNat : Int)] w' fun e w'' => e = .returned (.bool d) ∧ w'' = w') := lc
  clear lc
  cases d
  ·go_wp2_with fail
   refine LC.out.mono ?_
   rintro e w' ⟨rfl, rfl⟩
   go_wp2_with fail
   go_ret
   exact ⟨retB (by rw [looks_of HT.out.symm, dig_stop t k hlt HD.out]; rfl), rfl⟩
  go_wp2_with fail
  refine LC.out.mono ?_
  rintro e w' ⟨rfl, rfl⟩
  go_wp2_with fail
  go_round
  case rel => exact ⟨k + 1, by omega, by go_num, dig_go t k hlt HD.out HA.out⟩
  case measure => simp [intOf]; omega
 obtain rfl : k = t.size := by omega
 go_wp2_with fail
 go_ret
 refine ⟨retB ?_, rfl⟩
 rw [looks_of HT.out.symm, dig_end t HA.out]
 rw [ByteArray.toList_eq]; rfl
theorem takeWhile_all {p : UInt8 → Bool} : ∀ (l : List UInt8), (l.takeWhile p == l) = l.all p
 | [] => rfl
 | c :: r => by
  by_cases h : p c = true
  ·have := takeWhile_all (p := p) r
   simp [h] at this ⊢
   exact this
  simp [h]
theorem take_takeWhile {p : UInt8 → Bool} : ∀ (l : List UInt8), l.take (l.takeWhile p).length = l.takeWhile p
 | [] => rfl
 | c :: r => by
  by_cases h : p c = true
  ·have := take_takeWhile (p := p) r
   simp [h, this]
  simp [h]
theorem word_all (s : ByteArray) : ((s.extract 0 (wl s.data.toList)).toList == s.toList) = allLet s.data.toList := by
 rw [ByteArray.toList_eq, ByteArray.toList_eq]
 have e : (s.extract 0 (wl s.data.toList)).data.toList = s.data.toList.takeWhile fun c => letB (c.toNat : Int) := by
  have h1 : (s.extract 0 (wl s.data.toList)).data.toList = s.data.toList.take (wl s.data.toList) := by
   simp [ByteArray.data_extract]
  rw [h1]
  exact take_takeWhile _
 rw [e]
 exact takeWhile_all _
theorem size_pos_toList {s : ByteArray} (h : ¬ s.size = 0) : ¬ s.toList = [] := by
 rw [ByteArray.toList_eq]
 intro e
 have := congrArg List.length e
 rw [Array.length_toList] at this
 exact h this
set_option maxHeartbeats 400000 in
theorem Named_any (s : ByteArray) (hs : s.size ≤ maxLen) (w : World) :
 Calls Tryz.prog 18 #[.string s] w fun e w' => e = .returned (.bool (namedB s)) ∧ w' = w := by
 by_cases hz : s.size = 0
 ·obtain ⟨⟨l⟩⟩ := s
  match l, hz with
  | [], _ =>
  go_enter Tryz.func18, Tryz.ntmps18
  go_wp2_with fail
  go_ret
  exact ⟨rfl, rfl⟩
 have hz1 : s.toList.isEmpty = false := by
  have := size_pos_toList hz
  cases h : s.toList with
  | nil => exact absurd h this
  | cons c r => rfl
 by_cases hb : 20 < s.size
 ·unfold maxLen at hs
  go_enter Tryz.func18, Tryz.ntmps18
  go_wp2_with fail
  go_ret
  refine ⟨retB ?_, rfl⟩
  unfold namedB
  rw [decide_eq_false (p := s.size ≤ 20) (by omega), Bool.and_false]
  rfl
 have HE : Hid (namedB s = (allLet s.data.toList && !looksB s.data.toList)) := by
  show namedB s = _
  unfold namedB
  rw [decide_eq_true (p := 0 < s.size) (by omega), decide_eq_true (p := s.size ≤ 20) (by omega)]
  rfl
 have wa := wordAhead_any s hs w
 have la := looksLike_any s hs w
 have HW := word_all s
 generalize s.extract 0 (wl s.data.toList) = t at wa HW
 obtain ⟨d, HD⟩ : ∃ d, Hid (looksB s.data.toList = d) := ⟨_, rfl⟩
 obtain ⟨a, HA⟩ : ∃ a, Hid (allLet s.data.toList = a) := ⟨_, rfl⟩
 rw [HD.out] at la
 rw [HA.out] at HW
 have WA : Hid (Calls Tryz.prog 49 #[.string s] w fun e w' => e = .returned (.string t) ∧ w' = w) := wa
 have LA : Hid (Calls Tryz.prog 50 #[.string s] w fun e w' => e = .returned (.bool d) ∧ w' = w) := la
 clear wa la
 unfold maxLen at hs
 cases a
 ·go_enter Tryz.func18, Tryz.ntmps18
  go_wp2_with fail
  refine WA.out.mono ?_
  rintro e w' ⟨rfl, rfl⟩
  go_wp2_with fail
  go_ret
  exact ⟨retB (by rw [HE.out, HA.out]; rfl), rfl⟩
 go_enter Tryz.func18, Tryz.ntmps18
 go_wp2_with fail
 refine WA.out.mono ?_
 rintro e w' ⟨rfl, rfl⟩
 go_wp2_with fail
 refine LA.out.mono ?_
 rintro e w' ⟨rfl, rfl⟩
 go_wp2_with fail
 go_ret
 exact ⟨retB (by rw [HE.out, HA.out, HD.out]; rfl), rfl⟩
set_option maxHeartbeats 400000 in
theorem refNamed_any (s : ByteArray) (hs : s.size ≤ maxLen) (w : World) :
 Calls Tryz.prog 82 #[.string s] w fun e w' => e = .returned (.bool (namedB s)) ∧ Below w.heap.size w w' := by
 have HS : Hid (s.size ≤ maxLen) := hs
 unfold maxLen at hs
 have hcv := fun w s => run_bytes_of_string (P := Tryz.prog) w 9 129 5 s Tryz.underlying9 Tryz.underlying129 Tryz.underlying5
 go_enter Tryz.func82, Tryz.ntmps82
 go_wp2_with fail
 go_loopw [8] (fun i wr => ∃ k : Nat, k ≤ s.size ∧ i = .int .i64 k ∧ Below w.heap.size w wr ∧ w.heap.size < wr.heap.size ∧ (∀ j, j < s.size → wr.cell? ⟨w.heap.size, j, none⟩ = some (.int .u8 ((s.data.toList[j]?.getD 0).toNat : Int))) ∧ allLet (s.data.toList.take k) = true) (fun i _ => s.size - (intOf i).toNat)
 case atStart =>
  refine ⟨0, by omega, rfl, ((Below.refl _ _).alloc (Nat.le_refl _) _).drew, by simp, ?_, rfl⟩
  intro j hj
  refine (World.cell?_alloc_mark w _ 5 _ j).trans ?_
  exact bytesRow_at _ _ j hj
 obtain ⟨k, hk, rfl, hb, hsz, hc, hn⟩ := hrel
 have HN : Hid (allLet (s.data.toList.take k) = true) := hn
 clear hn hcv
 by_cases hlt : k < s.size
 ·have e : s.data.toList[k]?.getD 0 = s[k] := by
   have h' : k < s.data.toList.length := by rw [Array.length_toList]; exact hlt
   rw [List.getElem?_eq_getElem h']; rfl
  have hck := hc k hlt
  rw [e] at hck
  have HC : Hid (∀ j, j < s.size → wr.cell? ⟨w.heap.size, j, none⟩ = some (.int .u8 ((s.data.toList[j]?.getD 0).toNat : Int))) := hc
  clear hc e
  have hbd := s[k].toNat_lt
  have lc := Letter_any (s[k].toNat : Int) (by omega) (by omega) wr
  obtain ⟨d, HD⟩ : ∃ d, Hid (letB (s[k].toNat : Int) = d) := ⟨letB (s[k].toNat : Int), (rfl : letB (s[k].toNat : Int) = letB (s[k].toNat : Int))⟩
  rw [HD.out] at lc
  have LC : Hid (Calls Tryz.prog 112 #[.int .u8 (s[k].toNat : Int)] wr fun e w' => e = .returned (.bool d) ∧ Below wr.heap.size wr w') := lc
  clear lc
  cases d
  ·go_wp2_with fail
   refine LC.out.mono ?_
   rintro e w1 ⟨rfl, hb1⟩
   go_wp2_with fail
   go_ret
   refine ⟨retB ?_, hb.trans (hb1.mono (by omega))⟩
   have hl : allLet s.data.toList = false := by
    unfold allLet
    rw [List.all_eq_false]
    have h' : k < s.data.toList.length := by rw [Array.length_toList]; exact hlt
    exact ⟨s.data.toList[k], List.getElem_mem h', by rw [show s.data.toList[k] = s[k] from rfl, HD.out]; simp⟩
   unfold namedB
   rw [hl, Bool.and_false]
   rfl
  go_wp2_with fail
  refine LC.out.mono ?_
  rintro e w1 ⟨rfl, hb1⟩
  go_wp2_with fail
  go_roundw
  case rel =>
   exact ⟨k + 1, by omega, by go_num, hb.trans (hb1.mono (by omega)), by have := hb1.size; omega, fun j hj => (hb1.cell (p := ⟨w.heap.size, j, none⟩) hsz).trans (HC.out j hj), let_step s k hlt HD.out HN.out⟩
  case measure => simp [intOf]; omega
 obtain rfl : k = s.size := by omega
 have HL : Hid (allLet s.data.toList = true) := by
  have := HN.out
  rwa [List.take_of_length_le (by rw [Array.length_toList]; exact Nat.le_refl _)] at this
 clear hc
 by_cases hz : 0 < s.size
 ·by_cases h20 : s.size ≤ 20
  ·have la := Looks_any s HS.out wr
   obtain ⟨d, HD⟩ : ∃ d, Hid (looksB s.data.toList = d) := ⟨_, rfl⟩
   rw [HD.out] at la
   have LA : Hid (Calls Tryz.prog 113 #[.string s] wr fun e w' => e = .returned (.bool d) ∧ Below wr.heap.size wr w') := la
   clear la
   go_wp2_with fail
   refine LA.out.mono ?_
   rintro e w1 ⟨rfl, hb1⟩
   go_wp2_with fail
   go_ret
   refine ⟨retB ?_, hb.trans (hb1.mono (by omega))⟩
   unfold namedB
   rw [decide_eq_true hz, decide_eq_true h20, HL.out, HD.out]
   rfl
  go_wp2_with fail
  go_ret
  refine ⟨retB ?_, hb⟩
  unfold namedB
  rw [decide_eq_false h20, Bool.and_false]
  rfl
 go_wp2_with fail
 go_ret
 refine ⟨retB ?_, hb⟩
 unfold namedB
 rw [decide_eq_false hz]
 rfl
end Go.Proofs.YtonafbennobgdaaGreatDoor
