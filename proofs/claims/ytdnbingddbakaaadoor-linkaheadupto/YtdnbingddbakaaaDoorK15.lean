/- Chapter 9: plain texts; what is wrong with a number. Chapter 9: how many an instruction takes and puts. Chapter 9: the document's own Plain. Chapter 9: a procedure's size; a global's name. -/
import Derived.Test.YtdnbingddbakaaaDoorK05
import Derived.Test.YtdnbingddbakaaaDoorK14
namespace Go.Proofs.YtdnbingddbakaaaDoor
section
set_option linter.unusedVariables false
set_option linter.unusedSimpArgs false
open Go.RowKit

def plC (c : UInt8) : Bool := decide (32 ≤ c.toNat) && decide (c.toNat ≤ 126)
def allPl (l : List UInt8) : Bool := l.all plC
theorem plainB_eq (s : ByteArray) : plainB s = (decide (s.size ≤ 60) && allPl s.data.toList) := rfl
theorem pl_step (s : ByteArray) (k : Nat) (h : k < s.size) (hl : plC s[k] = true) (ha : allPl (s.data.toList.take k) = true) : allPl (s.data.toList.take (k + 1)) = true := by
  have h' : k < s.data.toList.length := by rw [Array.length_toList]; exact h
  unfold allPl at *
  rw [List.take_succ_eq_append_getElem h', List.all_append, ha]
  have e : s.data.toList[k] = s[k] := rfl
  simp [e, hl]
theorem pl_stop (s : ByteArray) (k : Nat) (h : k < s.size) (hl : plC s[k] = false) : allPl s.data.toList = false := by
  have h' : k < s.data.toList.length := by rw [Array.length_toList]; exact h
  unfold allPl
  rw [List.all_eq_false]
  exact ⟨s.data.toList[k], List.getElem_mem h', by rw [show s.data.toList[k] = s[k] from rfl, hl]; simp⟩
theorem pl_end (s : ByteArray) (ha : allPl (s.data.toList.take s.size) = true) : allPl s.data.toList = true := by
  rwa [List.take_of_length_le (by rw [Array.length_toList]; exact Nat.le_refl _)] at ha

set_option maxHeartbeats 400000 in
theorem plain_any (s : ByteArray) (hs : s.size ≤ maxLen) (w : World) :
    Calls Tryd.prog 40 #[.string s] w fun e w' => e = .returned (.bool (plainB s)) ∧ w' = w := by
  unfold maxLen at hs
  rw [plainB_eq]
  by_cases h60 : s.size ≤ 60
  · rw [decide_eq_true h60, Bool.true_and]
    have h60' : ¬ 60 < s.size := by omega
    go_enter Tryd.func40, Tryd.ntmps40
    go_wp2_with fail
    go_loop [9] (fun i => ∃ k : Nat, k ≤ s.size ∧ i = .int .i64 k ∧ allPl (s.data.toList.take k) = true) (fun i => s.size - (intOf i).toNat)
    case atStart => exact ⟨0, Nat.zero_le _, rfl, rfl⟩
    case round =>
      obtain ⟨k, hk, rfl, ha⟩ := hrel
      have HA : Hid (allPl (s.data.toList.take k) = true) := ha
      clear ha
      by_cases hlt : k < s.size
      · have hbd := s[k].toNat_lt
        by_cases h1 : s[k].toNat < 32
        · have HD : Hid (plC s[k] = false) := by unfold Hid plC; simp; omega
          go_wp2_with fail
          go_ret
          exact ⟨retB (by rw [pl_stop s k hlt HD.out]), rfl⟩
        · by_cases h2 : 126 < s[k].toNat
          · have HD : Hid (plC s[k] = false) := by unfold Hid plC; simp; omega
            go_wp2_with fail
            go_ret
            exact ⟨retB (by rw [pl_stop s k hlt HD.out]), rfl⟩
          · have HD : Hid (plC s[k] = true) := by unfold Hid plC; simp; omega
            go_wp2_with fail
            go_round
            case rel => exact ⟨k + 1, by omega, by go_num, pl_step s k hlt HD.out HA.out⟩
            case measure => simp [intOf]; omega
      · obtain rfl : k = s.size := by omega
        go_wp2_with fail
        go_ret
        exact ⟨retB (by rw [pl_end s HA.out]), rfl⟩
  · rw [decide_eq_false h60, Bool.false_and]
    have h60' : 60 < s.size := by omega
    go_enter Tryd.func40, Tryd.ntmps40
    go_wp2_with fail
    go_ret
    exact ⟨rfl, rfl⟩

theorem otherwise_any (b : Bool) (e : Int) (w : World) : Calls Tryd.prog 54 #[.bool b, .int .i64 e] w fun r w' => r = .returned (.int .i64 (if b then 0 else e)) ∧ w' = w := by
  cases b <;>
  · go_enter Tryd.func54, Tryd.ntmps54
    go_wp2_with fail
    go_ret
    exact ⟨rfl, rfl⟩
theorem below_any (n m : Int) (w : World) : Calls Tryd.prog 61 #[.int .i64 n, .int .i64 m] w fun r w' => r = .returned (.int .i64 (if 0 ≤ n ∧ n < m then 0 else 3)) ∧ w' = w := by
  have O := fun b w => otherwise_any b 3 w
  by_cases h1 : 0 ≤ n
  · by_cases h2 : n < m
    · rw [if_pos ⟨h1, h2⟩]
      go_enter Tryd.func61, Tryd.ntmps61
      go_wp2_with fail
      refine (O true _).mono ?_
      rintro e w1 ⟨rfl, rfl⟩
      go_wp2_with fail
      go_ret
      exact ⟨rfl, rfl⟩
    · rw [if_neg (by omega)]
      go_enter Tryd.func61, Tryd.ntmps61
      go_wp2_with fail
      refine (O false _).mono ?_
      rintro e w1 ⟨rfl, rfl⟩
      go_wp2_with fail
      go_ret
      exact ⟨rfl, rfl⟩
  · rw [if_neg (by omega)]
    go_enter Tryd.func61, Tryd.ntmps61
    go_wp2_with fail
    refine (O false _).mono ?_
    rintro e w1 ⟨rfl, rfl⟩
    go_wp2_with fail
    go_ret
    exact ⟨rfl, rfl⟩
end
section
set_option linter.unusedVariables false
set_option linter.unusedSimpArgs false
open Go.RowKit

set_option maxHeartbeats 800000 in
theorem moves_any (x : In) (b o : Nat) (w : World) (h0 : w.cell? ⟨b, o, none⟩ = some (.int .i64 x.op)) (h1 : w.cell? ⟨b, o + 1, none⟩ = some (.int .i64 x.a)) (hc : x.op = 8 → 0 ≤ x.a ∧ x.a ≤ 2000) :
    Calls Tryd.prog 81 #[.pointer (some ⟨b, o, none⟩)] w fun r w' => r = .returned (.tuple #[.int .i64 (movesI x).1, .int .i64 (movesI x).2]) ∧ w' = w := by
  obtain ⟨op, a, n, lb, ow, q⟩ := x
  simp only at h0 h1 hc
  by_cases k8 : op = 8
  · subst k8
    have hca := hc rfl
    clear hc
    rw [show movesI ⟨8, a, n, lb, ow, q⟩ = (a + 1, 1) by simp [movesI]]
    go_enter Tryd.func81, Tryd.ntmps81
    go_wp2_with fail
    refine bodyPost_ret (v := .tuple #[.int .i64 (a + 1), .int .i64 1]) (by simp [results, Tryd.results81, go_sem]) rfl ⟨rfl, rfl⟩
  · clear hc
    by_cases kk : op = 1 ∨ op = 2 ∨ op = 3 ∨ op = 4 ∨ op = 5 ∨ op = 6 ∨ op = 7 ∨ op = 10 ∨ op = 14 ∨ op = 11 ∨ op = 12 ∨ op = 13
    · rcases kk with rfl | rfl | rfl | rfl | rfl | rfl | rfl | rfl | rfl | rfl | rfl | rfl <;>
      · simp only [movesI]
        go_enter Tryd.func81, Tryd.ntmps81
        go_wp2_with fail
        first | exact bodyPost_ret (v := .tuple #[.int .i64 0, .int .i64 1]) (by simp [results, Tryd.results81, go_sem]) rfl ⟨rfl, rfl⟩ | exact bodyPost_ret (v := .tuple #[.int .i64 1, .int .i64 0]) (by simp [results, Tryd.results81, go_sem]) rfl ⟨rfl, rfl⟩ | exact bodyPost_ret (v := .tuple #[.int .i64 1, .int .i64 1]) (by simp [results, Tryd.results81, go_sem]) rfl ⟨rfl, rfl⟩
    · have hm : movesI ⟨op, a, n, lb, ow, q⟩ = (0, 0) := by
        unfold movesI
        rw [if_neg (by simp only; omega), if_neg (by simp only; omega), if_neg (by simp only; omega), if_neg (by simp only; omega)]
      rw [hm]
      have e1 : (op == 1) = false := by simp; omega
      have e2 : (op == 2) = false := by simp; omega
      have e3 : (op == 3) = false := by simp; omega
      have e4 : (op == 4) = false := by simp; omega
      have e5 : (op == 5) = false := by simp; omega
      have e6 : (op == 6) = false := by simp; omega
      have e7 : (op == 7) = false := by simp; omega
      have e8 : (op == 8) = false := by simp; omega
      have e10 : (op == 10) = false := by simp; omega
      have e11 : (op == 11) = false := by simp; omega
      have e12 : (op == 12) = false := by simp; omega
      have e13 : (op == 13) = false := by simp; omega
      have e14 : (op == 14) = false := by simp; omega
      clear kk k8 hm
      go_enter Tryd.func81, Tryd.ntmps81
      go_wp2_with fail
      refine bodyPost_ret (v := .tuple #[.int .i64 0, .int .i64 0]) (by simp [results, Tryd.results81, go_sem]) rfl ⟨rfl, rfl⟩
end
section
set_option linter.unusedVariables false
set_option linter.unusedSimpArgs false
open Go.RowKit

set_option maxHeartbeats 400000 in
theorem Plain_any (s : ByteArray) (hs : s.size ≤ maxLen) (w : World) :
    Calls Tryd.prog 36 #[.string s] w fun e w' => e = .returned (.bool (plainB s)) ∧ Below w.heap.size w w' := by
  unfold maxLen at hs
  rw [plainB_eq]
  have hcv := fun w s => run_bytes_of_string (P := Tryd.prog) w 9 90 5 s Tryd.underlying9 Tryd.underlying90 Tryd.underlying5
  go_enter Tryd.func36, Tryd.ntmps36
  go_wp2_with fail
  go_loopw [8] (fun i wr => ∃ k : Nat, k ≤ s.size ∧ i = .int .i64 k ∧ Below w.heap.size w wr ∧ w.heap.size < wr.heap.size ∧ (∀ j, j < s.size → wr.cell? ⟨w.heap.size, j, none⟩ = some (.int .u8 ((s.data.toList[j]?.getD 0).toNat : Int))) ∧ allPl (s.data.toList.take k) = true) (fun i _ => s.size - (intOf i).toNat)
  case atStart =>
    refine ⟨0, by omega, rfl, ((Below.refl _ _).alloc (Nat.le_refl _) _).drew, by simp, ?_, rfl⟩
    intro j hj
    refine (World.cell?_alloc_mark w _ 5 _ j).trans ?_
    exact bytesRow_at _ _ j hj
  case round =>
    obtain ⟨k, hk, rfl, hb, hsz, hc, hn⟩ := hrel
    have HN : Hid (allPl (s.data.toList.take k) = true) := hn
    clear hn hcv
    by_cases hlt : k < s.size
    · have e : s.data.toList[k]?.getD 0 = s[k] := by
        have h' : k < s.data.toList.length := by rw [Array.length_toList]; exact hlt
        rw [List.getElem?_eq_getElem h']; rfl
      have hck := hc k hlt
      rw [e] at hck
      have HC : Hid (∀ j, j < s.size → wr.cell? ⟨w.heap.size, j, none⟩ = some (.int .u8 ((s.data.toList[j]?.getD 0).toNat : Int))) := hc
      clear hc e
      have hbd := s[k].toNat_lt
      by_cases h1 : s[k].toNat < 32
      · have HD : Hid (plC s[k] = false) := by unfold Hid plC; simp; omega
        go_wp2_with fail
        go_ret
        exact ⟨retB (by rw [pl_stop s k hlt HD.out, Bool.and_false]), hb⟩
      · by_cases h2 : 126 < s[k].toNat
        · have HD : Hid (plC s[k] = false) := by unfold Hid plC; simp; omega
          go_wp2_with fail
          go_ret
          exact ⟨retB (by rw [pl_stop s k hlt HD.out, Bool.and_false]), hb⟩
        · have HD : Hid (plC s[k] = true) := by unfold Hid plC; simp; omega
          go_wp2_with fail
          go_roundw
          case rel => exact ⟨k + 1, by omega, by go_num, hb, hsz, HC.out, pl_step s k hlt HD.out HN.out⟩
          case measure => simp [intOf]; omega
    · obtain rfl : k = s.size := by omega
      clear hc
      by_cases h60 : s.size ≤ 60
      · go_wp2_with fail
        go_ret
        exact ⟨retB (by rw [pl_end s HN.out, Bool.and_true]; exact decide_eq_decide.2 (by omega)), hb⟩
      · go_wp2_with fail
        go_ret
        exact ⟨retB (by rw [decide_eq_false h60, Bool.false_and]; exact decide_eq_false (by omega)), hb⟩
end
section
set_option linter.unusedVariables false
set_option linter.unusedSimpArgs false
open Go.RowKit

/-- What is wrong with a procedure's size. -/
def sizeW (args : Int) (n : Nat) : Int := if n < 1 ∨ 6000 < n then 5 else if args < 0 ∨ 2000 < args then 3 else 0
set_option maxHeartbeats 800000 in
theorem wrongSize_any (b o : Nat) (args : Int) (ca : Option Addr) (n cc : Nat) (w : World) (h0 : w.cell? ⟨b, o, none⟩ = some (.int .i64 args)) (h1 : w.cell? ⟨b, o + 1, none⟩ = some (.slice ca n cc)) :
    Calls Tryd.prog 50 #[.pointer (some ⟨b, o, none⟩)] w fun r w' => r = .returned (.int .i64 (sizeW args n)) ∧ w' = w := by
  have B := hidd (below_any args 2001 w)
  by_cases c1 : n < 1
  · have : n = 0 := by omega
    subst this
    clear c1
    rw [show sizeW args 0 = 5 from rfl]
    go_enter Tryd.func50, Tryd.ntmps50
    go_wp2_with fail
    go_ret
    exact ⟨rfl, rfl⟩
  by_cases c2 : 6000 < n
  · rw [show sizeW args n = 5 by unfold sizeW; rw [if_pos (Or.inr c2)]]
    go_enter Tryd.func50, Tryd.ntmps50
    go_wp2_with fail
    go_ret
    exact ⟨rfl, rfl⟩
  have e : sizeW args n = if 0 ≤ args ∧ args < 2001 then 0 else 3 := by
    unfold sizeW
    rw [if_neg (by omega)]
    by_cases c : args < 0 ∨ 2000 < args
    · rw [if_pos c, if_neg (by omega)]
    · rw [if_neg c, if_pos (by omega)]
  rw [e]
  generalize (if 0 ≤ args ∧ args < 2001 then (0 : Int) else 3) = y at B ⊢
  clear e
  go_enter Tryd.func50, Tryd.ntmps50
  go_wp2_with fail
  refine B.out.mono ?_
  rintro e w1 ⟨rfl, rfl⟩
  go_wp2_with fail
  go_ret
  exact ⟨rfl, rfl⟩

set_option maxHeartbeats 800000 in
theorem wrongName_any (x : In) (b o : Nat) (w : World) (h3 : w.cell? ⟨b, o + 3, none⟩ = some (.string x.lib)) (h4 : w.cell? ⟨b, o + 4, none⟩ = some (.string x.own)) (hl : x.lib.size ≤ maxLen) (ho : x.own.size ≤ maxLen) :
    Calls Tryd.prog 42 #[.pointer (some ⟨b, o, none⟩)] w fun r w' => r = .returned (.int .i64 (nameW x)) ∧ w' = w := by
  have P := hidd (plain_any x.lib hl w)
  have N := hidd (Named_any x.own ho w)
  have O := hidd (fun b => otherwise_any b 7 w)
  unfold nameW
  generalize plainB x.lib = p at P ⊢
  generalize namedB x.own = q at N ⊢
  clear hl ho
  cases p
  · go_enter Tryd.func42, Tryd.ntmps42
    go_wp2_with fail
    refine P.out.mono ?_
    rintro e w1 ⟨rfl, rfl⟩
    go_wp2_with fail
    refine (O.out false).mono ?_
    rintro e w2 ⟨rfl, rfl⟩
    go_wp2_with fail
    go_ret
    exact ⟨rfl, rfl⟩
  · cases q <;>
    · go_enter Tryd.func42, Tryd.ntmps42
      go_wp2_with fail
      refine P.out.mono ?_
      rintro e w1 ⟨rfl, rfl⟩
      go_wp2_with fail
      refine N.out.mono ?_
      rintro e w2 ⟨rfl, rfl⟩
      go_wp2_with fail
      refine (O.out _).mono ?_
      rintro e w3 ⟨rfl, rfl⟩
      go_wp2_with fail
      go_ret
      exact ⟨rfl, rfl⟩
end
end Go.Proofs.YtdnbingddbakaaaDoor
