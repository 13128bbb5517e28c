/- Chapter 9, plainly: numbers as bytes. -/
import Derived.Test.YtfmanhkeclogfaaGreatDoorK13
import Derived.WalkKit
import Derived.Laws.BitsAllLaws
import Derived.Laws.Bits64
namespace Go.Proofs.YtfmanhkeclogfaaGreatDoor
set_option linter.unusedVariables false
set_option linter.unusedSimpArgs false
open Go.RowKit

/-- A number, its sign as the lowest bit. -/
def zz (n : Int) : Nat := if 0 ≤ n then (2 * n).toNat else (-2 * n - 1).toNat
/-- A number's bytes: seven bits each, the lowest first; more tells the highest bit. -/
def vb (u : Nat) : List UInt8 := if h : u < 128 then [UInt8.ofNat u] else UInt8.ofNat (u % 128 + 128) :: vb (u / 128)
termination_by u
decreasing_by omega
theorem vb_small {u : Nat} (h : u < 128) : vb u = [UInt8.ofNat u] := by rw [vb, dif_pos h]
theorem vb_big {u : Nat} (h : ¬ u < 128) : vb u = UInt8.ofNat (u % 128 + 128) :: vb (u / 128) := by rw [vb, dif_neg h]
def numB (n : Int) : List UInt8 := vb (zz n)
theorem zz_le {n : Int} (h1 : -1000000000000000 ≤ n) (h2 : n ≤ 1000000000000000) : zz n ≤ 2000000000000000 := by unfold zz; split <;> omega
theorem xor_ones (a : Nat) (h : a < 18446744073709551616) : a ^^^ 18446744073709551615 = 18446744073709551615 - a := by
  have e : (BitVec.ofNat 64 a ^^^ BitVec.allOnes 64).toNat = a ^^^ 18446744073709551615 := by
    rw [BitVec.toNat_xor, BitVec.toNat_ofNat, BitVec.toNat_allOnes, Nat.mod_eq_of_lt (by simpa using h)]
  rw [← e, BitVec.xor_allOnes, BitVec.toNat_not, BitVec.toNat_ofNat, Nat.mod_eq_of_lt (by simpa using h)]
theorem zz_eq {n : Int} (h1 : -1000000000000000 ≤ n) (h2 : n ≤ 1000000000000000) : bits .xor .u64 (IntKind.u64.wrap (wrap64 (n * 2))) (IntKind.u64.wrap (n / 9223372036854775808)) = (zz n : Nat) := by
  have hw : wrap64 (n * 2) = n * 2 := by
    unfold wrap64
    omega
  rw [hw, IntKind.wrap_u64, IntKind.wrap_u64]
  by_cases h0 : 0 ≤ n
  · rw [show n * 2 % 18446744073709551616 = ((2 * n).toNat : Int) by omega, show n / 9223372036854775808 % 18446744073709551616 = ((0 : Nat) : Int) by omega, bits_xor_u64_nat _ _ (by omega) (by omega), Nat.xor_zero]
    unfold zz
    rw [if_pos h0]
  · rw [show n * 2 % 18446744073709551616 = ((2 * n + 18446744073709551616).toNat : Int) by omega, show n / 9223372036854775808 % 18446744073709551616 = ((18446744073709551615 : Nat) : Int) by omega, bits_xor_u64_nat _ _ (by omega) (by omega), xor_ones _ (by omega)]
    unfold zz
    rw [if_neg h0]
    omega
set_option maxRecDepth 100000 in
theorem or128 : ∀ a : Fin 256, a.val ||| 128 = a.val % 128 + 128 := by decide
theorem or_more (u : Nat) : bits .or .u8 ((u % 256 : Nat) : Int) 128 = ((u % 128 + 128 : Nat) : Int) := by
  have h := u8_or_nat (u % 256) 128 (by omega) (by omega)
  have e := or128 ⟨u % 256, by omega⟩
  simp only at e
  rw [e] at h
  rw [show ((128 : Nat) : Int) = 128 from rfl] at h
  rw [h, show u % 256 % 128 = u % 128 by omega]
def textB (s : ByteArray) : List UInt8 := numB s.size ++ s.data.toList
/-- Which fields of an instruction stand behind its kind. -/
def layW (op : Int) : Int := if op = 14 ∨ op = 15 then 1 else if op = 1 ∨ op = 2 then 2 else if op = 3 then 3 else if op = 5 ∨ op = 12 ∨ op = 13 then 4 else if op = 6 then 5 else if op = 4 ∨ op = 11 ∨ op = 7 ∨ op = 8 ∨ op = 9 ∨ op = 10 then 6 else 0
end Go.Proofs.YtfmanhkeclogfaaGreatDoor
