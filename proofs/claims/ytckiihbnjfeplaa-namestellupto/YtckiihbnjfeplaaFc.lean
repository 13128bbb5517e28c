/- The document's own answer: Lib. -/
import Derived.Test.YtckiihbnjfeplaaFb
namespace Go.Proofs.Ytckiihbnjfeplaa
set_option linter.unusedVariables false
set_option linter.unusedSimpArgs false
open Go.RowKit

set_option maxRecDepth 100000 in
set_option maxHeartbeats 1600000 in
theorem refLib_kid (kd : Int) (na : ByteArray) (nn nas : List ByteArray) (pr : ByteArray) (B : Nat) (a0 a1 : Option Addr) (b o c0 c1 c2 n : Nat) (hk : kd ≠ 1) (hn : n + 1 ≤ 9223372036854775807) (w : World) (hB : B ≤ w.heap.size) (hb : b < B) (r : ByteArray)
    (l : Ly) (e0 e1 e2 : Option Addr) (f0 f1 f2 m : Nat) (hc : ∀ (i : Nat) (v : Value), (setV l e0 e1 e2 f0 f1 f2 m)[i]? = some v → w.cell? ⟨b, o + i, none⟩ = some v)
    (hcall : ∀ w', Below w.heap.size w w' → Calls Try.prog 8 #[setA l e0 e1 e2 f0 f1 f2 m] w' fun e w'' => e = .returned (.string r) ∧ Below w'.heap.size w' w'') :
    Calls Try.prog 8 #[.agg #[.int .i64 kd, .string na, .slice a0 nn.length c0, .slice a1 nas.length c1, .string pr, .slice (some ⟨b, o, none⟩) (n + 1) c2]] w fun e w' => e = .returned (.string r) ∧ Below w.heap.size w w' := by
  have HC : Hid (∀ w', Below w.heap.size w w' → Calls Try.prog 8 #[setA l e0 e1 e2 f0 f1 f2 m] w' fun e w'' => e = .returned (.string r) ∧ Below w'.heap.size w' w'') := hcall
  have HBW : Hid (Below w.heap.size w (w.alloc (.cells #[.int .i64 kd, .string na, .slice a0 nn.length c0, .slice a1 nas.length c1, .string pr, .slice (some ⟨b, o, none⟩) (n + 1) c2] 25))) := (Below.refl _ _).alloc (Nat.le_refl _) _
  have e : ∀ q, (w.alloc (.cells #[.int .i64 kd, .string na, .slice a0 nn.length c0, .slice a1 nas.length c1, .string pr, .slice (some ⟨b, o, none⟩) (n + 1) c2] 25)).cell? ⟨b, q, none⟩ = w.cell? ⟨b, q, none⟩ := fun q => HBW.out.cell (p := ⟨b, q, none⟩) (Nat.lt_of_lt_of_le hb hB)
  have k0 := (e _).trans (hc 0 _ rfl)
  have k1 := (e _).trans (hc 1 _ rfl)
  have k2 := (e _).trans (hc 2 _ rfl)
  have k3 := (e _).trans (hc 3 _ rfl)
  have k4 := (e _).trans (hc 4 _ rfl)
  have k5 := (e _).trans (hc 5 _ rfl)
  simp only [Nat.add_zero] at k0
  have g1 : (kd == 1) = false := by simpa using hk
  have g2 : ((n : Int) + 1 == 0) = false := by simp; omega
  clear hc hcall e
  go_enter Try.func8, Try.ntmps8
  go_wp2_with fail
  refine (HC.out _ HBW.out).mono ?_
  rintro e w9 ⟨rfl, hb9⟩
  have HB9 : Hid (Below w.heap.size w w9) := HBW.out.trans (hb9.mono HBW.out.size)
  clear hb9 k0 k1 k2 k3 k4 k5
  go_wp2_with fail
  go_ret
  exact ⟨rfl, HB9.out⟩

theorem refLib_any (B : Nat) : ∀ (s : St) (vs : List Value) (w : World), LiesS B w s vs → B ≤ w.heap.size →
    Calls Try.prog 8 #[aggOf vs] w fun e w' => e = .returned (.string (libS s)) ∧ Below w.heap.size w w'
  | .last l, vs, w, h, hB => by
    obtain ⟨a0, a1, a2, c0, c1, c2, rfl, hL⟩ := h
    exact refLib_end l a0 a1 a2 c0 c1 c2 0 (Or.inr rfl) w
  | .more l n k, vs, w, h, hB => by
    obtain ⟨a0, a1, b, o, c0, c1, c2, ws, rfl, hL, hn, hb, hk, hc⟩ := h
    by_cases h1 : l.kind = 1
    · have e : libS (.more l n k) = l.name := by simp [libS, h1]
      rw [e]
      exact refLib_end l a0 a1 _ c0 c1 c2 (n + 1) (Or.inl h1) w
    · have e : libS (.more l n k) = libS k := by simp [libS, h1]
      rw [e]
      obtain ⟨e0, e1, e2, f0, f1, f2, rfl, _, _⟩ := hk.cells
      refine refLib_kid l.kind l.name l.names l.asn l.pre B a0 a1 b o c0 c1 c2 n h1 hn w hB hb _ k.ly e0 e1 e2 f0 f1 f2 k.nk hc ?_
      intro w' hb'
      exact refLib_any B k _ w' (hk.old hB hb') (Nat.le_trans hB hb'.size)
end Go.Proofs.Ytckiihbnjfeplaa
