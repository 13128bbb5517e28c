/- Names, pairs and sets in memory. -/
import Derived.Test.YtckiihbnjfeplaaPnc
import Derived.WalkSmall
namespace Go.Proofs.Ytckiihbnjfeplaa
set_option linter.unusedVariables false
set_option linter.unusedSimpArgs false
open Go.RowKit

/-- Blocks below B are asn they were. -/
def Old (B : Nat) (w w' : World) : Prop := ∀ k, k < B → w'.heap[k]? = w.heap[k]?

theorem Old.refl (B : Nat) (w : World) : Old B w w := fun _ _ => rfl
theorem Old.trans {B : Nat} {a b c : World} (h : Old B a b) (h' : Old B b c) : Old B a c := fun k hk => (h' k hk).trans (h k hk)
theorem Old.mono {B B' : Nat} {a b : World} (h : Old B a b) (hb : B' ≤ B) : Old B' a b := fun k hk => h k (Nat.lt_of_lt_of_le hk hb)
theorem Old.cell {B : Nat} {w w' : World} (h : Old B w w') {b : Nat} (hb : b < B) (q : Nat) : w'.cell? ⟨b, q, none⟩ = w.cell? ⟨b, q, none⟩ := World.cell?_of_block (h b hb)

/-- Texts l lie behind a, in a block below B. -/
def Strs (B : Nat) (w : World) (a : Option Addr) (l : List ByteArray) : Prop :=
  l.length ≤ 9223372036854775807 ∧ (∀ s ∈ l, s.size ≤ maxLen) ∧ (l = [] ∨ ∃ b o, a = some ⟨b, o, none⟩ ∧ b < B ∧ ∀ (i : Nat) (s : ByteArray), l[i]? = some s → w.cell? ⟨b, o + i, none⟩ = some (.string s))

theorem Strs.nil (B : Nat) (w : World) (a : Option Addr) : Strs B w a [] := ⟨by simp, by simp, Or.inl rfl⟩
theorem Strs.stay {B B' : Nat} {w w' : World} {a : Option Addr} {l : List ByteArray} (h : Strs B w a l) (hw : Old B w w') (hB : B ≤ B') : Strs B' w' a l := by
  obtain ⟨h1, h2, h⟩ := h
  refine ⟨h1, h2, ?_⟩
  rcases h with h | ⟨b, o, ha, hb, h⟩
  · exact Or.inl h
  · exact Or.inr ⟨b, o, ha, Nat.lt_of_lt_of_le hb hB, fun i s hs => (hw.cell hb _).trans (h i s hs)⟩

/-- A set's six cells. -/
def setV (l : Ly) (a0 a1 a2 : Option Addr) (c0 c1 c2 n : Nat) : List Value :=
  [.int .i64 l.kind, .string l.name, .slice a0 l.names.length c0, .slice a1 l.asn.length c1, .string l.pre, .slice a2 n c2]

/-- What a set is by itself lies in memory. -/
structure LiesL (B : Nat) (w : World) (l : Ly) (a0 a1 : Option Addr) : Prop where
  kind : -9223372036854775808 ≤ l.kind ∧ l.kind ≤ 9223372036854775807
  name : l.name.size ≤ maxLen
  pre : l.pre.size ≤ maxLen
  names : Strs B w a0 l.names
  asn : Strs B w a1 l.asn

theorem LiesL.stay {B B' : Nat} {w w' : World} {l : Ly} {a0 a1 : Option Addr} (h : LiesL B w l a0 a1) (hw : Old B w w') (hB : B ≤ B') : LiesL B' w' l a0 a1 :=
  ⟨h.kind, h.name, h.pre, h.names.stay hw hB, h.asn.stay hw hB⟩

/-- A set's cells, and what they lead to. -/
def LiesS (B : Nat) (w : World) : St → List Value → Prop
  | .last l, vs => ∃ a0 a1 a2 c0 c1 c2, vs = setV l a0 a1 a2 c0 c1 c2 0 ∧ LiesL B w l a0 a1
  | .more l n k, vs => ∃ a0 a1 b o c0 c1 c2 ws, vs = setV l a0 a1 (some ⟨b, o, none⟩) c0 c1 c2 (n + 1) ∧ LiesL B w l a0 a1 ∧ n + 1 ≤ 9223372036854775807 ∧ b < B ∧ LiesS B w k ws ∧
    ∀ (i : Nat) (v : Value), ws[i]? = some v → w.cell? ⟨b, o + i, none⟩ = some v

theorem LiesS.stay {B B' : Nat} {w w' : World} (hw : Old B w w') (hB : B ≤ B') : ∀ (s : St) (vs : List Value), LiesS B w s vs → LiesS B' w' s vs
  | .last l, vs, ⟨a0, a1, a2, c0, c1, c2, e, h⟩ => ⟨a0, a1, a2, c0, c1, c2, e, h.stay hw hB⟩
  | .more l n k, vs, ⟨a0, a1, b, o, c0, c1, c2, ws, e, h, hn, hb, hk, hc⟩ =>
    ⟨a0, a1, b, o, c0, c1, c2, ws, e, h.stay hw hB, hn, Nat.lt_of_lt_of_le hb hB, LiesS.stay hw hB k ws hk, fun i v hv => (hw.cell hb _).trans (hc i v hv)⟩

/-- The cells of a set, whatever it is. -/
theorem LiesS.cells {B : Nat} {w : World} {s : St} {vs : List Value} (h : LiesS B w s vs) : ∃ a0 a1 a2 c0 c1 c2, vs = setV s.ly a0 a1 a2 c0 c1 c2 s.nk ∧ LiesL B w s.ly a0 a1 ∧ s.nk ≤ 9223372036854775807 := by
  cases s with
  | last l =>
    obtain ⟨a0, a1, a2, c0, c1, c2, e, h⟩ := h
    exact ⟨a0, a1, a2, c0, c1, c2, e, h, by simp [St.nk]⟩
  | more l n k =>
    obtain ⟨a0, a1, b, o, c0, c1, c2, ws, e, h, hn, _⟩ := h
    exact ⟨a0, a1, _, c0, c1, c2, e, h, hn⟩
end Go.Proofs.Ytckiihbnjfeplaa
