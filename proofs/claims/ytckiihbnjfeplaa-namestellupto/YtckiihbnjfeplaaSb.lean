/- What is brought, in memory; the document's SameBinds tells that it is the same. -/
import Derived.Test.YtckiihbnjfeplaaSa
import Derived.WalkSmall
import Derived.Deep.QuietTactic
import Derived.BigQuiet
import Derived.Laws.StructEq
namespace Go.Proofs.Ytckiihbnjfeplaa
set_option linter.unusedVariables false
set_option linter.unusedSimpArgs false
open Go.RowKit

/-- Binds ps lie behind a, in a block below B. -/
def Bns (B : Nat) (w : World) (a : Option Addr) (ps : List (ByteArray × ByteArray × ByteArray)) : Prop :=
  ps.length ≤ 9223372036854775807 ∧ (ps = [] ∨ ∃ b o, a = some ⟨b, o, none⟩ ∧ b < B ∧ ∀ (i : Nat) (p : ByteArray × ByteArray × ByteArray), ps[i]? = some p →
    w.cell? ⟨b, o + i * 3, none⟩ = some (.string p.1) ∧ w.cell? ⟨b, o + i * 3 + 1, none⟩ = some (.string p.2.1) ∧ w.cell? ⟨b, o + i * 3 + 2, none⟩ = some (.string p.2.2))

theorem Bns.stay {B : Nat} {w w' : World} {a : Option Addr} {ps : List (ByteArray × ByteArray × ByteArray)} (h : Bns B w a ps) (hw : ∀ k, k < B → w'.heap[k]? = w.heap[k]?) : Bns B w' a ps := by
  obtain ⟨hl, h⟩ := h
  refine ⟨hl, ?_⟩
  rcases h with h | ⟨b, o, ha, hb, h⟩
  · exact Or.inl h
  · refine Or.inr ⟨b, o, ha, hb, fun i p hp => ?_⟩
    obtain ⟨c0, c1, c2⟩ := h i p hp
    have e : ∀ q, w'.cell? ⟨b, q, none⟩ = w.cell? ⟨b, q, none⟩ := fun q => World.cell?_of_block (hw b hb)
    exact ⟨(e _).trans c0, (e _).trans c1, (e _).trans c2⟩

set_option maxRecDepth 100000 in
set_option maxHeartbeats 1600000 in
theorem SameB_none (a b : Option Addr) (cap cb : Nat) (w : World) : Calls Try.prog 11 #[.slice a 0 cap, .slice b 0 cb] w fun e w' => e = .returned (.bool true) ∧ Below w.heap.size w w' := by
  go_enter Try.func11, Try.ntmps11
  go_wp2_with fail
  go_loopw [13] (fun i wr => i = .int .i64 0 ∧ wr = w) (fun i _ => 0)
  case atStart => exact ⟨rfl, rfl⟩
  case round =>
    obtain ⟨rfl, rfl⟩ := hrel
    go_wp2_with fail
    go_ret
    exact ⟨rfl, Below.refl _ _⟩

set_option maxRecDepth 100000 in
set_option maxHeartbeats 1600000 in
theorem SameB_yes (B : Nat) (ps : List (ByteArray × ByteArray × ByteArray)) (a b : Option Addr) (cap cb : Nat) (w : World) (ha : Bns B w a ps) (hb : Bns B w b ps) :
    Calls Try.prog 11 #[.slice a ps.length cap, .slice b ps.length cb] w fun e w' => e = .returned (.bool true) ∧ Below w.heap.size w w' := by
  by_cases h0 : ps = []
  · subst h0
    exact SameB_none a b cap cb w
  · rcases ha with ⟨hlen, h | ⟨b1, o1, rfl, hb1, hA⟩⟩
    · exact absurd h h0
    · rcases hb with ⟨_, h | ⟨b2, o2, rfl, hb2, hB⟩⟩
      · exact absurd h h0
      · have HA : Hid _ := hA
        have HB : Hid _ := hB
        clear hA hB
        go_enter Try.func11, Try.ntmps11
        go_wp2_with fail
        go_loopw [13] (fun i wr => ∃ j m : Nat, j ≤ ps.length ∧ i = .int .i64 j ∧ wr = w.drewN m) (fun i _ => ps.length - (intOf i).toNat)
        case atStart => exact ⟨0, 0, Nat.zero_le _, rfl, rfl⟩
        case round =>
          obtain ⟨j, m, hj, rfl, rfl⟩ := hrel
          by_cases hlt : j < ps.length
          · obtain ⟨p, hp⟩ : ∃ p, ps[j]? = some p := ⟨ps[j], List.getElem?_eq_getElem hlt⟩
            obtain ⟨k0, k1, k2⟩ := HA.out j p hp
            obtain ⟨l0, l1, l2⟩ := HB.out j p hp
            obtain ⟨p1, p2, p3⟩ := p
            simp only at k0 k1 k2 l0 l1 l2
            clear hp
            go_wp2_with fail
            go_quiet (fail)
            go_wp2_with fail
            go_roundw
            case rel => exact ⟨j + 1, _, by omega, by go_num, rfl⟩
            case measure => simp [intOf]; omega
          · obtain rfl : j = ps.length := by omega
            go_wp2_with fail
            go_ret
            exact ⟨rfl, below_drewN (Below.refl _ _) _⟩
end Go.Proofs.Ytckiihbnjfeplaa
