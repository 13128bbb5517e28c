/- Data in memory, with room. -/
import Derived.Test.YtonafbennobgdaaGreatDoorK06
import Derived.RangeFuncRecord
import Derived.Deep.RegionHeld3
import Derived.Deep.AppendLies
import Derived.Deep.CutRange
import Derived.Deep.RegionLaw
import Derived.Deep.RegionHeldLaw
import Derived.Deep.Upon
import Derived.OrdersHeld
namespace Go.Proofs.YtonafbennobgdaaGreatDoor
set_option linter.unusedVariables false
set_option linter.unusedSimpArgs false
open Go.RowKit
def Dc (ok : Nat → Prop) (w : World) : Nat → Option Addr → List Dat → Prop
 | 0, _, ds => ds = []
 | f + 1, a, ds => ds.length ≤ 9223372036854775807 ∧ (ds = [] ∨ ∃ b o, a = some ⟨b, o, none⟩ ∧ ok b ∧ ∀ (i : Nat) (d : Dat), ds[i]? = some d → ∃ a' cap,
  w.cell? ⟨b, o + i * 6, none⟩ = some (.int .i64 d.kind) ∧ w.cell? ⟨b, o + i * 6 + 1, none⟩ = some (.int .i64 d.n) ∧ w.cell? ⟨b, o + i * 6 + 2, none⟩ = some (.string d.name) ∧
  w.cell? ⟨b, o + i * 6 + 3, none⟩ = some (.int .i64 d.stamp) ∧ w.cell? ⟨b, o + i * 6 + 4, none⟩ = some (.int .i64 d.lib) ∧ w.cell? ⟨b, o + i * 6 + 5, none⟩ = some (.slice a' d.kids.length cap) ∧
  d.name.size ≤ maxLen ∧ d.kids.length ≤ cap ∧ Dc ok w f a' d.kids)
theorem Dc.stay {ok ok' : Nat → Prop} {w w' : World} (hw : ∀ k, ok k → w'.heap[k]? = w.heap[k]?) (ho : ∀ k, ok k → ok' k) : ∀ (f : Nat) (a : Option Addr) (ds : List Dat), Dc ok w f a ds → Dc ok' w' f a ds
 | 0, _, _, h => h
 | f + 1, a, ds, h => by
  obtain ⟨hl, h⟩ := h
  refine ⟨hl, ?_⟩
  rcases h with h | ⟨b, o, ha, hb, h⟩
  ·exact Or.inl h
  refine Or.inr ⟨b, o, ha, ho b hb, fun i d hd => ?_⟩
  obtain ⟨a', cap, c0, c1, c2, c3, c4, c5, hn, hc, hk⟩ := h i d hd
  have e : ∀ q, w'.cell? ⟨b, q, none⟩ = w.cell? ⟨b, q, none⟩ := fun q => World.cell?_of_block (hw b hb)
  exact ⟨a', cap, (e _).trans c0, (e _).trans c1, (e _).trans c2, (e _).trans c3, (e _).trans c4, (e _).trans c5, hn, hc, Dc.stay hw ho f a' _ hk⟩
theorem Dc.nil (ok : Nat → Prop) (w : World) (f : Nat) (a : Option Addr) : Dc ok w f a [] := by
 cases f with
 | zero => rfl
 | succ f => exact ⟨Nat.zero_le _, Or.inl rfl⟩
theorem Dc.more {ok : Nat → Prop} {w : World} : ∀ (f : Nat) (a : Option Addr) (ds : List Dat), Dc ok w f a ds → Dc ok w (f + 1) a ds
 | 0, a, ds, h => by
  rw [show ds = [] from h]
  exact Dc.nil _ _ _ _
 | f + 1, a, ds, h => by
  obtain ⟨hl, h⟩ := h
  refine ⟨hl, ?_⟩
  rcases h with h | ⟨b, o, ha, hb, h⟩
  ·exact Or.inl h
  refine Or.inr ⟨b, o, ha, hb, fun i d hd => ?_⟩
  obtain ⟨a', cap, c0, c1, c2, c3, c4, c5, hn, hc, hk⟩ := h i d hd
  exact ⟨a', cap, c0, c1, c2, c3, c4, c5, hn, hc, Dc.more f a' _ hk⟩
theorem Dc.upto {ok : Nat → Prop} {w : World} {f : Nat} {a : Option Addr} {ds : List Dat} (h : Dc ok w f a ds) : ∀ (k : Nat), Dc ok w (f + k) a ds
 | 0 => h
 | k + 1 => Dc.more _ _ _ (h.upto k)
theorem Dc.lies {ok : Nat → Prop} {B : Nat} {w : World} (ho : ∀ k, ok k → k < B) : ∀ (f : Nat) (a : Option Addr) (ds : List Dat), Dc ok w f a ds → Lies B w f a ds
 | 0, _, _, h => h
 | f + 1, a, ds, h => by
  obtain ⟨hl, h⟩ := h
  refine ⟨hl, ?_⟩
  rcases h with h | ⟨b, o, ha, hb, h⟩
  ·exact Or.inl h
  refine Or.inr ⟨b, o, ha, ho b hb, fun i d hd => ?_⟩
  obtain ⟨a', cap, c0, c1, c2, c3, c4, c5, hn, hc, hk⟩ := h i d hd
  exact ⟨a', cap, c0, c1, c2, c3, c4, c5, hn, Dc.lies ho f a' _ hk⟩
theorem hidd {p : Prop} (h : p) : Hid p := h
theorem ba_eq {a b : ByteArray} (h : a.data.toList = b.data.toList) : a = b := by
 cases a; cases b; simpa using h
theorem beqS_true {a b : ByteArray} (h : (a.toList == b.toList) = true) : a = b := by
 rw [ByteArray.toList_eq, ByteArray.toList_eq] at h
 exact ba_eq (by simpa using h)
theorem beqS_ne {a b : ByteArray} (h : ¬ a = b) : (a.toList == b.toList) = false := by
 cases e : (a.toList == b.toList) with
 | false => rfl
 | true => exact absurd (beqS_true e) h
end Go.Proofs.YtonafbennobgdaaGreatDoor
