/- Data that lie in memory; worlds that are kept but for one block. -/
import Derived.Test.YthooljlikllnpaaDoorDa
namespace Go.Proofs.YthooljlikllnpaaDoor
set_option linter.unusedVariables false
set_option linter.unusedSimpArgs false
open Go.RowKit

/-- All blocks are as they were, but for block c. -/
def Keep (c : Nat) (w w' : World) : Prop := w.grownBy w' (some c)

theorem Keep.refl (c : Nat) (w : World) : Keep c w w := ⟨rfl, rfl, rfl, Nat.le_refl _, fun _ _ _ => rfl⟩
theorem Keep.trans {c : Nat} {a b d : World} (h : Keep c a b) (k : Keep c b d) : Keep c a d :=
  ⟨k.os.trans h.os, k.tape.trans h.tape, k.output.trans h.output, Nat.le_trans h.size k.size, fun i hi hc => (k.block i (Nat.lt_of_lt_of_le hi h.size) hc).trans (h.block i hi hc)⟩
theorem Keep.below {c : Nat} {a b d : World} (h : Keep c a b) (k : Below b.heap.size b d) : Keep c a d :=
  h.trans ⟨k.os, k.tape, k.output, k.size, fun i hi _ => k.block i hi⟩
theorem Keep.alloc {c : Nat} {a b : World} (h : Keep c a b) (o : Obj) : Keep c a (b.alloc o) :=
  h.below ((Below.refl _ _).alloc (Nat.le_refl _) _)
theorem Keep.drew {c : Nat} {a b : World} (h : Keep c a b) : Keep c a b.drew := ⟨h.os, h.tape, h.output, h.size, h.block⟩
theorem Keep.setCell {c : Nat} {a b : World} (h : Keep c a b) (p : Addr) (hp : p.block = c) (v : Value) : Keep c a (b.setCell p v) :=
  h.trans ⟨rfl, rfl, rfl, by simp [World.setCell], fun i hi hc => Below.heap_setCell _ _ _ _ (fun e => hc (by rw [e, hp]))⟩
theorem Keep.setNew {c : Nat} {a b : World} (h : Keep c a b) (p : Addr) (hp : a.heap.size ≤ p.block) (v : Value) : Keep c a (b.setCell p v) :=
  ⟨h.os, h.tape, h.output, by have := h.size; simp [World.setCell]; exact this, fun i hi hc => (Below.heap_setCell _ _ _ _ (by omega)).trans (h.block i hi hc)⟩
theorem Keep.toBelow {c B : Nat} {a b : World} (h : Keep c a b) (hB : B ≤ c) (hs : B ≤ a.heap.size) : Below B a b :=
  ⟨h.os, h.tape, h.output, h.size, fun k hk => h.block k (by omega) (by simp; omega)⟩
theorem Keep.cell {c : Nat} {a b : World} (h : Keep c a b) {p : Addr} (hp : p.block < a.heap.size) (hc : p.block ≠ c) : b.cell? p = a.cell? p :=
  World.cell?_of_block (h.block _ hp (by simpa using hc))
theorem Keep.frozen {c : Nat} {a b : World} (h : Keep c a b) {p : Addr} (hp : p.block < a.heap.size) (hc : p.block ≠ c) : b.frozen? p = a.frozen? p :=
  World.frozen?_of_block (h.block _ hp (by simpa using hc))

/-- Data ds lie behind a, in blocks below B; they are nested at most so deep. -/
def Lies (B : Nat) (w : World) : Nat → Option Addr → List Dat → Prop
  | 0, _, ds => ds = []
  | f + 1, a, ds => ds.length ≤ 9223372036854775807 ∧ (ds = [] ∨ ∃ b o, a = some ⟨b, o, none⟩ ∧ b < B ∧ ∀ (i : Nat) (d : Dat), ds[i]? = some d → ∃ a' cap,
      w.cell? ⟨b, o + i * 6, none⟩ = some (.int .i64 d.kind) ∧ w.cell? ⟨b, o + i * 6 + 1, none⟩ = some (.int .i64 d.n) ∧ w.cell? ⟨b, o + i * 6 + 2, none⟩ = some (.string d.name) ∧
      w.cell? ⟨b, o + i * 6 + 3, none⟩ = some (.int .i64 d.stamp) ∧ w.cell? ⟨b, o + i * 6 + 4, none⟩ = some (.int .i64 d.lib) ∧ w.cell? ⟨b, o + i * 6 + 5, none⟩ = some (.slice a' d.kids.length cap) ∧
      d.name.size ≤ maxLen ∧ Lies B w f a' d.kids)

theorem Lies.stay {B : Nat} {w w' : World} (hw : ∀ k, k < B → w'.heap[k]? = w.heap[k]?) : ∀ (f : Nat) (a : Option Addr) (ds : List Dat), Lies B w f a ds → Lies B w' f a ds
  | 0, _, _, h => h
  | f + 1, a, ds, h => by
    obtain ⟨hl, h⟩ := h
    refine ⟨hl, ?_⟩
    rcases h with h | ⟨b, o, ha, hb, h⟩
    · exact Or.inl h
    · refine Or.inr ⟨b, o, ha, hb, fun i d hd => ?_⟩
      obtain ⟨a', cap, c0, c1, c2, c3, c4, c5, hn, hk⟩ := h i d hd
      have e : ∀ q, w'.cell? ⟨b, q, none⟩ = w.cell? ⟨b, q, none⟩ := fun q => World.cell?_of_block (hw b hb)
      exact ⟨a', cap, (e _).trans c0, (e _).trans c1, (e _).trans c2, (e _).trans c3, (e _).trans c4, (e _).trans c5, hn, Lies.stay hw f a' _ hk⟩

theorem Lies.below {B : Nat} {w w' : World} {f : Nat} {a : Option Addr} {ds : List Dat} (h : Lies B w f a ds) (hb : Below B w w') : Lies B w' f a ds :=
  Lies.stay (fun k hk => hb.block k hk) f a ds h

theorem Lies.len {B : Nat} {w : World} {f : Nat} {a : Option Addr} {ds : List Dat} (h : Lies B w f a ds) : ds.length ≤ 9223372036854775807 := by
  cases f with
  | zero => rw [show ds = [] from h]; exact Nat.zero_le _
  | succ f => exact h.1

theorem Lies.at {B : Nat} {w : World} {f : Nat} {a : Option Addr} {ds : List Dat} (h : Lies B w f a ds) (h0 : ds ≠ []) : ∃ g b o, f = g + 1 ∧ a = some ⟨b, o, none⟩ ∧ b < B ∧ ∀ (i : Nat) (d : Dat), ds[i]? = some d → ∃ a' cap,
      w.cell? ⟨b, o + i * 6, none⟩ = some (.int .i64 d.kind) ∧ w.cell? ⟨b, o + i * 6 + 1, none⟩ = some (.int .i64 d.n) ∧ w.cell? ⟨b, o + i * 6 + 2, none⟩ = some (.string d.name) ∧
      w.cell? ⟨b, o + i * 6 + 3, none⟩ = some (.int .i64 d.stamp) ∧ w.cell? ⟨b, o + i * 6 + 4, none⟩ = some (.int .i64 d.lib) ∧ w.cell? ⟨b, o + i * 6 + 5, none⟩ = some (.slice a' d.kids.length cap) ∧
      d.name.size ≤ maxLen ∧ Lies B w g a' d.kids := by
  cases f with
  | zero => exact absurd h h0
  | succ f =>
    rcases h.2 with h | ⟨b, o, ha, hb, h⟩
    · exact absurd h h0
    · exact ⟨f, b, o, rfl, ha, hb, h⟩

end Go.Proofs.YthooljlikllnpaaDoor
