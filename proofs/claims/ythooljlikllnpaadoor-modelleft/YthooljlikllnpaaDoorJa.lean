/- Chapter 7: package value: one text more is put out; what is kept of memory while a run puts out. -/
import Derived.Test.YthooljlikllnpaaDoorHz
import Derived.Deep.AppendLies
import Derived.Deep.RegionLaw
namespace Go.Proofs.YthooljlikllnpaaDoor
set_option linter.unusedVariables false
set_option linter.unusedSimpArgs false
open Go.RowKit

/-- All is kept but the runner, and rows of texts from B on. -/
structure KT (B rb : Nat) (w w' : World) : Prop where
  os : w'.os = w.os
  tape : w'.tape = w.tape
  output : w'.output = w.output
  size : w.heap.size ≤ w'.heap.size
  block : ∀ k, k < w.heap.size → k ≠ rb → (∀ cs fz, w.heap[k]? = some (.cells cs 9 fz) → k < B) → w'.heap[k]? = w.heap[k]?
theorem KT.refl (B rb : Nat) (w : World) : KT B rb w w := ⟨rfl, rfl, rfl, Nat.le_refl _, fun _ _ _ _ => rfl⟩
theorem KT.trans {B rb : Nat} {a b c : World} (h : KT B rb a b) (k : KT B rb b c) : KT B rb a c :=
  ⟨k.os.trans h.os, k.tape.trans h.tape, k.output.trans h.output, Nat.le_trans h.size k.size, fun i hi hr hc => by
    have e := h.block i hi hr hc
    exact (k.block i (Nat.lt_of_lt_of_le hi h.size) hr (fun cs fz hx => hc cs fz (e.symm.trans hx))).trans e⟩
theorem KT.ofKeep {B rb : Nat} {w w' : World} (h : Keep rb w w') : KT B rb w w' := ⟨h.os, h.tape, h.output, h.size, fun k hk hr _ => h.block k hk (by simpa using hr)⟩
theorem KT.ofBelow {B rb : Nat} {w w' : World} (h : Below w.heap.size w w') : KT B rb w w' := ⟨h.os, h.tape, h.output, h.size, fun k hk _ _ => h.block k hk⟩
theorem KT.toBelow {B rb : Nat} {w w' : World} (h : KT B rb w w') (hB : B ≤ rb) (hs : B ≤ w.heap.size) : Below B w w' := ⟨h.os, h.tape, h.output, h.size, fun k hk => h.block k (by omega) (by omega) (fun _ _ _ => hk)⟩
theorem KT.at {B rb : Nat} {w w' : World} (h : KT B rb w w') {k : Nat} {cs : Array Value} {t : TypeId} {fz : Nat × Nat} (hk : w.heap[k]? = some (.cells cs t fz)) (ht : t ≠ 9) (hr : k ≠ rb) : w'.heap[k]? = some (.cells cs t fz) := by
  refine (h.block k (Array.getElem?_eq_some_iff.1 hk).1 hr (fun cs' fz' hx => ?_)).trans hk
  rw [hk] at hx
  simp only [Option.some.injEq, Obj.cells.injEq] at hx
  exact absurd hx.2.1 ht
def strV (s : List UInt8) : Value := .string ⟨s.toArray⟩
/-- The runner, with the texts that it put out. -/
def RT (B rb : Nat) (txs : List (List UInt8)) (left calls : Int) (gm : Value) (W : World) : Prop := ∃ tv, RN rb tv left calls gm W ∧ W.ownsRow B 9 1 tv txs.length (txs.map strV)
theorem own_slice {w : World} {base size n : Nat} {e : TypeId} {v : Value} {xs : List Value} (h : w.ownsRow base e size v n xs) : ∃ va vc, v = .slice va n vc ∧ n ≤ vc := by
  rcases h.2 with ⟨rfl, rfl⟩ | ⟨g, cap, cur, rfl, hbg, hg, hnc, hcm, hcs, htake⟩
  · exact ⟨none, 0, rfl, Nat.le_refl _⟩
  · exact ⟨_, cap, rfl, hnc⟩
theorem own_type {w : World} {base size n : Nat} {e : TypeId} {v : Value} {xs : List Value} (h : w.ownsRow base e size v n xs) : ∀ g, v.ownBlock = some g → base ≤ g ∧ g < w.heap.size ∧ ∃ cs, w.heap[g]? = some (.cells cs e (0, 0)) := by
  rcases h.2 with ⟨rfl, rfl⟩ | ⟨g, cap, cur, rfl, hbg, hg, hnc, hcm, hcs, htake⟩
  · intro g hg; cases hg
  · intro k hk
    simp [Value.ownBlock] at hk
    subst hk
    exact ⟨hbg, (Array.getElem?_eq_some_iff.1 hg).1, cur, hg⟩
theorem own_ne {w : World} {B rb : Nat} {v tv gm : Value} {n : Nat} {xs : List Value} {left calls : Int} (h : w.ownsRow B 9 1 v n xs) (hr : RN rb tv left calls gm w) : v.ownBlock ≠ some rb := by
  intro e
  obtain ⟨_, _, cs, hc⟩ := own_type h rb e
  rw [show w.heap[rb]? = _ from hr] at hc
  simp at hc
/-- Behind a change that leaves the runner and its texts' row as they are. -/
theorem RT.stay {B rb : Nat} {txs : List (List UInt8)} {left calls : Int} {gm : Value} {W W' : World} (h : RT B rb txs left calls gm W) (hs : W.heap.size ≤ W'.heap.size) (ho : W'.os = W.os) (ht : W'.tape = W.tape) (hp : W'.output = W.output)
    (hb : ∀ k, k < W.heap.size → k = rb ∨ (∃ cs fz, W.heap[k]? = some (.cells cs 9 fz)) → W'.heap[k]? = W.heap[k]?) : RT B rb txs left calls gm W' := by
  obtain ⟨tv, h1, h2⟩ := h
  refine ⟨tv, (hb rb (Array.getElem?_eq_some_iff.1 h1).1 (Or.inl rfl)).trans h1, ?_⟩
  refine ⟨h2.1, ?_⟩
  rcases h2.2 with ⟨rfl, hn⟩ | ⟨g, cap, cur, hv, hbg, hg, r⟩
  · exact Or.inl ⟨rfl, hn⟩
  · exact Or.inr ⟨g, cap, cur, hv, hbg, (hb g (Array.getElem?_eq_some_iff.1 hg).1 (Or.inr ⟨cur, _, hg⟩)).trans hg, r⟩
theorem RT.below {B rb : Nat} {txs : List (List UInt8)} {left calls : Int} {gm : Value} {W W' : World} (h : RT B rb txs left calls gm W) (hb : Below W.heap.size W W') : RT B rb txs left calls gm W' := h.stay hb.size hb.os hb.tape hb.output (fun k hk _ => hb.block k hk)
/-- A cell of a block of another type is set. -/
theorem RT.set {B rb N q : Nat} {txs : List (List UInt8)} {left calls : Int} {gm v : Value} {W : World} {cs : Array Value} {t : TypeId} (h : RT B rb txs left calls gm W) (hN : W.heap[N]? = some (.cells cs t (0, 0))) (ht : t ≠ 9) (hr : N ≠ rb) : RT B rb txs left calls gm (W.setCell ⟨N, q, none⟩ v) := by
  refine h.stay (by simp) rfl rfl rfl (fun k hk hc => Below.heap_setCell _ _ _ _ ?_)
  rintro rfl
  rcases hc with hc | ⟨cs', fz, hc⟩
  · exact hr hc
  · rw [hN] at hc
    simp only [Option.some.injEq, Obj.cells.injEq] at hc
    exact ht hc.2.1
theorem RT.step {B rb : Nat} {txs : List (List UInt8)} {left calls : Int} {gm : Value} {W : World} (h : RT B rb txs left calls gm W) : RT B rb txs (left - 1) calls gm (W.setCell ⟨rb, 1, none⟩ (.int .i64 (left - 1))) := by
  obtain ⟨tv, h1, h2⟩ := h
  refine ⟨tv, h1.step, ?_⟩
  have hne := own_ne h2 h1
  refine h2.kept (row := some rb) ⟨rfl, rfl, rfl, by simp [World.setCell], fun k _ hk => Below.heap_setCell _ _ _ _ (fun e => hk (by simp [e]))⟩ (Or.inr hne)
end Go.Proofs.YthooljlikllnpaaDoor
