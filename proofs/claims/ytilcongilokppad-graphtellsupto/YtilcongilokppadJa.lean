/- What was met, and a row behind a box: 'enter'. -/
import Derived.Test.YtilcongilokppadIa
namespace Go.Proofs.Ytilcongilokppad
set_option linter.unusedVariables false
set_option linter.unusedSimpArgs false
open Go.RowKit

/-- Nothing but S, and what is new, was touched. -/
structure Tc (S : Nat → Prop) (w w' : World) : Prop where
  os : w'.os = w.os
  tape : w'.tape = w.tape
  output : w'.output = w.output
  size : w.heap.size ≤ w'.heap.size
  block : ∀ k, k < w.heap.size → ¬ S k → w'.heap[k]? = w.heap[k]?

theorem Tc.refl (S : Nat → Prop) (w : World) : Tc S w w := ⟨rfl, rfl, rfl, Nat.le_refl _, fun _ _ _ => rfl⟩
theorem Tc.of_below {S : Nat → Prop} {w w' : World} (h : Below w.heap.size w w') : Tc S w w' := ⟨h.os, h.tape, h.output, h.size, fun k hk _ => h.block k hk⟩
theorem Tc.trans {S T : Nat → Prop} {a b c : World} (h : Tc S a b) (hT : ∀ k, k < a.heap.size → T k → S k) (h' : Tc T b c) : Tc S a c :=
  ⟨h'.os.trans h.os, h'.tape.trans h.tape, h'.output.trans h.output, Nat.le_trans h.size h'.size, fun k hk hS => (h'.block k (Nat.lt_of_lt_of_le hk h.size) fun t => hS (hT k hk t)).trans (h.block k hk hS)⟩
theorem Tc.below {S : Nat → Prop} {w w' : World} {B : Nat} (h : Tc S w w') (hB : B ≤ w.heap.size) (hS : ∀ k, k < B → ¬ S k) : Below B w w' :=
  ⟨h.os, h.tape, h.output, h.size, fun k hk => h.block k (Nat.lt_of_lt_of_le hk hB) (hS k hk)⟩

theorem Tc.more {S T : Nat → Prop} {w w' : World} (h : Tc S w w') : Tc (fun k => S k ∨ T k) w w' := ⟨h.os, h.tape, h.output, h.size, fun k hk hS => h.block k hk fun q => hS (Or.inl q)⟩
theorem Tc.set {S : Nat → Prop} {w w' : World} (h : Tc S w w') {b i : Nat} (u : Value) : Tc (fun k => S k ∨ k = b) w (w'.setCell ⟨b, i, none⟩ u) :=
  ⟨h.os, h.tape, h.output, by simpa using h.size, fun k hk hS => (Below.heap_setCell _ _ _ _ fun e => hS (Or.inr e)).trans (h.block k hk fun q => hS (Or.inl q))⟩

/-- What was met lies behind the box mb, in block mr; a row of numbers behind the box pb. -/
structure ES (B mb mr pb n : Nat) (ms : List Bool) (v : Value) (xs : List Nat) (w : World) : Prop where
  mbox : w.heap[mb]? = some (.cells #[.slice (some ⟨mr, 0, none⟩) n n] 79 (0, 0))
  mrow : w.heap[mr]? = some (.cells (ms.map Value.bool).toArray 4 (0, 0))
  mlen : ms.length = n
  pbox : w.heap[pb]? = some (.cells #[v] 43 (0, 0))
  row : RowI B v xs w
  lt : mb < B ∧ mr < B ∧ pb < B

/-- What enter touches. -/
def ET (mr pb : Nat) (v : Value) (k : Nat) : Prop := k = mr ∨ k = pb ∨ v.ownBlock = some k

section
variable {B mb mr pb n : Nat} {ms : List Bool} {v : Value} {xs : List Nat} {w w' : World}

theorem ES.ne (H : ES B mb mr pb n ms v xs w) : mb ≠ mr ∧ mb ≠ pb ∧ mr ≠ pb := by
  refine ⟨fun e => ?_, fun e => ?_, fun e => ?_⟩
  · have := H.mbox
    rw [e, H.mrow] at this
    simp at this
  · have := H.mbox
    rw [e, H.pbox] at this
    simp at this
  · have := H.mrow
    rw [e, H.pbox] at this
    simp at this
theorem ES.kept (H : ES B mb mr pb n ms v xs w) (h : ∀ k, k < w.heap.size → (k = mb ∨ ET mr pb v k) → w'.heap[k]? = w.heap[k]?) : ES B mb mr pb n ms v xs w' := by
  refine ⟨(h mb (Array.getElem?_eq_some_iff.1 H.mbox).1 (Or.inl rfl)).trans H.mbox, (h mr (Array.getElem?_eq_some_iff.1 H.mrow).1 (Or.inr (Or.inl rfl))).trans H.mrow, H.mlen, (h pb (Array.getElem?_eq_some_iff.1 H.pbox).1 (Or.inr (Or.inr (Or.inl rfl)))).trans H.pbox, H.row.kept fun k hk => h k (H.row.lt hk).2 (Or.inr (Or.inr (Or.inr hk))), H.lt⟩
theorem ES.below (H : ES B mb mr pb n ms v xs w) (hb : Below w.heap.size w w') : ES B mb mr pb n ms v xs w' := H.kept fun k hk _ => hb.block k hk
theorem ES.boxcell (H : ES B mb mr pb n ms v xs w) : w.cell? ⟨mb, 0, none⟩ = some (.slice (some ⟨mr, 0, none⟩) n n) := by simp [World.cell?, H.mbox]
theorem ES.metcell (H : ES B mb mr pb n ms v xs w) {i : Nat} (hi : i < n) : w.cell? ⟨mr, i, none⟩ = some (.bool (ms.getD i false)) := by
  have := H.mlen
  simp [World.cell?, H.mrow, List.getD, show i < ms.length by omega]
theorem ES.metfrozen (H : ES B mb mr pb n ms v xs w) (i : Nat) : w.frozen? ⟨mr, i, none⟩ = false := by simp [World.frozen?, H.mrow]
theorem ES.pcell (H : ES B mb mr pb n ms v xs w) : w.cell? ⟨pb, 0, none⟩ = some v := by simp [World.cell?, H.pbox]
theorem ES.pfrozen (H : ES B mb mr pb n ms v xs w) : w.frozen? ⟨pb, 0, none⟩ = false := by simp [World.frozen?, H.pbox]
theorem ES.mark (H : ES B mb mr pb n ms v xs w) {i : Nat} (hi : i < n) : ES B mb mr pb n (ms.set i true) v xs (w.setCell ⟨mr, i, none⟩ (.bool true)) := by
  obtain ⟨n1, n2, n3⟩ := H.ne
  have hl := H.mlen
  have o : ∀ k, k ≠ mr → (w.setCell ⟨mr, i, none⟩ (.bool true)).heap[k]? = w.heap[k]? := fun k hk => Below.heap_setCell _ _ _ _ hk
  refine ⟨(o mb n1).trans H.mbox, ?_, by simpa using hl, (o pb (Ne.symm n3)).trans H.pbox, H.row.kept fun k hk => o k (by have := (H.row.lt hk).1; have := H.lt; omega), H.lt⟩
  rw [heap_setCell H.mrow (by simp; omega)]
  simp [List.map_set]
/-- A new row behind the box. -/
theorem ES.put (H : ES B mb mr pb n ms v xs w) {v' : Value} {xs' : List Nat} (hg : w.grownBy w' v.ownBlock) (hr : RowI B v' xs' w') : ES B mb mr pb n ms v' xs' (w'.setCell ⟨pb, 0, none⟩ v') := by
  obtain ⟨n1, n2, n3⟩ := H.ne
  have hlt := H.lt
  have g : ∀ k, k < B → k < w.heap.size → w'.heap[k]? = w.heap[k]? := fun k hk hk' => hg.block k hk' fun e => by have := (H.row.lt e.symm).1; omega
  have o : ∀ k, k ≠ pb → (w'.setCell ⟨pb, 0, none⟩ v').heap[k]? = w'.heap[k]? := fun k hk => Below.heap_setCell _ _ _ _ hk
  have l1 := (Array.getElem?_eq_some_iff.1 H.mbox).1
  have l2 := (Array.getElem?_eq_some_iff.1 H.mrow).1
  have l3 := (Array.getElem?_eq_some_iff.1 H.pbox).1
  refine ⟨(o mb n2).trans ((g mb hlt.1 l1).trans H.mbox), (o mr n3).trans ((g mr hlt.2.1 l2).trans H.mrow), H.mlen, heap_setCell ((g pb hlt.2.2 l3).trans H.pbox) (by simp) _, hr.kept fun k hk => o k (by have := (hr.lt hk).1; omega), hlt⟩
theorem ES.small (H : ES B mb mr pb n ms v xs w) : mb < w.heap.size ∧ mr < w.heap.size ∧ pb < w.heap.size := ⟨(Array.getElem?_eq_some_iff.1 H.mbox).1, (Array.getElem?_eq_some_iff.1 H.mrow).1, (Array.getElem?_eq_some_iff.1 H.pbox).1⟩
end

set_option maxRecDepth 100000 in
set_option maxHeartbeats 1600000 in
theorem enterL_yes (B mb mr pb n i : Nat) (ms : List Bool) (v : Value) (xs : List Nat) (w : World) (H : ES B mb mr pb n ms v xs w) (hi : i < n) (hn : n ≤ 1048576) (hm : ms.getD i false = true) :
    Calls Try.prog 39 #[.int .i64 i, .pointer (some ⟨mb, 0, none⟩), .pointer (some ⟨pb, 0, none⟩)] w fun e w' => e = .returned (.tuple #[]) ∧ w' = w := by
  have c1 := H.boxcell
  have c2 := H.metcell hi
  rw [hm] at c2
  clear H hm
  go_enter Try.func39, Try.ntmps39
  go_wp2_with fail
  go_end0
  exact ⟨rfl, rfl⟩
set_option maxRecDepth 100000 in
set_option maxHeartbeats 1600000 in
theorem enterL_no (B mb mr pb n i : Nat) (ms : List Bool) (v : Value) (xs : List Nat) (w : World) (H : ES B mb mr pb n ms v xs w) (hB : B ≤ w.heap.size) (hi : i < n) (hn : n ≤ 1048576) (hl : xs.length ≤ 1048576) (hm : ms.getD i false = false) :
    Calls Try.prog 39 #[.int .i64 i, .pointer (some ⟨mb, 0, none⟩), .pointer (some ⟨pb, 0, none⟩)] w fun e w' => e = .returned (.tuple #[]) ∧ ∃ v', ES B mb mr pb n (ms.set i true) v' (xs ++ [i]) w' ∧ Tc (ET mr pb v) w w' ∧ Lies w v v' := by
  have HH : Hid (ES B mb mr pb n ms v xs w) := H
  have c1 := H.boxcell
  have c2 := H.metcell hi
  have f2 := H.metfrozen i
  rw [hm] at c2
  have H1 : Hid (ES B mb mr pb n (ms.set i true) v xs (w.setCell ⟨mr, i, none⟩ (.bool true))) := H.mark hi
  have c3 := H1.out.pcell
  have c4 := H1.out.boxcell
  clear H hm
  go_enter Try.func39, Try.ntmps39
  go_wp2_with (at_builtin; refine wpList_pushI i _ rfl _ _ rfl B v xs rfl H1.out.row rfl (by simp) (by simpa using hB) hl ?_)
  intro g cap w4 hr4 hg4 ha4
  have k0 : w4.heap[pb]? = (w.setCell ⟨mr, i, none⟩ (.bool true)).heap[pb]? := hg4.block pb H1.out.small.2.2 fun e => by
    have h1 := (H1.out.row.lt e.symm).1
    have h2 := H1.out.lt.2.2
    omega
  have c5 : w4.cell? ⟨pb, 0, none⟩ = some v := (World.cell?_of_block (a := ⟨pb, 0, none⟩) k0).trans H1.out.pcell
  have f5 : w4.frozen? ⟨pb, 0, none⟩ = false := (World.frozen?_of_block (a := ⟨pb, 0, none⟩) k0).trans H1.out.pfrozen
  have H2 : Hid (ES B mb mr pb n (ms.set i true) (.slice (some ⟨g, 0, none⟩) (xs.length + 1) cap) (xs ++ [i]) (w4.setCell ⟨pb, 0, none⟩ (.slice (some ⟨g, 0, none⟩) (xs.length + 1) cap)) ∧ Tc (ET mr pb v) w (w4.setCell ⟨pb, 0, none⟩ (.slice (some ⟨g, 0, none⟩) (xs.length + 1) cap)) ∧ Lies w v (.slice (some ⟨g, 0, none⟩) (xs.length + 1) cap)) := by
    refine ⟨H1.out.put hg4 hr4, ⟨hg4.os, hg4.tape, hg4.output, ?_, fun k hk hS => ?_⟩, fun g' hg' => ?_⟩
    · have := hg4.size
      simpa using this
    · have e1 : k ≠ pb := fun e => hS (Or.inr (Or.inl e))
      have e2 : k ≠ mr := fun e => hS (Or.inl e)
      have e3 : some k ≠ v.ownBlock := fun e => hS (Or.inr (Or.inr e.symm))
      exact (Below.heap_setCell _ _ _ _ e1).trans ((hg4.block k (by simpa using hk) e3).trans (Below.heap_setCell _ _ _ _ e2))
    · simp [Value.ownBlock] at hg'
      subst hg'
      rcases ha4 with q | q
      · exact Or.inl q
      · exact Or.inr (Nat.le_of_lt (by simpa using q))
  clear k0 hr4 hg4 ha4
  go_wp2_with fail
  go_end0
  exact ⟨rfl, _, H2.out.1, H2.out.2.1, H2.out.2.2⟩
set_option maxRecDepth 100000 in
set_option maxHeartbeats 1600000 in
theorem enterG_yes (B mb mr pb n i : Nat) (ms : List Bool) (v : Value) (xs : List Nat) (w : World) (H : ES B mb mr pb n ms v xs w) (hi : i < n) (hn : n ≤ 1048576) (hm : ms.getD i false = true) :
    Calls Try.prog 37 #[.int .i64 i, .pointer (some ⟨mb, 0, none⟩), .pointer (some ⟨pb, 0, none⟩)] w fun e w' => e = .returned (.tuple #[]) ∧ w' = w := by
  have c1 := H.boxcell
  have c2 := H.metcell hi
  rw [hm] at c2
  clear H hm
  go_enter Try.func37, Try.ntmps37
  go_wp2_with fail
  go_end0
  exact ⟨rfl, rfl⟩
set_option maxRecDepth 100000 in
set_option maxHeartbeats 1600000 in
theorem enterG_no (B mb mr pb n i : Nat) (ms : List Bool) (v : Value) (xs : List Nat) (w : World) (H : ES B mb mr pb n ms v xs w) (hB : B ≤ w.heap.size) (hi : i < n) (hn : n ≤ 1048576) (hl : xs.length ≤ 1048576) (hm : ms.getD i false = false) :
    Calls Try.prog 37 #[.int .i64 i, .pointer (some ⟨mb, 0, none⟩), .pointer (some ⟨pb, 0, none⟩)] w fun e w' => e = .returned (.tuple #[]) ∧ ∃ v', ES B mb mr pb n (ms.set i true) v' (xs ++ [i]) w' ∧ Tc (ET mr pb v) w w' ∧ Lies w v v' := by
  have HH : Hid (ES B mb mr pb n ms v xs w) := H
  have c1 := H.boxcell
  have c2 := H.metcell hi
  have f2 := H.metfrozen i
  rw [hm] at c2
  have H1 : Hid (ES B mb mr pb n (ms.set i true) v xs (w.setCell ⟨mr, i, none⟩ (.bool true))) := H.mark hi
  have c3 := H1.out.pcell
  have c4 := H1.out.boxcell
  clear H hm
  go_enter Try.func37, Try.ntmps37
  go_wp2_with (at_builtin; refine wpList_pushI i _ rfl _ _ rfl B v xs rfl H1.out.row rfl (by simp) (by simpa using hB) hl ?_)
  intro g cap w4 hr4 hg4 ha4
  have k0 : w4.heap[pb]? = (w.setCell ⟨mr, i, none⟩ (.bool true)).heap[pb]? := hg4.block pb H1.out.small.2.2 fun e => by
    have h1 := (H1.out.row.lt e.symm).1
    have h2 := H1.out.lt.2.2
    omega
  have c5 : w4.cell? ⟨pb, 0, none⟩ = some v := (World.cell?_of_block (a := ⟨pb, 0, none⟩) k0).trans H1.out.pcell
  have f5 : w4.frozen? ⟨pb, 0, none⟩ = false := (World.frozen?_of_block (a := ⟨pb, 0, none⟩) k0).trans H1.out.pfrozen
  have H2 : Hid (ES B mb mr pb n (ms.set i true) (.slice (some ⟨g, 0, none⟩) (xs.length + 1) cap) (xs ++ [i]) (w4.setCell ⟨pb, 0, none⟩ (.slice (some ⟨g, 0, none⟩) (xs.length + 1) cap)) ∧ Tc (ET mr pb v) w (w4.setCell ⟨pb, 0, none⟩ (.slice (some ⟨g, 0, none⟩) (xs.length + 1) cap)) ∧ Lies w v (.slice (some ⟨g, 0, none⟩) (xs.length + 1) cap)) := by
    refine ⟨H1.out.put hg4 hr4, ⟨hg4.os, hg4.tape, hg4.output, ?_, fun k hk hS => ?_⟩, fun g' hg' => ?_⟩
    · have := hg4.size
      simpa using this
    · have e1 : k ≠ pb := fun e => hS (Or.inr (Or.inl e))
      have e2 : k ≠ mr := fun e => hS (Or.inl e)
      have e3 : some k ≠ v.ownBlock := fun e => hS (Or.inr (Or.inr e.symm))
      exact (Below.heap_setCell _ _ _ _ e1).trans ((hg4.block k (by simpa using hk) e3).trans (Below.heap_setCell _ _ _ _ e2))
    · simp [Value.ownBlock] at hg'
      subst hg'
      rcases ha4 with q | q
      · exact Or.inl q
      · exact Or.inr (Nat.le_of_lt (by simpa using q))
  clear k0 hr4 hg4 ha4
  go_wp2_with fail
  go_end0
  exact ⟨rfl, _, H2.out.1, H2.out.2.1, H2.out.2.2⟩
end Go.Proofs.Ytilcongilokppad
