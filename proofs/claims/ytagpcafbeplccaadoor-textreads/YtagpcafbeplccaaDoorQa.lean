/- The document's reader in memory; its small methods. -/
import Derived.Test.YtagpcafbeplccaaDoorMc
namespace Go.Proofs.YtagpcafbeplccaaDoor
set_option linter.unusedVariables false
set_option linter.unusedSimpArgs false
open Go.RowKit

/-- A walk that stands at i, behind n nodes, with fault x. -/
structure Wk (rb : Nat) (s : ByteArray) (i n : Nat) (x : Int × Int) (w : World) : Prop where
  lt : rb < w.heap.size
  c0 : w.cell? ⟨rb, 0, none⟩ = some (.string s)
  c1 : w.cell? ⟨rb, 1, none⟩ = some (.int .i64 (i : Int))
  c2 : w.cell? ⟨rb, 2, none⟩ = some (.int .i64 (n : Int))
  c3 : w.cell? ⟨rb, 3, none⟩ = some (.int .i64 x.1)
  c4 : w.cell? ⟨rb, 4, none⟩ = some (.int .i64 x.2)
  z : ∀ o, w.frozen? ⟨rb, o, none⟩ = false

section
variable {rb : Nat} {s : ByteArray} {i n : Nat} {x : Int × Int} {w w' : World}

theorem Wk.below (h : Wk rb s i n x w) (hb : Below w.heap.size w w') : Wk rb s i n x w' :=
  ⟨Nat.lt_of_lt_of_le h.lt hb.size, (hb.cell (p := ⟨rb, 0, none⟩) h.lt).trans h.c0, (hb.cell (p := ⟨rb, 1, none⟩) h.lt).trans h.c1, (hb.cell (p := ⟨rb, 2, none⟩) h.lt).trans h.c2,
    (hb.cell (p := ⟨rb, 3, none⟩) h.lt).trans h.c3, (hb.cell (p := ⟨rb, 4, none⟩) h.lt).trans h.c4, fun o => (hb.frozen (p := ⟨rb, o, none⟩) h.lt).trans (h.z o)⟩
theorem Wk.alloc (h : Wk rb s i n x w) (o : Obj) : Wk rb s i n x (w.alloc o) := h.below ((Below.refl _ _).alloc (Nat.le_refl _) _)
theorem Wk.drew (h : Wk rb s i n x w) : Wk rb s i n x w.drew := ⟨h.lt, h.c0, h.c1, h.c2, h.c3, h.c4, h.z⟩
theorem Wk.drewN (h : Wk rb s i n x w) (k : Nat) : Wk rb s i n x (w.drewN k) := h.below (below_drewN (Below.refl _ _) k)

theorem Wk.put (h : Wk rb s i n x w) (p : Addr) (hp : p.block ≠ rb) (v : Value) : Wk rb s i n x (w.setCell p v) := by
  have e : ∀ o, (w.setCell p v).cell? ⟨rb, o, none⟩ = w.cell? ⟨rb, o, none⟩ := fun o => World.cell?_of_block (Below.heap_setCell _ _ _ _ (fun e => hp e.symm))
  have f : ∀ o, (w.setCell p v).frozen? ⟨rb, o, none⟩ = w.frozen? ⟨rb, o, none⟩ := fun o => World.frozen?_of_block (Below.heap_setCell _ _ _ _ (fun e => hp e.symm))
  exact ⟨by simp [World.setCell]; exact h.lt, (e _).trans h.c0, (e _).trans h.c1, (e _).trans h.c2, (e _).trans h.c3, (e _).trans h.c4, fun o => (f o).trans (h.z o)⟩

theorem Wk.move (h : Wk rb s i n x w) (j : Nat) (v : Int) (hv : v = (j : Int)) : Wk rb s j n x (w.setCell ⟨rb, 1, none⟩ (.int .i64 v)) := by
  subst hv
  have e : ∀ o, o ≠ 1 → (w.setCell ⟨rb, 1, none⟩ (.int .i64 (j : Int))).cell? ⟨rb, o, none⟩ = w.cell? ⟨rb, o, none⟩ := fun o ho => World.cell?_setCell_other _ _ _ _ (by simp [ho])
  exact ⟨by simp [World.setCell]; exact h.lt, (e 0 (by omega)).trans h.c0, World.cell?_setCell_same _ _ _ h.c1, (e 2 (by omega)).trans h.c2, (e 3 (by omega)).trans h.c3, (e 4 (by omega)).trans h.c4, fun o => by rw [World.frozen?_setCell]; exact h.z o⟩

theorem Wk.tick (h : Wk rb s i n x w) (m : Nat) (v : Int) (hv : v = (m : Int)) : Wk rb s i m x (w.setCell ⟨rb, 2, none⟩ (.int .i64 v)) := by
  subst hv
  have e : ∀ o, o ≠ 2 → (w.setCell ⟨rb, 2, none⟩ (.int .i64 (m : Int))).cell? ⟨rb, o, none⟩ = w.cell? ⟨rb, o, none⟩ := fun o ho => World.cell?_setCell_other _ _ _ _ (by simp [ho])
  exact ⟨by simp [World.setCell]; exact h.lt, (e 0 (by omega)).trans h.c0, (e 1 (by omega)).trans h.c1, World.cell?_setCell_same _ _ _ h.c2, (e 3 (by omega)).trans h.c3, (e 4 (by omega)).trans h.c4, fun o => by rw [World.frozen?_setCell]; exact h.z o⟩

theorem Wk.fell (h : Wk rb s i n x w) (y : Int × Int) : Wk rb s i n y ((w.setCell ⟨rb, 3, none⟩ (.int .i64 y.1)).setCell ⟨rb, 4, none⟩ (.int .i64 y.2)) := by
  have e : ∀ o, o ≠ 3 → (w.setCell ⟨rb, 3, none⟩ (.int .i64 y.1)).cell? ⟨rb, o, none⟩ = w.cell? ⟨rb, o, none⟩ := fun o ho => World.cell?_setCell_other _ _ _ _ (by simp [ho])
  have g : ∀ o, o ≠ 4 → ((w.setCell ⟨rb, 3, none⟩ (.int .i64 y.1)).setCell ⟨rb, 4, none⟩ (.int .i64 y.2)).cell? ⟨rb, o, none⟩ = (w.setCell ⟨rb, 3, none⟩ (.int .i64 y.1)).cell? ⟨rb, o, none⟩ := fun o ho => World.cell?_setCell_other _ _ _ _ (by simp [ho])
  refine ⟨by simp [World.setCell]; exact h.lt, ((g 0 (by omega)).trans (e 0 (by omega))).trans h.c0, ((g 1 (by omega)).trans (e 1 (by omega))).trans h.c1, ((g 2 (by omega)).trans (e 2 (by omega))).trans h.c2, ?_, ?_, fun o => by rw [World.frozen?_setCell, World.frozen?_setCell]; exact h.z o⟩
  · exact (g 3 (by omega)).trans (World.cell?_setCell_same _ _ _ h.c3)
  · exact World.cell?_setCell_same _ _ _ ((e 4 (by omega)).trans h.c4)
end

set_option maxRecDepth 100000 in
set_option maxHeartbeats 800000 in
theorem good_any (rb : Nat) (s : ByteArray) (i n : Nat) (x : Int × Int) (w : World) (h : Wk rb s i n x w) :
    Calls Tryd.prog 22 #[.pointer (some ⟨rb, 0, none⟩)] w fun e w' => e = .returned (.bool (x.1 == 0)) ∧ w' = w := by
  have c3 := h.c3
  clear h
  go_enter Tryd.func22, Tryd.ntmps22
  go_wp2_with fail
  go_ret
  exact ⟨rfl, rfl⟩

set_option maxRecDepth 100000 in
set_option maxHeartbeats 800000 in
theorem stop_any (rb : Nat) (s : ByteArray) (i n : Nat) (y1 y2 : Int) (w : World) (h : Wk rb s i n (0, 0) w) :
    Calls Tryd.prog 40 #[.pointer (some ⟨rb, 0, none⟩), .int .i64 y1, .int .i64 y2] w fun e w' => e = .returned (.tuple #[]) ∧ Keep rb w w' ∧ Wk rb s i n (y1, y2) w' := by
  have c3 := h.c3
  have c4 := h.c4
  have z3 := h.z 3
  have z4 := h.z 4
  have HR : Hid (Wk rb s i n (0, 0) w) := h
  clear h
  simp only at c3 c4
  go_enter Tryd.func40, Tryd.ntmps40
  go_wp2_with fail
  go_end0
  exact ⟨rfl, ((Keep.refl rb w).setCell ⟨rb, 3, none⟩ rfl _).setCell ⟨rb, 4, none⟩ rfl _, HR.out.fell (y1, y2)⟩

set_option maxRecDepth 100000 in
set_option maxHeartbeats 800000 in
theorem Sym_any (nm : ByteArray) (w : World) :
    Calls Tryd.prog 42 #[.string nm] w fun e w' => e = .returned (dv ⟨3, 0, nm, 0, 0, []⟩ none 0) ∧ Below w.heap.size w w' := by
  go_enter Tryd.func42, Tryd.ntmps42
  go_wp2_with fail
  refine bodyPost_ret (v := dv ⟨3, 0, nm, 0, 0, []⟩ none 0) (by simp [results, Tryd.results42, go_sem, dv]) rfl ⟨rfl, ?_⟩
  exact (Below.refl _ _).alloc (Nat.le_refl _) _

set_option maxRecDepth 100000 in
set_option maxHeartbeats 800000 in
theorem Num_any (n : Int) (w : World) :
    Calls Tryd.prog 43 #[.int .i64 n] w fun e w' => e = .returned (dv ⟨1, n, ⟨#[]⟩, 0, 0, []⟩ none 0) ∧ Below w.heap.size w w' := by
  go_enter Tryd.func43, Tryd.ntmps43
  go_wp2_with fail
  refine bodyPost_ret (v := dv ⟨1, n, ⟨#[]⟩, 0, 0, []⟩ none 0) (by simp [results, Tryd.results43, go_sem, dv]) rfl ⟨rfl, ?_⟩
  exact (Below.refl _ _).alloc (Nat.le_refl _) _

set_option maxRecDepth 100000 in
set_option maxHeartbeats 800000 in
theorem List_any (a : Option Addr) (n cap : Nat) (w : World) :
    Calls Tryd.prog 41 #[.slice a n cap] w fun e w' => e = .returned (.agg #[.int .i64 4, .int .i64 0, .string ⟨#[]⟩, .int .i64 0, .int .i64 0, .slice a n cap]) ∧ Below w.heap.size w w' := by
  go_enter Tryd.func41, Tryd.ntmps41
  go_wp2_with fail
  refine bodyPost_ret (v := .agg #[.int .i64 4, .int .i64 0, .string ⟨#[]⟩, .int .i64 0, .int .i64 0, .slice a n cap]) (by simp [results, Tryd.results41, go_sem]) rfl ⟨rfl, ?_⟩
  exact (Below.refl _ _).alloc (Nat.le_refl _) _
end Go.Proofs.YtagpcafbeplccaaDoor
