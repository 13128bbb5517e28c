/- Chapter 3: data copied: any datum. -/
import Derived.Test.YtonafbennobgdaaGreatDoorK15
namespace Go.Proofs.YtonafbennobgdaaGreatDoor
set_option linter.unusedVariables false
set_option linter.unusedSimpArgs false
open Go.RowKit

theorem cop_boxes (d : Dat) (a : Option Addr) (kn cap : Nat) (w : World) (o : Obj) : Below w.heap.size w (((w.alloc (.cells #[.int .i64 d.kind, .int .i64 d.n, .string d.name, .int .i64 d.stamp, .int .i64 d.lib, .slice a kn cap] 26)).alloc (.cells #[.int .i64 0, .int .i64 0, .string ⟨#[]⟩, .int .i64 0, .int .i64 0, .slice none 0 0] 26)).alloc o) ∧ (((w.alloc (.cells #[.int .i64 d.kind, .int .i64 d.n, .string d.name, .int .i64 d.stamp, .int .i64 d.lib, .slice a kn cap] 26)).alloc (.cells #[.int .i64 0, .int .i64 0, .string ⟨#[]⟩, .int .i64 0, .int .i64 0, .slice none 0 0] 26)).alloc o).heap[w.heap.size]? = some (.cells #[.int .i64 d.kind, .int .i64 d.n, .string d.name, .int .i64 d.stamp, .int .i64 d.lib, .slice a kn cap] 26 (0, 0)) ∧ (((w.alloc (.cells #[.int .i64 d.kind, .int .i64 d.n, .string d.name, .int .i64 d.stamp, .int .i64 d.lib, .slice a kn cap] 26)).alloc (.cells #[.int .i64 0, .int .i64 0, .string ⟨#[]⟩, .int .i64 0, .int .i64 0, .slice none 0 0] 26)).alloc o).heap[w.heap.size + 1]? = some (.cells #[.int .i64 0, .int .i64 0, .string ⟨#[]⟩, .int .i64 0, .int .i64 0, .slice none 0 0] 26 (0, 0)) ∧ (((w.alloc (.cells #[.int .i64 d.kind, .int .i64 d.n, .string d.name, .int .i64 d.stamp, .int .i64 d.lib, .slice a kn cap] 26)).alloc (.cells #[.int .i64 0, .int .i64 0, .string ⟨#[]⟩, .int .i64 0, .int .i64 0, .slice none 0 0] 26)).alloc o).heap.size = w.heap.size + 3 ∧ (((w.alloc (.cells #[.int .i64 d.kind, .int .i64 d.n, .string d.name, .int .i64 d.stamp, .int .i64 d.lib, .slice a kn cap] 26)).alloc (.cells #[.int .i64 0, .int .i64 0, .string ⟨#[]⟩, .int .i64 0, .int .i64 0, .slice none 0 0] 26)).alloc o).heap[w.heap.size + 2]? = some o := by
  refine ⟨(((Below.refl _ _).alloc (Nat.le_refl _) _).alloc (by simp) _).alloc (by simp <;> omega) _, ?_, ?_, by simp, ?_⟩
  · rw [Below.heap_alloc _ _ _ (by simp <;> omega), Below.heap_alloc _ _ _ (by simp)]; exact World.alloc_heap_new w _
  · rw [Below.heap_alloc _ _ _ (by simp)]
    have := World.alloc_heap_new (w.alloc (.cells #[.int .i64 d.kind, .int .i64 d.n, .string d.name, .int .i64 d.stamp, .int .i64 d.lib, .slice a kn cap] 26)) (.cells #[.int .i64 0, .int .i64 0, .string ⟨#[]⟩, .int .i64 0, .int .i64 0, .slice none 0 0] 26)
    simpa using this
  · have := World.alloc_heap_new ((w.alloc (.cells #[.int .i64 d.kind, .int .i64 d.n, .string d.name, .int .i64 d.stamp, .int .i64 d.lib, .slice a kn cap] 26)).alloc (.cells #[.int .i64 0, .int .i64 0, .string ⟨#[]⟩, .int .i64 0, .int .i64 0, .slice none 0 0] 26)) o
    simpa using this
set_option maxRecDepth 100000 in
set_option maxHeartbeats 6400000 in
theorem cop_num1 (d : Dat) (a : Option Addr) (kn cap : Nat) (w : World) (hk : d.kind = 1) :
    Calls Tryz.prog 118 #[.agg #[.int .i64 d.kind, .int .i64 d.n, .string d.name, .int .i64 d.stamp, .int .i64 d.lib, .slice a kn cap]] w fun e w' => Below w.heap.size w w' ∧ e = .returned (.agg #[.int .i64 d.kind, .int .i64 d.n, .string ⟨#[]⟩, .int .i64 0, .int .i64 0, .slice none 0 0]) := by
  have c1 : (d.kind == 1) = true := by simpa using hk
  clear hk
  obtain ⟨g1, g2, g3, g4, g5⟩ := cop_boxes d a kn cap w (.cells #[.int .i64 d.kind, .int .i64 d.n, .string ⟨#[]⟩, .int .i64 0, .int .i64 0, .slice none 0 0] 26)
  go_enter Tryz.func118, Tryz.ntmps118
  go_wp2_with fail
  have hbe : Below w.heap.size w (((w.alloc (.cells #[.int .i64 d.kind, .int .i64 d.n, .string d.name, .int .i64 d.stamp, .int .i64 d.lib, .slice a kn cap] 26)).alloc (.cells #[.int .i64 d.kind, .int .i64 d.n, .string ⟨#[]⟩, .int .i64 0, .int .i64 0, .slice none 0 0] 26)).alloc (.cells #[.int .i64 d.kind, .int .i64 d.n, .string ⟨#[]⟩, .int .i64 0, .int .i64 0, .slice none 0 0] 26)) := (((Below.refl _ _).alloc (Nat.le_refl _) _).alloc (by simp) _).alloc (by simp <;> omega) _
  exact bodyPost_ret (v := .agg #[.int .i64 d.kind, .int .i64 d.n, .string ⟨#[]⟩, .int .i64 0, .int .i64 0, .slice none 0 0]) (by simp [results, Tryz.results118, go_sem]) rfl ⟨hbe, rfl⟩
set_option maxRecDepth 100000 in
set_option maxHeartbeats 6400000 in
theorem cop_num2 (d : Dat) (a : Option Addr) (kn cap : Nat) (w : World) (hk : d.kind = 2) :
    Calls Tryz.prog 118 #[.agg #[.int .i64 d.kind, .int .i64 d.n, .string d.name, .int .i64 d.stamp, .int .i64 d.lib, .slice a kn cap]] w fun e w' => Below w.heap.size w w' ∧ e = .returned (.agg #[.int .i64 d.kind, .int .i64 d.n, .string ⟨#[]⟩, .int .i64 0, .int .i64 0, .slice none 0 0]) := by
  have c1 : (d.kind == 1) = false := by rw [hk]; rfl
  have c2 : (d.kind == 2) = true := by simpa using hk
  clear hk
  obtain ⟨g1, g2, g3, g4, g5⟩ := cop_boxes d a kn cap w (.cells #[.int .i64 d.kind, .int .i64 d.n, .string ⟨#[]⟩, .int .i64 0, .int .i64 0, .slice none 0 0] 26)
  go_enter Tryz.func118, Tryz.ntmps118
  go_wp2_with fail
  have hbe : Below w.heap.size w (((w.alloc (.cells #[.int .i64 d.kind, .int .i64 d.n, .string d.name, .int .i64 d.stamp, .int .i64 d.lib, .slice a kn cap] 26)).alloc (.cells #[.int .i64 d.kind, .int .i64 d.n, .string ⟨#[]⟩, .int .i64 0, .int .i64 0, .slice none 0 0] 26)).alloc (.cells #[.int .i64 d.kind, .int .i64 d.n, .string ⟨#[]⟩, .int .i64 0, .int .i64 0, .slice none 0 0] 26)) := (((Below.refl _ _).alloc (Nat.le_refl _) _).alloc (by simp) _).alloc (by simp <;> omega) _
  exact bodyPost_ret (v := .agg #[.int .i64 d.kind, .int .i64 d.n, .string ⟨#[]⟩, .int .i64 0, .int .i64 0, .slice none 0 0]) (by simp [results, Tryz.results118, go_sem]) rfl ⟨hbe, rfl⟩
set_option maxRecDepth 100000 in
set_option maxHeartbeats 6400000 in
theorem cop_else (d : Dat) (a : Option Addr) (kn cap : Nat) (w : World) (h1 : ¬ d.kind = 1) (h2 : ¬ d.kind = 2) (h3 : ¬ d.kind = 3) (h4 : ¬ d.kind = 4) :
    Calls Tryz.prog 118 #[.agg #[.int .i64 d.kind, .int .i64 d.n, .string d.name, .int .i64 d.stamp, .int .i64 d.lib, .slice a kn cap]] w fun e w' => Below w.heap.size w w' ∧ e = .returned (.agg #[.int .i64 d.kind, .int .i64 0, .string ⟨#[]⟩, .int .i64 0, .int .i64 0, .slice none 0 0]) := by
  have c1 : (d.kind == 1) = false := by simpa using h1
  have c2 : (d.kind == 2) = false := by simpa using h2
  have c3 : (d.kind == 3) = false := by simpa using h3
  have c4 : (d.kind == 4) = false := by simpa using h4
  clear h1 h2 h3 h4
  obtain ⟨g1, g2, g3, g4, g5⟩ := cop_boxes d a kn cap w (.cells #[.int .i64 d.kind, .int .i64 0, .string ⟨#[]⟩, .int .i64 0, .int .i64 0, .slice none 0 0] 26)
  go_enter Tryz.func118, Tryz.ntmps118
  go_wp2_with fail
  have hbe : Below w.heap.size w (((w.alloc (.cells #[.int .i64 d.kind, .int .i64 d.n, .string d.name, .int .i64 d.stamp, .int .i64 d.lib, .slice a kn cap] 26)).alloc (.cells #[.int .i64 d.kind, .int .i64 0, .string ⟨#[]⟩, .int .i64 0, .int .i64 0, .slice none 0 0] 26)).alloc (.cells #[.int .i64 d.kind, .int .i64 0, .string ⟨#[]⟩, .int .i64 0, .int .i64 0, .slice none 0 0] 26)) := (((Below.refl _ _).alloc (Nat.le_refl _) _).alloc (by simp) _).alloc (by simp <;> omega) _
  exact bodyPost_ret (v := .agg #[.int .i64 d.kind, .int .i64 0, .string ⟨#[]⟩, .int .i64 0, .int .i64 0, .slice none 0 0]) (by simp [results, Tryz.results118, go_sem]) rfl ⟨hbe, rfl⟩
set_option maxRecDepth 100000 in
set_option maxHeartbeats 6400000 in
theorem cop_sym (d : Dat) (a : Option Addr) (kn cap : Nat) (w : World) (hk : d.kind = 3) (hs : d.name.size ≤ 281474976710656) :
    Calls Tryz.prog 118 #[.agg #[.int .i64 d.kind, .int .i64 d.n, .string d.name, .int .i64 d.stamp, .int .i64 d.lib, .slice a kn cap]] w fun e w' => Below w.heap.size w w' ∧ e = .returned (.agg #[.int .i64 d.kind, .int .i64 0, .string d.name, .int .i64 0, .int .i64 0, .slice none 0 0]) := by
  have c1 : (d.kind == 1) = false := by rw [hk]; rfl
  have c2 : (d.kind == 2) = false := by rw [hk]; rfl
  have c3 : (d.kind == 3) = true := by simpa using hk
  have HC : Hid (∀ W, Below w.heap.size w W → Calls Tryz.prog 89 #[.string d.name] W fun e w' => e = .returned (.string d.name) ∧ Below W.heap.size W w') := fun W _ => cloneT_any d.name W hs
  clear hk hs
  obtain ⟨g1, g2, g3, g4, g5⟩ := cop_boxes d a kn cap w (.cells #[.int .i64 d.kind, .int .i64 0, .string ⟨#[]⟩, .int .i64 0, .int .i64 0, .slice none 0 0] 26)
  go_enter Tryz.func118, Tryz.ntmps118
  go_upto_region 2 with fail
  generalize (((w.alloc (.cells #[.int .i64 d.kind, .int .i64 d.n, .string d.name, .int .i64 d.stamp, .int .i64 d.lib, .slice a kn cap] 26)).alloc (.cells #[.int .i64 0, .int .i64 0, .string ⟨#[]⟩, .int .i64 0, .int .i64 0, .slice none 0 0] 26)).alloc (.cells #[.int .i64 d.kind, .int .i64 0, .string ⟨#[]⟩, .int .i64 0, .int .i64 0, .slice none 0 0] 26)) = W0 at g1 g2 g3 g4 g5 ⊢
  have HB0 : Hid (Below w.heap.size w W0 ∧ W0.heap.size = w.heap.size + 3) := ⟨g1, g4⟩
  have HX : Hid (∀ W, Below W0.heap.size W0 W → W.heap[w.heap.size + 1]? = some (.cells #[.int .i64 0, .int .i64 0, .string ⟨#[]⟩, .int .i64 0, .int .i64 0, .slice none 0 0] 26 (0, 0)) ∧ W.heap[w.heap.size + 1 + 1]? = some (.cells #[.int .i64 d.kind, .int .i64 0, .string ⟨#[]⟩, .int .i64 0, .int .i64 0, .slice none 0 0] 26 (0, 0))) := fun W hb => ⟨(hb.block _ (by omega)).trans g3, (hb.block _ (by omega)).trans g5⟩
  have y0 : W0.cell? ⟨w.heap.size, 0, none⟩ = some (.int .i64 d.kind) := (cellO g2).trans rfl
  have y2 : W0.cell? ⟨w.heap.size, 2, none⟩ = some (.string d.name) := (cellO g2).trans rfl
  have y5 : W0.cell? ⟨w.heap.size, 5, none⟩ = some (.slice a kn cap) := (cellO g2).trans rfl
  clear g1 g2 g3 g4 g5
  go_wp2_with fail
  refine (HC.out W0 HB0.out.1).mono ?_
  rintro e w1 ⟨rfl, hb1⟩
  obtain ⟨x1, x2⟩ := HX.out w1 hb1
  have HB1 : Hid (Below w.heap.size w w1 ∧ Below W0.heap.size W0 w1) := ⟨HB0.out.1.trans (hb1.mono HB0.out.1.size), hb1⟩
  have r0 := (cellO (q := 0) x1).trans rfl
  have s0 := looseO (q := 0) x1
  have t0 := (cellO (q := 0) x2).trans rfl
  have f0 := looseO (q := 0) x2
  have r1 := (cellO (q := 1) x1).trans rfl
  have s1 := looseO (q := 1) x1
  have t1 := (cellO (q := 1) x2).trans rfl
  have f1 := looseO (q := 1) x2
  have r2 := (cellO (q := 2) x1).trans rfl
  have s2 := looseO (q := 2) x1
  have t2 := (cellO (q := 2) x2).trans rfl
  have f2 := looseO (q := 2) x2
  have r3 := (cellO (q := 3) x1).trans rfl
  have s3 := looseO (q := 3) x1
  have t3 := (cellO (q := 3) x2).trans rfl
  have f3 := looseO (q := 3) x2
  have r4 := (cellO (q := 4) x1).trans rfl
  have s4 := looseO (q := 4) x1
  have t4 := (cellO (q := 4) x2).trans rfl
  have f4 := looseO (q := 4) x2
  have r5 := (cellO (q := 5) x1).trans rfl
  have s5 := looseO (q := 5) x1
  have t5 := (cellO (q := 5) x2).trans rfl
  have f5 := looseO (q := 5) x2
  have HXX := hidd x1
  have hne : w.heap.size + 1 ≠ w.heap.size + 1 + 1 := by omega
  clear hb1 x1 x2
  go_wp2_with fail
  have hk := set6 (show (w1.setCell ⟨w.heap.size + 1 + 1, 2, none⟩ (.string d.name)).heap[w.heap.size + 1]? = some (.cells #[.int .i64 0, .int .i64 0, .string ⟨#[]⟩, .int .i64 0, .int .i64 0, .slice none 0 0] 26 (0, 0)) by rw [Below.heap_setCell _ _ _ _ hne]; exact HXX.out) (.int .i64 d.kind) (.int .i64 0) (.string d.name) (.int .i64 0) (.int .i64 0) (.slice none 0 0)
  have hbF : Below w.heap.size w ((((((((w1.setCell ⟨w.heap.size + 1 + 1, 2, none⟩ (.string d.name)).setCell ⟨w.heap.size + 1, 0, none⟩ (.int .i64 d.kind)).setCell ⟨w.heap.size + 1, 1, none⟩ (.int .i64 0)).setCell ⟨w.heap.size + 1, 2, none⟩ (.string d.name)).setCell ⟨w.heap.size + 1, 3, none⟩ (.int .i64 0)).setCell ⟨w.heap.size + 1, 4, none⟩ (.int .i64 0)).setCell ⟨w.heap.size + 1, 5, none⟩ (.slice none 0 0))) := (Below.setCell (Below.setCell (Below.setCell (Below.setCell (Below.setCell (Below.setCell (Below.setCell HB1.out.1 (p := ⟨w.heap.size + 1 + 1, 2, none⟩) (by show w.heap.size ≤ w.heap.size + 1 + 1; omega) _) (p := ⟨w.heap.size + 1, 0, none⟩) (Nat.le_succ _) _) (p := ⟨w.heap.size + 1, 1, none⟩) (Nat.le_succ _) _) (p := ⟨w.heap.size + 1, 2, none⟩) (Nat.le_succ _) _) (p := ⟨w.heap.size + 1, 3, none⟩) (Nat.le_succ _) _) (p := ⟨w.heap.size + 1, 4, none⟩) (Nat.le_succ _) _) (p := ⟨w.heap.size + 1, 5, none⟩) (Nat.le_succ _) _)
  have hfr : ∀ k, k ≠ w.heap.size + 1 → ((((((((w1.setCell ⟨w.heap.size + 1 + 1, 2, none⟩ (.string d.name)).setCell ⟨w.heap.size + 1, 0, none⟩ (.int .i64 d.kind)).setCell ⟨w.heap.size + 1, 1, none⟩ (.int .i64 0)).setCell ⟨w.heap.size + 1, 2, none⟩ (.string d.name)).setCell ⟨w.heap.size + 1, 3, none⟩ (.int .i64 0)).setCell ⟨w.heap.size + 1, 4, none⟩ (.int .i64 0)).setCell ⟨w.heap.size + 1, 5, none⟩ (.slice none 0 0))).heap[k]? = (w1.setCell ⟨w.heap.size + 1 + 1, 2, none⟩ (.string d.name)).heap[k]? := fun k hk => six_far hk _ _ _ _ _ _
  have hsz : ((((((((w1.setCell ⟨w.heap.size + 1 + 1, 2, none⟩ (.string d.name)).setCell ⟨w.heap.size + 1, 0, none⟩ (.int .i64 d.kind)).setCell ⟨w.heap.size + 1, 1, none⟩ (.int .i64 0)).setCell ⟨w.heap.size + 1, 2, none⟩ (.string d.name)).setCell ⟨w.heap.size + 1, 3, none⟩ (.int .i64 0)).setCell ⟨w.heap.size + 1, 4, none⟩ (.int .i64 0)).setCell ⟨w.heap.size + 1, 5, none⟩ (.slice none 0 0))).heap.size = (w1.setCell ⟨w.heap.size + 1 + 1, 2, none⟩ (.string d.name)).heap.size := by simp
  generalize ((((((((w1.setCell ⟨w.heap.size + 1 + 1, 2, none⟩ (.string d.name)).setCell ⟨w.heap.size + 1, 0, none⟩ (.int .i64 d.kind)).setCell ⟨w.heap.size + 1, 1, none⟩ (.int .i64 0)).setCell ⟨w.heap.size + 1, 2, none⟩ (.string d.name)).setCell ⟨w.heap.size + 1, 3, none⟩ (.int .i64 0)).setCell ⟨w.heap.size + 1, 4, none⟩ (.int .i64 0)).setCell ⟨w.heap.size + 1, 5, none⟩ (.slice none 0 0))) = Wf at hk hbF hfr hsz ⊢
  have k0 : Wf.cell? ⟨w.heap.size + 1, 0, none⟩ = some (.int .i64 d.kind) := (cellO hk).trans rfl
  have k1 : Wf.cell? ⟨w.heap.size + 1, 1, none⟩ = some (.int .i64 0) := (cellO hk).trans rfl
  have k2 : Wf.cell? ⟨w.heap.size + 1, 2, none⟩ = some (.string d.name) := (cellO hk).trans rfl
  have k3 : Wf.cell? ⟨w.heap.size + 1, 3, none⟩ = some (.int .i64 0) := (cellO hk).trans rfl
  have k4 : Wf.cell? ⟨w.heap.size + 1, 4, none⟩ = some (.int .i64 0) := (cellO hk).trans rfl
  have k5 : Wf.cell? ⟨w.heap.size + 1, 5, none⟩ = some (.slice none 0 0) := (cellO hk).trans rfl
  refine bodyPost_ret (v := .agg #[.int .i64 d.kind, .int .i64 0, .string d.name, .int .i64 0, .int .i64 0, .slice none 0 0]) (by simp [results, Tryz.results118, go_sem, k0, k1, k2, k3, k4, k5]) rfl ⟨hbF, rfl⟩
theorem RowC.far {B : Nat} {v : Value} {es : List (Dat × Option Addr × Nat)} {w w' : World} (h : RowC B v es w) (hf : ∀ k, B ≤ k → w'.heap[k]? = w.heap[k]?) (hs : w'.heap.size = w.heap.size) : RowC B v es w' :=
  ⟨own_keepL h.own (fun g hg => hf g (own_typeL h.own g hg).1), fun e he => by
    obtain ⟨h1, h2, f, h3⟩ := h.kids e he
    exact ⟨h1, h2, f, Dc.stay (fun k hk => hf k hk.1) (fun k hk => ⟨hk.1, by rw [hs]; exact hk.2.1, hk.2.2⟩) f _ _ h3⟩⟩
set_option maxRecDepth 100000 in
set_option maxHeartbeats 6400000 in
theorem cop_list (d : Dat) (a : Option Addr) (kn cap : Nat) (w : World) (ks : List Dat) (hk : d.kind = 4) (HC0 : ∀ W, Below w.heap.size w W → Calls Tryz.prog 88 #[.slice a kn cap] W fun e w' => Below W.heap.size W w' ∧ ∃ v es, e = .returned v ∧ es.map (·.1) = ks ∧ RowC W.heap.size v es w') :
    Calls Tryz.prog 118 #[.agg #[.int .i64 d.kind, .int .i64 d.n, .string d.name, .int .i64 d.stamp, .int .i64 d.lib, .slice a kn cap]] w fun e w' => Below w.heap.size w w' ∧ ∃ va vc es, e = .returned (.agg #[.int .i64 d.kind, .int .i64 0, .string ⟨#[]⟩, .int .i64 0, .int .i64 0, .slice va es.length vc]) ∧ es.map (·.1) = ks ∧ RowC (w.heap.size + 3) (.slice va es.length vc) es w' := by
  have c1 : (d.kind == 1) = false := by rw [hk]; rfl
  have c2 : (d.kind == 2) = false := by rw [hk]; rfl
  have c3 : (d.kind == 3) = false := by rw [hk]; rfl
  have c4 : (d.kind == 4) = true := by simpa using hk
  have HC := hidd HC0
  clear hk HC0
  obtain ⟨g1, g2, g3, g4, g5⟩ := cop_boxes d a kn cap w (.cells #[.int .i64 d.kind, .int .i64 0, .string ⟨#[]⟩, .int .i64 0, .int .i64 0, .slice none 0 0] 26)
  go_enter Tryz.func118, Tryz.ntmps118
  go_upto_region 2 with fail
  generalize (((w.alloc (.cells #[.int .i64 d.kind, .int .i64 d.n, .string d.name, .int .i64 d.stamp, .int .i64 d.lib, .slice a kn cap] 26)).alloc (.cells #[.int .i64 0, .int .i64 0, .string ⟨#[]⟩, .int .i64 0, .int .i64 0, .slice none 0 0] 26)).alloc (.cells #[.int .i64 d.kind, .int .i64 0, .string ⟨#[]⟩, .int .i64 0, .int .i64 0, .slice none 0 0] 26)) = W0 at g1 g2 g3 g4 g5 ⊢
  have HB0 : Hid (Below w.heap.size w W0 ∧ W0.heap.size = w.heap.size + 3) := ⟨g1, g4⟩
  have HX : Hid (∀ W, Below W0.heap.size W0 W → W.heap[w.heap.size + 1]? = some (.cells #[.int .i64 0, .int .i64 0, .string ⟨#[]⟩, .int .i64 0, .int .i64 0, .slice none 0 0] 26 (0, 0)) ∧ W.heap[w.heap.size + 1 + 1]? = some (.cells #[.int .i64 d.kind, .int .i64 0, .string ⟨#[]⟩, .int .i64 0, .int .i64 0, .slice none 0 0] 26 (0, 0))) := fun W hb => ⟨(hb.block _ (by omega)).trans g3, (hb.block _ (by omega)).trans g5⟩
  have y0 : W0.cell? ⟨w.heap.size, 0, none⟩ = some (.int .i64 d.kind) := (cellO g2).trans rfl
  have y2 : W0.cell? ⟨w.heap.size, 2, none⟩ = some (.string d.name) := (cellO g2).trans rfl
  have y5 : W0.cell? ⟨w.heap.size, 5, none⟩ = some (.slice a kn cap) := (cellO g2).trans rfl
  clear g1 g2 g3 g4 g5
  go_wp2_with fail
  refine (HC.out W0 HB0.out.1).mono ?_
  rintro e w1 ⟨hb1, v, es, rfl, hes, hro⟩
  obtain ⟨va, vc, rfl, _⟩ := own_sliceL hro.own
  rw [HB0.out.2] at hro
  have HES : Hid (es.map (·.1) = ks ∧ RowC (w.heap.size + 3) (.slice va es.length vc) es w1) := ⟨hes, hro⟩
  clear hes hro
  obtain ⟨x1, x2⟩ := HX.out w1 hb1
  have HB1 : Hid (Below w.heap.size w w1 ∧ Below W0.heap.size W0 w1) := ⟨HB0.out.1.trans (hb1.mono HB0.out.1.size), hb1⟩
  have r0 := (cellO (q := 0) x1).trans rfl
  have s0 := looseO (q := 0) x1
  have t0 := (cellO (q := 0) x2).trans rfl
  have f0 := looseO (q := 0) x2
  have r1 := (cellO (q := 1) x1).trans rfl
  have s1 := looseO (q := 1) x1
  have t1 := (cellO (q := 1) x2).trans rfl
  have f1 := looseO (q := 1) x2
  have r2 := (cellO (q := 2) x1).trans rfl
  have s2 := looseO (q := 2) x1
  have t2 := (cellO (q := 2) x2).trans rfl
  have f2 := looseO (q := 2) x2
  have r3 := (cellO (q := 3) x1).trans rfl
  have s3 := looseO (q := 3) x1
  have t3 := (cellO (q := 3) x2).trans rfl
  have f3 := looseO (q := 3) x2
  have r4 := (cellO (q := 4) x1).trans rfl
  have s4 := looseO (q := 4) x1
  have t4 := (cellO (q := 4) x2).trans rfl
  have f4 := looseO (q := 4) x2
  have r5 := (cellO (q := 5) x1).trans rfl
  have s5 := looseO (q := 5) x1
  have t5 := (cellO (q := 5) x2).trans rfl
  have f5 := looseO (q := 5) x2
  have HXX := hidd x1
  have hne : w.heap.size + 1 ≠ w.heap.size + 1 + 1 := by omega
  clear hb1 x1 x2
  go_wp2_with fail
  have hk := set6 (show (w1.setCell ⟨w.heap.size + 1 + 1, 5, none⟩ (.slice va es.length vc)).heap[w.heap.size + 1]? = some (.cells #[.int .i64 0, .int .i64 0, .string ⟨#[]⟩, .int .i64 0, .int .i64 0, .slice none 0 0] 26 (0, 0)) by rw [Below.heap_setCell _ _ _ _ hne]; exact HXX.out) (.int .i64 d.kind) (.int .i64 0) (.string ⟨#[]⟩) (.int .i64 0) (.int .i64 0) (.slice va es.length vc)
  have hbF : Below w.heap.size w ((((((((w1.setCell ⟨w.heap.size + 1 + 1, 5, none⟩ (.slice va es.length vc)).setCell ⟨w.heap.size + 1, 0, none⟩ (.int .i64 d.kind)).setCell ⟨w.heap.size + 1, 1, none⟩ (.int .i64 0)).setCell ⟨w.heap.size + 1, 2, none⟩ (.string ⟨#[]⟩)).setCell ⟨w.heap.size + 1, 3, none⟩ (.int .i64 0)).setCell ⟨w.heap.size + 1, 4, none⟩ (.int .i64 0)).setCell ⟨w.heap.size + 1, 5, none⟩ (.slice va es.length vc))) := (Below.setCell (Below.setCell (Below.setCell (Below.setCell (Below.setCell (Below.setCell (Below.setCell HB1.out.1 (p := ⟨w.heap.size + 1 + 1, 5, none⟩) (by show w.heap.size ≤ w.heap.size + 1 + 1; omega) _) (p := ⟨w.heap.size + 1, 0, none⟩) (Nat.le_succ _) _) (p := ⟨w.heap.size + 1, 1, none⟩) (Nat.le_succ _) _) (p := ⟨w.heap.size + 1, 2, none⟩) (Nat.le_succ _) _) (p := ⟨w.heap.size + 1, 3, none⟩) (Nat.le_succ _) _) (p := ⟨w.heap.size + 1, 4, none⟩) (Nat.le_succ _) _) (p := ⟨w.heap.size + 1, 5, none⟩) (Nat.le_succ _) _)
  have hfr : ∀ k, k ≠ w.heap.size + 1 → ((((((((w1.setCell ⟨w.heap.size + 1 + 1, 5, none⟩ (.slice va es.length vc)).setCell ⟨w.heap.size + 1, 0, none⟩ (.int .i64 d.kind)).setCell ⟨w.heap.size + 1, 1, none⟩ (.int .i64 0)).setCell ⟨w.heap.size + 1, 2, none⟩ (.string ⟨#[]⟩)).setCell ⟨w.heap.size + 1, 3, none⟩ (.int .i64 0)).setCell ⟨w.heap.size + 1, 4, none⟩ (.int .i64 0)).setCell ⟨w.heap.size + 1, 5, none⟩ (.slice va es.length vc))).heap[k]? = (w1.setCell ⟨w.heap.size + 1 + 1, 5, none⟩ (.slice va es.length vc)).heap[k]? := fun k hk => six_far hk _ _ _ _ _ _
  have hsz : ((((((((w1.setCell ⟨w.heap.size + 1 + 1, 5, none⟩ (.slice va es.length vc)).setCell ⟨w.heap.size + 1, 0, none⟩ (.int .i64 d.kind)).setCell ⟨w.heap.size + 1, 1, none⟩ (.int .i64 0)).setCell ⟨w.heap.size + 1, 2, none⟩ (.string ⟨#[]⟩)).setCell ⟨w.heap.size + 1, 3, none⟩ (.int .i64 0)).setCell ⟨w.heap.size + 1, 4, none⟩ (.int .i64 0)).setCell ⟨w.heap.size + 1, 5, none⟩ (.slice va es.length vc))).heap.size = (w1.setCell ⟨w.heap.size + 1 + 1, 5, none⟩ (.slice va es.length vc)).heap.size := by simp
  generalize ((((((((w1.setCell ⟨w.heap.size + 1 + 1, 5, none⟩ (.slice va es.length vc)).setCell ⟨w.heap.size + 1, 0, none⟩ (.int .i64 d.kind)).setCell ⟨w.heap.size + 1, 1, none⟩ (.int .i64 0)).setCell ⟨w.heap.size + 1, 2, none⟩ (.string ⟨#[]⟩)).setCell ⟨w.heap.size + 1, 3, none⟩ (.int .i64 0)).setCell ⟨w.heap.size + 1, 4, none⟩ (.int .i64 0)).setCell ⟨w.heap.size + 1, 5, none⟩ (.slice va es.length vc))) = Wf at hk hbF hfr hsz ⊢
  have k0 : Wf.cell? ⟨w.heap.size + 1, 0, none⟩ = some (.int .i64 d.kind) := (cellO hk).trans rfl
  have k1 : Wf.cell? ⟨w.heap.size + 1, 1, none⟩ = some (.int .i64 0) := (cellO hk).trans rfl
  have k2 : Wf.cell? ⟨w.heap.size + 1, 2, none⟩ = some (.string ⟨#[]⟩) := (cellO hk).trans rfl
  have k3 : Wf.cell? ⟨w.heap.size + 1, 3, none⟩ = some (.int .i64 0) := (cellO hk).trans rfl
  have k4 : Wf.cell? ⟨w.heap.size + 1, 4, none⟩ = some (.int .i64 0) := (cellO hk).trans rfl
  have k5 : Wf.cell? ⟨w.heap.size + 1, 5, none⟩ = some (.slice va es.length vc) := (cellO hk).trans rfl
  refine bodyPost_ret (v := .agg #[.int .i64 d.kind, .int .i64 0, .string ⟨#[]⟩, .int .i64 0, .int .i64 0, .slice va es.length vc]) (by simp [results, Tryz.results118, go_sem, k0, k1, k2, k3, k4, k5]) rfl ⟨hbF, va, vc, es, rfl, HES.out.1, HES.out.2.far (fun k hk => (hfr k (by omega)).trans (Below.heap_setCell _ _ _ _ (show k ≠ w.heap.size + 1 + 1 by omega))) (by rw [hsz]; simp)⟩
theorem bare_num {d : Dat} (h : d.kind = 1 ∨ d.kind = 2) : bareQ d = ⟨d.kind, d.n, ⟨#[]⟩, 0, 0, []⟩ := by
  cases d with
  | mk k n nm st lb ks =>
    rw [bareQ]
    have h' : k = 1 ∨ k = 2 := h
    have h3 : ¬ k = 3 := by omega
    have h4 : ¬ k = 4 := by omega
    simp [h', h3, h4]
theorem bare_sym {d : Dat} (h : d.kind = 3) : bareQ d = ⟨d.kind, 0, d.name, 0, 0, []⟩ := by
  cases d with
  | mk k n nm st lb ks =>
    rw [bareQ]
    have h' : k = 3 := h
    subst h'
    simp
theorem bare_list {d : Dat} (h : d.kind = 4) : bareQ d = ⟨d.kind, 0, ⟨#[]⟩, 0, 0, bareQL d.kids⟩ := by
  cases d with
  | mk k n nm st lb ks =>
    rw [bareQ]
    have h' : k = 4 := h
    subst h'
    simp
theorem bare_else {d : Dat} (h1 : ¬ d.kind = 1) (h2 : ¬ d.kind = 2) (h3 : ¬ d.kind = 3) (h4 : ¬ d.kind = 4) : bareQ d = ⟨d.kind, 0, ⟨#[]⟩, 0, 0, []⟩ := by
  cases d with
  | mk k n nm st lb ks =>
    rw [bareQ]
    have a1 : ¬ k = 1 := h1
    have a2 : ¬ k = 2 := h2
    have a3 : ¬ k = 3 := h3
    have a4 : ¬ k = 4 := h4
    simp [a1, a2, a3, a4]
theorem Dc.none0 (ok : Nat → Prop) (w : World) (a : Option Addr) : Dc ok w 0 a [] := rfl
theorem copiedOne_any (B : Nat) : ∀ (f : Nat) (d : Dat) (a : Option Addr) (cap : Nat) (w : World), B ≤ w.heap.size → Dc (fun k => k < B) w f a d.kids → d.kids.length ≤ cap → okD d → Calls Tryz.prog 118 #[dv d a cap] w (CopT d w)
  | f, d, a, cap, w, hB, hd, hc, ho => by
    unfold CopT
    by_cases h1 : d.kind = 1
    · rw [bare_num (Or.inl h1)]
      exact (cop_num1 d a d.kids.length cap w h1).mono (by rintro e w' ⟨h, rfl⟩; exact ⟨h, none, 0, 0, rfl, Nat.le_refl _, rfl⟩)
    by_cases h2 : d.kind = 2
    · rw [bare_num (Or.inr h2)]
      exact (cop_num2 d a d.kids.length cap w h2).mono (by rintro e w' ⟨h, rfl⟩; exact ⟨h, none, 0, 0, rfl, Nat.le_refl _, rfl⟩)
    by_cases h3 : d.kind = 3
    · rw [bare_sym h3]
      exact (cop_sym d a d.kids.length cap w h3 (okD_big ho h3)).mono (by rintro e w' ⟨h, rfl⟩; exact ⟨h, none, 0, 0, rfl, Nat.le_refl _, rfl⟩)
    by_cases h4 : d.kind = 4
    · rw [bare_list h4]
      obtain ⟨o1, o2⟩ := okD_list ho h4
      refine (cop_list d a d.kids.length cap w (bareQL d.kids) h4 (fun W hb => copied_over B f d.kids a cap W (Nat.le_trans hB hb.size) (hd.below (hb.mono hB)) o1 hc (fun x hx g a' cap' W' hb' hf hlk hk => ?_))).mono ?_
      · exact copiedOne_any B g x a' cap' W' (Nat.le_trans (Nat.le_trans hB hb.size) hb'.size) hk hlk (okL_mem o2 x hx)
      · rintro e w' ⟨h, va, vc, es, rfl, hes, hro⟩
        obtain ⟨a2, c2, g2, hv, hlc, hdc⟩ := hro.lie (by have := congrArg List.length hes; simp [bareQL_map] at this; omega)
        rw [hes] at hv hlc hdc
        refine ⟨h, a2, c2, g2, ?_, hlc, Dc.stay (fun _ _ => rfl) (fun k hk => ⟨by have := hk.1; omega, hk.2⟩) g2 _ _ hdc⟩
        have hv' : va = a2 ∧ es.length = (bareQL d.kids).length ∧ vc = c2 := by simpa using hv
        unfold dv
        rw [hv'.1, hv'.2.1, hv'.2.2]
    · rw [bare_else h1 h2 h3 h4]
      exact (cop_else d a d.kids.length cap w h1 h2 h3 h4).mono (by rintro e w' ⟨h, rfl⟩; exact ⟨h, none, 0, 0, rfl, Nat.le_refl _, rfl⟩)
  termination_by f => f
theorem copied_any (B f : Nat) (ds : List Dat) (a : Option Addr) (cap : Nat) (w : World) (hB : B ≤ w.heap.size) (hd : Dc (fun k => k < B) w f a ds) (hn : ds.length ≤ 2000) (hc : ds.length ≤ cap) (ho : okL ds) :
    Calls Tryz.prog 88 #[.slice a ds.length cap] w fun e w' => Below w.heap.size w w' ∧ ∃ v es, e = .returned v ∧ es.map (·.1) = bareQL ds ∧ RowC w.heap.size v es w' :=
  copied_over B f ds a cap w hB hd hn hc (fun x hx g a' cap' W hb hf hlk hk => copiedOne_any B g x a' cap' W (Nat.le_trans hB hb.size) hk hlk (okL_mem ho x hx))
end Go.Proofs.YtonafbennobgdaaGreatDoor
