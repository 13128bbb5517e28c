/- Chapter 3: data copied: any datum. -/
import Derived.Test.YtonafbennobgdaaGreatDoorK13
namespace Go.Proofs.YtonafbennobgdaaGreatDoor
set_option linter.unusedVariables false
set_option linter.unusedSimpArgs false
open Go.RowKit
set_option maxRecDepth 100000
set_option maxHeartbeats 6400000
theorem cop_boxes (d : Dat) (a : Option Addr) (kn cap : Nat) (w : World) (o : Obj) : Below w.heap.size w (((w.alloc (.cells #[.int .i64 d.kind, .int .i64 d.n, .string d.name, .int .i64 d.stamp, .int .i64 d.lib, .slice a kn cap] 26)).alloc (.cells #[.int .i64 0, .int .i64 0, .string ⟨#[]⟩, .int .i64 0, .int .i64 0, .slice none 0 0] 26)).alloc o) ∧ (((w.alloc (.cells #[.int .i64 d.kind, .int .i64 d.n, .string d.name, .int .i64 d.stamp, .int .i64 d.lib, .slice a kn cap] 26)).alloc (.cells #[.int .i64 0, .int .i64 0, .string ⟨#[]⟩, .int .i64 0, .int .i64 0, .slice none 0 0] 26)).alloc o).heap[w.heap.size]? = some (.cells #[.int .i64 d.kind, .int .i64 d.n, .string d.name, .int .i64 d.stamp, .int .i64 d.lib, .slice a kn cap] 26 (0, 0)) ∧ (((w.alloc (.cells #[.int .i64 d.kind, .int .i64 d.n, .string d.name, .int .i64 d.stamp, .int .i64 d.lib, .slice a kn cap] 26)).alloc (.cells #[.int .i64 0, .int .i64 0, .string ⟨#[]⟩, .int .i64 0, .int .i64 0, .slice none 0 0] 26)).alloc o).heap[w.heap.size + 1]? = some (.cells #[.int .i64 0, .int .i64 0, .string ⟨#[]⟩, .int .i64 0, .int .i64 0, .slice none 0 0] 26 (0, 0)) ∧ (((w.alloc (.cells #[.int .i64 d.kind, .int .i64 d.n, .string d.name, .int .i64 d.stamp, .int .i64 d.lib, .slice a kn cap] 26)).alloc (.cells #[.int .i64 0, .int .i64 0, .string ⟨#[]⟩, .int .i64 0, .int .i64 0, .slice none 0 0] 26)).alloc o).heap.size = w.heap.size + 3 ∧ (((w.alloc (.cells #[.int .i64 d.kind, .int .i64 d.n, .string d.name, .int .i64 d.stamp, .int .i64 d.lib, .slice a kn cap] 26)).alloc (.cells #[.int .i64 0, .int .i64 0, .string ⟨#[]⟩, .int .i64 0, .int .i64 0, .slice none 0 0] 26)).alloc o).heap[w.heap.size + 2]? = some o := by
 refine ⟨(((Below.refl _ _).alloc (Nat.le_refl _) _).alloc (by simp) _).alloc (by simp <;> omega) _, ?_, ?_, by simp, ?_⟩
 ·rw [Below.heap_alloc _ _ _ (by simp <;> omega), Below.heap_alloc _ _ _ (by simp)]; exact World.alloc_heap_new w _
 ·rw [Below.heap_alloc _ _ _ (by simp)]
  have := World.alloc_heap_new (w.alloc (.cells #[.int .i64 d.kind, .int .i64 d.n, .string d.name, .int .i64 d.stamp, .int .i64 d.lib, .slice a kn cap] 26)) (.cells #[.int .i64 0, .int .i64 0, .string ⟨#[]⟩, .int .i64 0, .int .i64 0, .slice none 0 0] 26)
  simpa using this
 have := World.alloc_heap_new ((w.alloc (.cells #[.int .i64 d.kind, .int .i64 d.n, .string d.name, .int .i64 d.stamp, .int .i64 d.lib, .slice a kn cap] 26)).alloc (.cells #[.int .i64 0, .int .i64 0, .string ⟨#[]⟩, .int .i64 0, .int .i64 0, .slice none 0 0] 26)) o
 simpa using this
theorem cop_num1 (d : Dat) (a : Option Addr) (kn cap : Nat) (w : World) (hk : d.kind = 1) :
 Calls Tryz.prog 118 #[.agg #[.int .i64 d.kind, .int .i64 d.n, .string d.name, .int .i64 d.stamp, .int .i64 d.lib, .slice a kn cap]] w fun e w' => Below w.heap.size w w' ∧ e = .returned (.agg #[.int .i64 d.kind, .int .i64 d.n, .string ⟨#[]⟩, .int .i64 0, .int .i64 0, .slice none 0 0]) := by
 have c1 : (d.kind == 1) = true := by simpa using hk
 clear hk
 obtain ⟨g1, g2, g3, g4, g5⟩ := cop_boxes d a kn cap w (.cells #[.int .i64 d.kind, .int .i64 d.n, .string ⟨#[]⟩, .int .i64 0, .int .i64 0, .slice none 0 0] 26)
 go_enter Tryz.func118, Tryz.ntmps118
 go_wp2_with fail
 have hbe : Below w.heap.size w (((w.alloc (.cells #[.int .i64 d.kind, .int .i64 d.n, .string d.name, .int .i64 d.stamp, .int .i64 d.lib, .slice a kn cap] 26)).alloc (.cells #[.int .i64 d.kind, .int .i64 d.n, .string ⟨#[]⟩, .int .i64 0, .int .i64 0, .slice none 0 0] 26)).alloc (.cells #[.int .i64 d.kind, .int .i64 d.n, .string ⟨#[]⟩, .int .i64 0, .int .i64 0, .slice none 0 0] 26)) := (((Below.refl _ _).alloc (Nat.le_refl _) _).alloc (by simp) _).alloc (by simp <;> omega) _
 exact bodyPost_ret (v := .agg #[.int .i64 d.kind, .int .i64 d.n, .string ⟨#[]⟩, .int .i64 0, .int .i64 0, .slice none 0 0]) (by simp [results, Tryz.results118, go_sem]) rfl ⟨hbe, rfl⟩
theorem cop_num2 (d : Dat) (a : Option Addr) (kn cap : Nat) (w : World) (hk : d.kind = 2) :
 Calls Tryz.prog 118 #[.agg #[.int .i64 d.kind, .int .i64 d.n, .string d.name, .int .i64 d.stamp, .int .i64 d.lib, .slice a kn cap]] w fun e w' => Below w.heap.size w w' ∧ e = .returned (.agg #[.int .i64 d.kind, .int .i64 d.n, .string ⟨#[]⟩, .int .i64 0, .int .i64 0, .slice none 0 0]) := by
 have c1 : (d.kind == 1) = false := by rw [hk]; rfl
 have c2 : (d.kind == 2) = true := by simpa using hk
 clear hk
 obtain ⟨g1, g2, g3, g4, g5⟩ := cop_boxes d a kn cap w (.cells #[.int .i64 d.kind, .int .i64 d.n, .string ⟨#[]⟩, .int .i64 0, .int .i64 0, .slice none 0 0] 26)
 go_enter Tryz.func118, Tryz.ntmps118
 go_wp2_with fail
 have hbe : Below w.heap.size w (((w.alloc (.cells #[.int .i64 d.kind, .int .i64 d.n, .string d.name, .int .i64 d.stamp, .int .i64 d.lib, .slice a kn cap] 26)).alloc (.cells #[.int .i64 d.kind, .int .i64 d.n, .string ⟨#[]⟩, .int .i64 0, .int .i64 0, .slice none 0 0] 26)).alloc (.cells #[.int .i64 d.kind, .int .i64 d.n, .string ⟨#[]⟩, .int .i64 0, .int .i64 0, .slice none 0 0] 26)) := (((Below.refl _ _).alloc (Nat.le_refl _) _).alloc (by simp) _).alloc (by simp <;> omega) _
 exact bodyPost_ret (v := .agg #[.int .i64 d.kind, .int .i64 d.n, .string ⟨#[]⟩, .int .i64 0, .int .i64 0, .slice none 0 0]) (by simp [results, Tryz.results118, go_sem]) rfl ⟨hbe, rfl⟩
theorem cop_else (d : Dat) (a : Option Addr) (kn cap : Nat) (w : World) (h1 : ¬ d.kind = 1) (h2 : ¬ d.kind = 2) (h3 : ¬ d.kind = 3) (h4 : ¬ d.kind = 4) :
 Calls Tryz.prog 118 #[.agg #[.int .i64 d.kind, .int .i64 d.n, .string d.name, .int .i64 d.stamp, .int .i64 d.lib, .slice a kn cap]] w fun e w' => Below w.heap.size w w' ∧ e = .returned (.agg #[.int .i64 d.kind, .int .i64 0, .string ⟨#[]⟩, .int .i64 0, .int .i64 0, .slice none 0 0]) := by
 have c1 : (d.kind == 1) = false := by simpa using h1
 have c2 : (d.kind == 2) = false := by simpa using h2
 have c3 : (d.kind == 3) = false := by simpa using h3
 have c4 : (d.kind == 4) = false := by simpa using h4
 clear h1 h2 h3 h4
 obtain ⟨g1, g2, g3, g4, g5⟩ := cop_boxes d a kn cap w (.cells #[.int .i64 d.kind, .int .i64 0, .string ⟨#[]⟩, .int .i64 0, .int .i64 0, .slice none 0 0] 26)
 go_enter Tryz.func118, Tryz.ntmps118
 go_wp2_with fail
 have hbe : Below w.heap.size w (((w.alloc (.cells #[.int .i64 d.kind, .int .i64 d.n, .string d.name, .int .i64 d.stamp, .int .i64 d.lib, .slice a kn cap] 26)).alloc (.cells #[.int .i64 d.kind, .int .i64 0, .string ⟨#[]⟩, .int .i64 0, .int .i64 0, .slice none 0 0] 26)).alloc (.cells #[.int .i64 d.kind, .int .i64 0, .string ⟨#[]⟩, .int .i64 0, .int .i64 0, .slice none 0 0] 26)) := (((Below.refl _ _).alloc (Nat.le_refl _) _).alloc (by simp) _).alloc (by simp <;> omega) _
 exact bodyPost_ret (v := .agg #[.int .i64 d.kind, .int .i64 0, .string ⟨#[]⟩, .int .i64 0, .int .i64 0, .slice none 0 0]) (by simp [results, Tryz.results118, go_sem]) rfl ⟨hbe, rfl⟩
theorem cop_sym (d : Dat) (a : Option Addr) (kn cap : Nat) (w : World) (hk : d.kind = 3) (hs : d.name.size ≤ 281474976710656) :
 Calls Tryz.prog 118 #[.agg #[.int .i64 d.kind, .int .i64 d.n, .string d.name, .int .i64 d.stamp, .int .i64 d.lib, .slice a kn cap]] w fun e w' => Below w.heap.size w w' ∧ e = .returned (.agg #[.int .i64 d.kind, .int .i64 0, .string d.name, .int .i64 0, .int .i64 0, .slice none 0 0]) := by
 have c1 : (d.kind == 1) = false := by rw [hk]; rfl
 have c2 : (d.kind == 2) = false := by rw [hk]; rfl
 have c3 : (d.kind == 3) = true := by simpa using hk
 have HC : Hid (∀ W, Below w.heap.size w W → Calls Tryz.prog 89 #[.string d.name] W fun e w' => e = .returned (.string d.name) ∧ Below W.heap.size W w') := fun W _ => cloneT_any d.name W hs
 clear hk hs
 obtain ⟨g1, g2, g3, g4, g5⟩ := cop_boxes d a kn cap w (.cells #[.int .i64 d.kind, .int .i64 0, .string ⟨#[]⟩, .int .i64 0, .int .i64 0, .slice none 0 0] 26)
 go_enter Tryz.func118, Tryz.ntmps118
 go_upto_region 2 with fail
 generalize (((w.alloc (.cells #[.int .i64 d.kind, .int .i64 d.n, .string d.name, .int .i64 d.stamp, .int .i64 d.lib, .slice a kn cap] 26)).alloc (.cells #[.int .i64 0, .int .i64 0, .string ⟨#[]⟩, .int .i64 0, .int .i64 0, .slice none 0 0] 26)).alloc (.cells #[.int .i64 d.kind, .int .i64 0, .string ⟨#[]⟩, .int .i64 0, .int .i64 0, .slice none 0 0] 26)) = W0 at g1 g2 g3 g4 g5 ⊢
 have HB0 : Hid (Below w.heap.size w W0 ∧ W0.heap.size = w.heap.size + 3) := ⟨g1, g4⟩
 have HX : Hid (∀ W, Below W0.heap.size W0 W → W.heap[w.heap.size + 1]? = some (.cells #[.int .i64 0, .int .i64 0, .string ⟨#[]⟩, .int .i64 0, .int .i64 0, .slice none 0 0] 26 (0, 0)) ∧ W.heap[w.heap.size + 1 + 1]? = some (.cells #[.int .i64 d.kind, .int .i64 0, .string ⟨#[]⟩, .int .i64 0, .int .i64 0, .slice none 0 0] 26 (0, 0))) := fun W hb => ⟨(hb.block _ (by omega)).trans g3, (hb.block _ (by omega)).trans g5⟩
 have y0 : W0.cell? ⟨w.heap.size, 0, none⟩ = some (.int .i64 d.kind) := (cellO g2).trans rfl
 have y2 : W0.cell? ⟨w.heap.size, 2, none⟩ = some (.string d.name) := (cellO g2).trans rfl
 have y5 : W0.cell? ⟨w.heap.size, 5, none⟩ = some (.slice a kn cap) := (cellO g2).trans rfl
 clear g1 g2 g3 g4 g5
 go_wp2_with fail
 refine (HC.out W0 HB0.out.1).mono ?_
 rintro e w1 ⟨rfl, hb1⟩
 obtain ⟨x1, x2⟩ := HX.out w1 hb1
 have HB1 : Hid (Below w.heap.size w w1 ∧ Below W0.heap.size W0 w1) := ⟨HB0.out.1.trans (hb1.mono HB0.out.1.size), hb1⟩
 have r0 := (cellO (q := 0) x1).trans rfl
 have s0 := looseO (q := 0) x1
 have t0 := (cellO (q := 0) x2).trans rfl
 have f0 := looseO (q := 0) x2
 have r1 := (cellO (q := 1) x1).trans rfl
 have s1 := looseO (q := 1) x1
 have t1 := (cellO (q := 1) x2).trans rfl
 have f1 := looseO (q := 1) x2
 have r2 := (cellO (q := 2) x1).trans rfl
 have s2 := looseO (q := 2) x1
 have t2 := (cellO (q := 2) x2).trans rfl
 have f2 := looseO (q := 2) x2
 have r3 := (cellO (q := 3) x1).trans rfl
 have s3 := looseO (q := 3) x1
 have t3 := (cellO (q := 3) x2).trans rfl
 have f3 := looseO (q := 3) x2
 have r4 := (cellO (q := 4) x1).trans rfl
 have s4 := looseO (q := 4) x1
 have t4 := (cellO (q := 4) x2).trans rfl
 have f4 := looseO (q := 4) x2
 have r5 := (cellO (q := 5) x1).trans rfl
 have s5 := looseO (q := 5) x1
 have t5 := (cellO (q := 5) x2).trans rfl
 have f5 := looseO (q := 5) x2
 have HXX := hidd x1
 have hne : w.heap.size + 1 ≠ w.heap.size + 1 + 1 := by omega
 clear hb1 x1 x2
 go_wp2_with fail
 have hk := set6 (show (w1.setCell ⟨w.heap.size + 1 + 1, 2, none⟩ (.string d.name)).heap[w.heap.size + 1]? = some (.cells #[.int .i64 0, .int .i64 0, .string ⟨#[]⟩, .int .i64 0, .int .i64 0, .slice none 0 0] 26 (0, 0)) by rw [Below.heap_setCell _ _ _ _ hne]; exact HXX.out) (.int .i64 d.kind) (.int .i64 0) (.string d.name) (.int .i64 0) (.int .i64 0) (.slice none 0 0)
 have hbF : Below w.heap.size w ((((((((w1.setCell ⟨w.heap.size + 1 + 1, 2, none⟩ (.string d.name)).setCell ⟨w.heap.size + 1, 0, none⟩ (.int .i64 d.kind)).setCell ⟨w.heap.size + 1, 1, none⟩ (.int .i64 0)).setCell ⟨w.heap.size + 1, 2, none⟩ (.string d.name)).setCell ⟨w.heap.size + 1, 3, none⟩ (.int .i64 0)).setCell ⟨w.heap.size + 1, 4, none⟩ (.int .i64 0)).setCell ⟨w.heap.size + 1, 5, none⟩ (.slice none 0 0))) := (Below.setCell (Below.setCell (Below.setCell (Below.setCell (Below.setCell (Below.setCell (Below.setCell HB1.out.1 (p := ⟨w.heap.size + 1 + 1, 2, none⟩) (by show w.heap.size ≤ w.heap.size + 1 + 1; omega) _) (p := ⟨w.heap.size + 1, 0, none⟩) (Nat.le_succ _) _) (p := ⟨w.heap.size + 1, 1, none⟩) (Nat.le_succ _) _) (p := ⟨w.heap.size + 1, 2, none⟩) (Nat.le_succ _) _) (p := ⟨w.heap.size + 1, 3, none⟩) (Nat.le_succ _) _) (p := ⟨w.heap.size + 1, 4, none⟩) (Nat.le_succ _) _) (p := ⟨w.heap.size + 1, 5, none⟩) (Nat.le_succ _) _)
 have hfr : ∀ k, k ≠ w.heap.size + 1 → ((((((((w1.setCell ⟨w.heap.size + 1 + 1, 2, none⟩ (.string d.name)).setCell ⟨w.heap.size + 1, 0, none⟩ (.int .i64 d.kind)).setCell ⟨w.heap.size + 1, 1, none⟩ (.int .i64 0)).setCell ⟨w.heap.size + 1, 2, none⟩ (.string d.name)).setCell ⟨w.heap.size + 1, 3, none⟩ (.int .i64 0)).setCell ⟨w.heap.size + 1, 4, none⟩ (.int .i64 0)).setCell ⟨w.heap.size + 1, 5, none⟩ (.slice none 0 0))).heap[k]? = (w1.setCell ⟨w.heap.size + 1 + 1, 2, none⟩ (.string d.name)).heap[k]? := fun k hk => six_far hk _ _ _ _ _ _
 have hsz : ((((((((w1.setCell ⟨w.heap.size + 1 + 1, 2, none⟩ (.string d.name)).setCell ⟨w.heap.size + 1, 0, none⟩ (.int .i64 d.kind)).setCell ⟨w.heap.size + 1, 1, none⟩ (.int .i64 0)).setCell ⟨w.heap.size + 1, 2, none⟩ (.string d.name)).setCell ⟨w.heap.size + 1, 3, none⟩ (.int .i64 0)).setCell ⟨w.heap.size + 1, 4, none⟩ (.int .i64 0)).setCell ⟨w.heap.size + 1, 5, none⟩ (.slice none 0 0))).heap.size = (w1.setCell ⟨w.heap.size + 1 + 1, 2, none⟩ (.string d.name)).heap.size := by simp
 generalize ((((((((w1.setCell ⟨w.heap.size + 1 + 1, 2, none⟩ (.string d.name)).setCell ⟨w.heap.size + 1, 0, none⟩ (.int .i64 d.kind)).setCell ⟨w.heap.size + 1, 1, none⟩ (.int .i64 0)).setCell ⟨w.heap.size + 1, 2, none⟩ (.string d.name)).setCell ⟨w.heap.size + 1, 3, none⟩ (.int .i64 0)).setCell ⟨w.heap.size + 1, 4, none⟩ (.int .i64 0)).setCell ⟨w.heap.size + 1, 5, none⟩ (.slice none 0 0))) = Wf at hk hbF hfr hsz ⊢
 have k0 : Wf.cell? ⟨w.heap.size + 1, 0, none⟩ = some (.int .i64 d.kind) := (cellO hk).trans rfl
 have k1 : Wf.cell? ⟨w.heap.size + 1, 1, none⟩ = some (.int .i64 0) := (cellO hk).trans rfl
 have k2 : Wf.cell? ⟨w.heap.size + 1, 2, none⟩ = some (.string d.name) := (cellO hk).trans rfl
 have k3 : Wf.cell? ⟨w.heap.size + 1, 3, none⟩ = some (.int .i64 0) := (cellO hk).trans rfl
 have k4 : Wf.cell? ⟨w.heap.size + 1, 4, none⟩ = some (.int .i64 0) := (cellO hk).trans rfl
 have k5 : Wf.cell? ⟨w.heap.size + 1, 5, none⟩ = some (.slice none 0 0) := (cellO hk).trans rfl
 refine bodyPost_ret (v := .agg #[.int .i64 d.kind, .int .i64 0, .string d.name, .int .i64 0, .int .i64 0, .slice none 0 0]) (by simp [results, Tryz.results118, go_sem, k0, k1, k2, k3, k4, k5]) rfl ⟨hbF, rfl⟩
theorem RowC.far {B : Nat} {v : Value} {es : List (Dat × Option Addr × Nat)} {w w' : World} (h : RowC B v es w) (hf : ∀ k, B ≤ k → w'.heap[k]? = w.heap[k]?) (hs : w'.heap.size = w.heap.size) : RowC B v es w' :=
 ⟨own_keepL h.own (fun g hg => hf g (own_typeL h.own g hg).1), fun e he => by
  obtain ⟨h1, h2, f, h3⟩ := h.kids e he
  exact ⟨h1, h2, f, Dc.stay (fun k hk => hf k hk.1) (fun k hk => ⟨hk.1, by rw [hs]; exact hk.2.1, hk.2.2⟩) f _ _ h3⟩⟩
theorem cop_list (d : Dat) (a : Option Addr) (kn cap : Nat) (w : World) (ks : List Dat) (hk : d.kind = 4) (HC0 : ∀ W, Below w.heap.size w W → Calls Tryz.prog 88 #[.slice a kn cap] W fun e w' => Below W.heap.size W w' ∧ ∃ v es, e = .returned v ∧ es.map (·.1) = ks ∧ RowC W.heap.size v es w') :
 Calls Tryz.prog 118 #[.agg #[.int .i64 d.kind, .int .i64 d.n, .string d.name, .int .i64 d.stamp, .int .i64 d.lib, .slice a kn cap]] w fun e w' => Below w.heap.size w w' ∧ ∃ va vc es, e = .returned (.agg #[.int .i64 d.kind, .int .i64 0, .string ⟨#[]⟩, .int .i64 0, .int .i64 0, .slice va es.length vc]) ∧ es.map (·.1) = ks ∧ RowC (w.heap.size + 3) (.slice va es.length vc) es w' := by
 have c1 : (d.kind == 1) = false := by rw [hk]; rfl
 have c2 : (d.kind == 2) = false := by rw [hk]; rfl
 have c3 : (d.kind == 3) = false := by rw [hk]; rfl
 have c4 : (d.kind == 4) = true := by simpa using hk
 have HC := hidd HC0
 clear hk HC0
 obtain ⟨g1, g2, g3, g4, g5⟩ := cop_boxes d a kn cap w (.cells #[.int .i64 d.kind, .int .i64 0, .string ⟨#[]⟩, .int .i64 0, .int .i64 0, .slice none 0 0] 26)
 go_enter Tryz.func118, Tryz.ntmps118
 go_upto_region 2 with fail
 generalize (((w.alloc (.cells #[.int .i64 d.kind, .int .i64 d.n, .string d.name, .int .i64 d.stamp, .int .i64 d.lib, .slice a kn cap] 26)).alloc (.cells #[.int .i64 0, .int .i64 0, .string ⟨#[]⟩, .int .i64 0, .int .i64 0, .slice none 0 0] 26)).alloc (.cells #[.int .i64 d.kind, .int .i64 0, .string ⟨#[]⟩, .int .i64 0, .int .i64 0, .slice none 0 0] 26)) = W0 at g1 g2 g3 g4 g5 ⊢
 have HB0 : Hid (Below w.heap.size w W0 ∧ W0.heap.size = w.heap.size + 3) := ⟨g1, g4⟩
 have HX : Hid (∀ W, Below W0.heap.size W0 W → W.heap[w.heap.size + 1]? = some (.cells #[.int .i64 0, .int .i64 0, .string ⟨#[]⟩, .int .i64 0, .int .i64 0, .slice none 0 0] 26 (0, 0)) ∧ W.heap[w.heap.size + 1 + 1]? = some (.cells #[.int .i64 d.kind, .int .i64 0, .string ⟨#[]⟩, .int .i64 0, .int .i64 0, .slice none 0 0] 26 (0, 0))) := fun W hb => ⟨(hb.block _ (by omega)).trans g3, (hb.block _ (by omega)).trans g5⟩
 have y0 : W0.cell? ⟨w.heap.size, 0, none⟩ = some (.int .i64 d.kind) := (cellO g2).trans rfl
 have y2 : W0.cell? ⟨w.heap.size, 2, none⟩ = some (.string d.name) := (cellO g2).trans rfl
 have y5 : W0.cell? ⟨w.heap.size, 5, none⟩ = some (.slice a kn cap) := (cellO g2).trans rfl
 clear g1 g2 g3 g4 g5
 go_wp2_with fail
 refine (HC.out W0 HB0.out.1).mono ?_
 rintro e w1 ⟨hb1, v, es, rfl, hes, hro⟩
 obtain ⟨va, vc, rfl, _⟩ := own_sliceL hro.own
 rw [HB0.out.2] at hro
 have HES : Hid (es.map (·.1) = ks ∧ RowC (w.heap.size + 3) (.slice va es.length vc) es w1) := ⟨hes, hro⟩
 clear hes hro
 obtain ⟨x1, x2⟩ := HX.out w1 hb1
 have HB1 : Hid (Below w.heap.size w w1 ∧ Below W0.heap.size W0 w1) := ⟨HB0.out.1.trans (hb1.mono HB0.out.1.size), hb1⟩
 have r0 := (cellO (q := 0) x1).trans rfl
 have s0 := looseO (q := 0) x1
 have t0 := (cellO (q := 0) x2).trans rfl
 have f0 := looseO (q := 0) x2
 have r1 := (cellO (q := 1) x1).trans rfl
 have s1 := looseO (q := 1) x1
 have t1 := (cellO (q := 1) x2).trans rfl
 have f1 := looseO (q := 1) x2
 have r2 := (cellO (q := 2) x1).trans rfl
 have s2 := looseO (q := 2) x1
 have t2 := (cellO (q := 2) x2).trans rfl
 have f2 := looseO (q := 2) x2
 have r3 := (cellO (q := 3) x1).trans rfl
 have s3 := looseO (q := 3) x1
 have t3 := (cellO (q := 3) x2).trans rfl
 have f3 := looseO (q := 3) x2
 have r4 := (cellO (q := 4) x1).trans rfl
 have s4 := looseO (q := 4) x1
 have t4 := (cellO (q := 4) x2).trans rfl
 have f4 := looseO (q := 4) x2
 have r5 := (cellO (q := 5) x1).trans rfl
 have s5 := looseO (q := 5) x1
 have t5 := (cellO (q := 5) x2).trans rfl
 have f5 := looseO (q := 5) x2
 have HXX := hidd x1
 have hne : w.heap.size + 1 ≠ w.heap.size + 1 + 1 := by omega
 clear hb1 x1 x2
 go_wp2_with fail
 have hk := set6 (show (w1.setCell ⟨w.heap.size + 1 + 1, 5, none⟩ (.slice va es.length vc)).heap[w.heap.size + 1]? = some (.cells #[.int .i64 0, .int .i64 0, .string ⟨#[]⟩, .int .i64 0, .int .i64 0, .slice none 0 0] 26 (0, 0)) by rw [Below.heap_setCell _ _ _ _ hne]; exact HXX.out) (.int .i64 d.kind) (.int .i64 0) (.string ⟨#[]⟩) (.int .i64 0) (.int .i64 0) (.slice va es.length vc)
 have hbF : Below w.heap.size w ((((((((w1.setCell ⟨w.heap.size + 1 + 1, 5, none⟩ (.slice va es.length vc)).setCell ⟨w.heap.size + 1, 0, none⟩ (.int .i64 d.kind)).setCell ⟨w.heap.size + 1, 1, none⟩ (.int .i64 0)).setCell ⟨w.heap.size + 1, 2, none⟩ (.string ⟨#[]⟩)).setCell ⟨w.heap.size + 1, 3, none⟩ (.int .i64 0)).setCell ⟨w.heap.size + 1, 4, none⟩ (.int .i64 0)).setCell ⟨w.heap.size + 1, 5, none⟩ (.slice va es.length vc))) := (Below.setCell (Below.setCell (Below.setCell (Below.setCell (Below.setCell (Below.setCell (Below.setCell HB1.out.1 (p := ⟨w.heap.size + 1 + 1, 5, none⟩) (by show w.heap.size ≤ w.heap.size + 1 + 1; omega) _) (p := ⟨w.heap.size + 1, 0, none⟩) (Nat.le_succ _) _) (p := ⟨w.heap.size + 1, 1, none⟩) (Nat.le_succ _) _) (p := ⟨w.heap.size + 1, 2, none⟩) (Nat.le_succ _) _) (p := ⟨w.heap.size + 1, 3, none⟩) (Nat.le_succ _) _) (p := ⟨w.heap.size + 1, 4, none⟩) (Nat.le_succ _) _) (p := ⟨w.heap.size + 1, 5, none⟩) (Nat.le_succ _) _)
 have hfr : ∀ k, k ≠ w.heap.size + 1 → ((((((((w1.setCell ⟨w.heap.size + 1 + 1, 5, none⟩ (.slice va es.length vc)).setCell ⟨w.heap.size + 1, 0, none⟩ (.int .i64 d.kind)).setCell ⟨w.heap.size + 1, 1, none⟩ (.int .i64 0)).setCell ⟨w.heap.size + 1, 2, none⟩ (.string ⟨#[]⟩)).setCell ⟨w.heap.size + 1, 3, none⟩ (.int .i64 0)).setCell ⟨w.heap.size + 1, 4, none⟩ (.int .i64 0)).setCell ⟨w.heap.size + 1, 5, none⟩ (.slice va es.length vc))).heap[k]? = (w1.setCell ⟨w.heap.size + 1 + 1, 5, none⟩ (.slice va es.length vc)).heap[k]? := fun k hk => six_far hk _ _ _ _ _ _
 have hsz : ((((((((w1.setCell ⟨w.heap.size + 1 + 1, 5, none⟩ (.slice va es.length vc)).setCell ⟨w.heap.size + 1, 0, none⟩ (.int .i64 d.kind)).setCell ⟨w.heap.size + 1, 1, none⟩ (.int .i64 0)).setCell ⟨w.heap.size + 1, 2, none⟩ (.string ⟨#[]⟩)).setCell ⟨w.heap.size + 1, 3, none⟩ (.int .i64 0)).setCell ⟨w.heap.size + 1, 4, none⟩ (.int .i64 0)).setCell ⟨w.heap.size + 1, 5, none⟩ (.slice va es.length vc))).heap.size = (w1.setCell ⟨w.heap.size + 1 + 1, 5, none⟩ (.slice va es.length vc)).heap.size := by simp
 generalize ((((((((w1.setCell ⟨w.heap.size + 1 + 1, 5, none⟩ (.slice va es.length vc)).setCell ⟨w.heap.size + 1, 0, none⟩ (.int .i64 d.kind)).setCell ⟨w.heap.size + 1, 1, none⟩ (.int .i64 0)).setCell ⟨w.heap.size + 1, 2, none⟩ (.string ⟨#[]⟩)).setCell ⟨w.heap.size + 1, 3, none⟩ (.int .i64 0)).setCell ⟨w.heap.size + 1, 4, none⟩ (.int .i64 0)).setCell ⟨w.heap.size + 1, 5, none⟩ (.slice va es.length vc))) = Wf at hk hbF hfr hsz ⊢
 have k0 : Wf.cell? ⟨w.heap.size + 1, 0, none⟩ = some (.int .i64 d.kind) := (cellO hk).trans rfl
 have k1 : Wf.cell? ⟨w.heap.size + 1, 1, none⟩ = some (.int .i64 0) := (cellO hk).trans rfl
 have k2 : Wf.cell? ⟨w.heap.size + 1, 2, none⟩ = some (.string ⟨#[]⟩) := (cellO hk).trans rfl
 have k3 : Wf.cell? ⟨w.heap.size + 1, 3, none⟩ = some (.int .i64 0) := (cellO hk).trans rfl
 have k4 : Wf.cell? ⟨w.heap.size + 1, 4, none⟩ = some (.int .i64 0) := (cellO hk).trans rfl
 have k5 : Wf.cell? ⟨w.heap.size + 1, 5, none⟩ = some (.slice va es.length vc) := (cellO hk).trans rfl
 refine bodyPost_ret (v := .agg #[.int .i64 d.kind, .int .i64 0, .string ⟨#[]⟩, .int .i64 0, .int .i64 0, .slice va es.length vc]) (by simp [results, Tryz.results118, go_sem, k0, k1, k2, k3, k4, k5]) rfl ⟨hbF, va, vc, es, rfl, HES.out.1, HES.out.2.far (fun k hk => (hfr k (by omega)).trans (Below.heap_setCell _ _ _ _ (show k ≠ w.heap.size + 1 + 1 by omega))) (by rw [hsz]; simp)⟩
theorem bare_num {d : Dat} (h : d.kind = 1 ∨ d.kind = 2) : bareQ d = ⟨d.kind, d.n, ⟨#[]⟩, 0, 0, []⟩ := by
 cases d with
 | mk k n nm st lb ks =>
  rw [bareQ]
  have h' : k = 1 ∨ k = 2 := h
  have h3 : ¬ k = 3 := by omega
  have h4 : ¬ k = 4 := by omega
  simp [h', h3, h4]
theorem bare_sym {d : Dat} (h : d.kind = 3) : bareQ d = ⟨d.kind, 0, d.name, 0, 0, []⟩ := by
 cases d with
 | mk k n nm st lb ks =>
  rw [bareQ]
  have h' : k = 3 := h
  subst h'
  simp
theorem bare_list {d : Dat} (h : d.kind = 4) : bareQ d = ⟨d.kind, 0, ⟨#[]⟩, 0, 0, bareQL d.kids⟩ := by
 cases d with
 | mk k n nm st lb ks =>
  rw [bareQ]
  have h' : k = 4 := h
  subst h'
  simp
theorem bare_else {d : Dat} (h1 : ¬ d.kind = 1) (h2 : ¬ d.kind = 2) (h3 : ¬ d.kind = 3) (h4 : ¬ d.kind = 4) : bareQ d = ⟨d.kind, 0, ⟨#[]⟩, 0, 0, []⟩ := by
 cases d with
 | mk k n nm st lb ks =>
  rw [bareQ]
  have a1 : ¬ k = 1 := h1
  have a2 : ¬ k = 2 := h2
  have a3 : ¬ k = 3 := h3
  have a4 : ¬ k = 4 := h4
  simp [a1, a2, a3, a4]
theorem copiedOne_any (B : Nat) : ∀ (f : Nat) (d : Dat) (a : Option Addr) (cap : Nat) (w : World), B ≤ w.heap.size → Dc (fun k => k < B) w f a d.kids → d.kids.length ≤ cap → okD d → Calls Tryz.prog 118 #[dv d a cap] w (CopT d w)
 | f, d, a, cap, w, hB, hd, hc, ho => by
  unfold CopT
  by_cases h1 : d.kind = 1
  ·rw [bare_num (Or.inl h1)]
   exact (cop_num1 d a d.kids.length cap w h1).mono (by rintro e w' ⟨h, rfl⟩; exact ⟨h, none, 0, 0, rfl, Nat.le_refl _, rfl⟩)
  by_cases h2 : d.kind = 2
  ·rw [bare_num (Or.inr h2)]
   exact (cop_num2 d a d.kids.length cap w h2).mono (by rintro e w' ⟨h, rfl⟩; exact ⟨h, none, 0, 0, rfl, Nat.le_refl _, rfl⟩)
  by_cases h3 : d.kind = 3
  ·rw [bare_sym h3]
   exact (cop_sym d a d.kids.length cap w h3 (okD_big ho h3)).mono (by rintro e w' ⟨h, rfl⟩; exact ⟨h, none, 0, 0, rfl, Nat.le_refl _, rfl⟩)
  by_cases h4 : d.kind = 4
  ·rw [bare_list h4]
   obtain ⟨o1, o2⟩ := okD_list ho h4
   refine (cop_list d a d.kids.length cap w (bareQL d.kids) h4 (fun W hb => copied_over B f d.kids a cap W (Nat.le_trans hB hb.size) (hd.below (hb.mono hB)) o1 hc (fun x hx g a' cap' W' hb' hf hlk hk => ?_))).mono ?_
   ·exact copiedOne_any B g x a' cap' W' (Nat.le_trans (Nat.le_trans hB hb.size) hb'.size) hk hlk (okL_mem o2 x hx)
   rintro e w' ⟨h, va, vc, es, rfl, hes, hro⟩
   obtain ⟨a2, c2, g2, hv, hlc, hdc⟩ := hro.lie (by have := congrArg List.length hes; simp [bareQL_map] at this; omega)
   rw [hes] at hv hlc hdc
   refine ⟨h, a2, c2, g2, ?_, hlc, Dc.stay (fun _ _ => rfl) (fun k hk => ⟨by have := hk.1; omega, hk.2⟩) g2 _ _ hdc⟩
   have hv' : va = a2 ∧ es.length = (bareQL d.kids).length ∧ vc = c2 := by simpa using hv
   unfold dv
   rw [hv'.1, hv'.2.1, hv'.2.2]
  rw [bare_else h1 h2 h3 h4]
  exact (cop_else d a d.kids.length cap w h1 h2 h3 h4).mono (by rintro e w' ⟨h, rfl⟩; exact ⟨h, none, 0, 0, rfl, Nat.le_refl _, rfl⟩)
 termination_by f => f
theorem copied_any (B f : Nat) (ds : List Dat) (a : Option Addr) (cap : Nat) (w : World) (hB : B ≤ w.heap.size) (hd : Dc (fun k => k < B) w f a ds) (hn : ds.length ≤ 2000) (hc : ds.length ≤ cap) (ho : okL ds) :
 Calls Tryz.prog 88 #[.slice a ds.length cap] w fun e w' => Below w.heap.size w w' ∧ ∃ v es, e = .returned v ∧ es.map (·.1) = bareQL ds ∧ RowC w.heap.size v es w' :=
 copied_over B f ds a cap w hB hd hn hc (fun x hx g a' cap' W hb hf hlk hk => copiedOne_any B g x a' cap' W (Nat.le_trans hB hb.size) hk hlk (okL_mem ho x hx))
def Fre (B pb : Nat) (ev iv bv : Value) (w : World) (k : Nat) : Prop := (B ≤ k ∧ k ≠ pb + 2) ∧ k < w.heap.size ∧ k ≠ pb ∧ some k ≠ ev.ownBlock ∧ some k ≠ iv.ownBlock ∧ some k ≠ bv.ownBlock
def flatE (l : List (ByteArray × ByteArray)) : List Value := l.flatMap fun p => [.string p.1, .string p.2]
structure IE where
 s : Se
 nv : Value
 av : Value
 kv : Value
def IE.cells (e : IE) : List Value := match e.s with
 | .mk k nm _ _ p _ => [.int .i64 k, .string nm, e.nv, e.av, .string p, e.kv]
def IE.ok (ok : Nat → Prop) (w : World) (e : IE) : Prop := match e.s with
 | .mk _ _ ns as_ _ ks => SV ok ns e.nv w ∧ SV ok as_ e.av w ∧ SeL ok w ks e.kv
def flatI (l : List IE) : List Value := l.flatMap IE.cells
structure PSx (B pb : Nat) (f1 f2 f3 : Value) (nm : ByteArray) (ex : List (ByteArray × ByteArray)) (is : List IE) (es : List (Dat × Option Addr × Nat)) (ev iv bv : Value) (w : World) : Prop where
 hB : B ≤ pb
 rl : pb + 2 < w.heap.size
 blk : w.heap[pb]? = some (.cells #[f1, f2, f3, .string nm, ev, iv, bv] 57 (0, 0))
 eo : w.ownsRow B 70 2 ev ex.length (flatE ex)
 io : w.ownsRow B 73 6 iv is.length (flatI is)
 bo : w.ownsRow B 26 6 bv es.length (flat es)
 ik : ∀ e ∈ is, e.ok (Fre B pb ev iv bv w) w
 bk : ∀ e ∈ es, e.1.name.size ≤ maxLen ∧ e.1.kids.length ≤ e.2.2 ∧ ∃ f, Dc (Fre B pb ev iv bv w) w f e.2.1 e.1.kids
def PS (B pb : Nat) (f1 f2 f3 : Value) (s : LibS) (w : World) : Prop := ∃ is es ev iv bv, PSx B pb f1 f2 f3 s.name s.exports is es ev iv bv w ∧ is.map IE.s = s.imports ∧ es.map (·.1) = s.body
theorem IE.stay {ok ok' : Nat → Prop} {w w' : World} {e : IE} (h : e.ok ok w) (hw : ∀ k, ok k → w'.heap[k]? = w.heap[k]?) (ho : ∀ k, ok k → ok' k) : e.ok ok' w' := by
 obtain ⟨s, nv, av, kv⟩ := e
 cases s with
 | mk k nm ns as_ p ks =>
  obtain ⟨h1, h2, h3⟩ := h
  exact ⟨h1.stay hw ho, h2.stay hw ho, h3.stay hw ho⟩
theorem PSx.below {B pb : Nat} {f1 f2 f3 : Value} {nm : ByteArray} {ex : List (ByteArray × ByteArray)} {is : List IE} {es : List (Dat × Option Addr × Nat)} {ev iv bv : Value} {w w' : World} (h : PSx B pb f1 f2 f3 nm ex is es ev iv bv w) (hb : Below w.heap.size w w') : PSx B pb f1 f2 f3 nm ex is es ev iv bv w' := by
 have st : ∀ k, Fre B pb ev iv bv w k → w'.heap[k]? = w.heap[k]? := fun k hk => hb.block k hk.2.1
 have up : ∀ k, Fre B pb ev iv bv w k → Fre B pb ev iv bv w' k := fun k hk => ⟨hk.1, Nat.lt_of_lt_of_le hk.2.1 hb.size, hk.2.2⟩
 exact ⟨h.hB, Nat.lt_of_lt_of_le h.rl hb.size, (hb.block pb (Array.getElem?_eq_some_iff.1 h.blk).1).trans h.blk, own_below h.eo hb, own_below h.io hb, own_below h.bo hb, fun e he => IE.stay (h.ik e he) st up, fun e he => by
  obtain ⟨h1, h2, f, h3⟩ := h.bk e he
  exact ⟨h1, h2, f, Dc.stay st up f _ _ h3⟩⟩
theorem PS.below {B pb : Nat} {f1 f2 f3 : Value} {s : LibS} {w w' : World} (h : PS B pb f1 f2 f3 s w) (hb : Below w.heap.size w w') : PS B pb f1 f2 f3 s w' := by
 obtain ⟨is, es, ev, iv, bv, h1, h2, h3⟩ := h
 exact ⟨is, es, ev, iv, bv, h1.below hb, h2, h3⟩
theorem PSx.hs {B pb : Nat} {f1 f2 f3 : Value} {nm : ByteArray} {ex : List (ByteArray × ByteArray)} {is : List IE} {es : List (Dat × Option Addr × Nat)} {ev iv bv : Value} {w : World} (h : PSx B pb f1 f2 f3 nm ex is es ev iv bv w) : B ≤ w.heap.size := by
 have := (Array.getElem?_eq_some_iff.1 h.blk).1
 have := h.hB
 omega
theorem PSx.fresh {B pb : Nat} {f1 f2 f3 : Value} {nm : ByteArray} {ex : List (ByteArray × ByteArray)} {is : List IE} {es : List (Dat × Option Addr × Nat)} {ev iv bv : Value} {w w' : World} (h : PSx B pb f1 f2 f3 nm ex is es ev iv bv w) {k : Nat} (h1 : w.heap.size ≤ k) (h2 : k < w'.heap.size) : Fre B pb ev iv bv w' k := by
 have hp := (Array.getElem?_eq_some_iff.1 h.blk).1
 refine ⟨⟨Nat.le_trans h.hs h1, by have := h.rl; omega⟩, h2, by omega, fun e => ?_, fun e => ?_, fun e => ?_⟩
 ·have := (own_typeL h.eo k e.symm).2.1; omega
 ·have := (own_typeL h.io k e.symm).2.1; omega
 have := (own_typeL h.bo k e.symm).2.1; omega
theorem own_ne {w : World} {B B' s s' n n' k k' : Nat} {t t' : TypeId} {v v' : Value} {xs xs' : List Value} (h : w.ownsRow B t s v n xs) (h' : w.ownsRow B' t' s' v' n' xs') (ht : t ≠ t') (hk : v.ownBlock = some k) (hk' : v'.ownBlock = some k') : k ≠ k' := by
 rintro rfl
 obtain ⟨_, _, cs, h1⟩ := own_typeL h k hk
 obtain ⟨_, _, cs', h2⟩ := own_typeL h' k hk'
 rw [h1] at h2
 simp at h2
 exact ht h2.2
theorem own_pb {w : World} {B s n k pb : Nat} {t : TypeId} {v : Value} {xs : List Value} {cs : Array Value} (h : w.ownsRow B t s v n xs) (hp : w.heap[pb]? = some (.cells cs 57 (0, 0))) (ht : t ≠ 57) (hk : v.ownBlock = some k) : k ≠ pb := by
 rintro rfl
 obtain ⟨_, _, cs', h2⟩ := own_typeL h k hk
 rw [hp] at h2
 simp at h2
 exact ht h2.2.symm
structure BT (B : Nat) (w w' : World) : Prop extends Below B w w' where
 ty : ∀ (k : Nat) (cs : Array Value), w.heap[k]? = some (.cells cs 30 (0, 0)) → w'.heap[k]? = some (.cells cs 30 (0, 0))
theorem BT.refl (B : Nat) (w : World) : BT B w w := ⟨Below.refl _ _, fun _ _ h => h⟩
theorem BT.trans {B : Nat} {a b c : World} (h : BT B a b) (h' : BT B b c) : BT B a c := ⟨h.toBelow.trans h'.toBelow, fun k cs hk => h'.ty k cs (h.ty k cs hk)⟩
theorem _root_.Go.RowKit.Below.bt {B : Nat} {w w' : World} (h : Below w.heap.size w w') (hB : B ≤ w.heap.size) : BT B w w' := ⟨h.mono hB, fun k cs hk => (h.block k (Array.getElem?_eq_some_iff.1 hk).1).trans hk⟩
theorem kt_grow {w1 w2 : World} {B t s n pb q : Nat} {v v' : Value} {xs : List Value} {cs : Array Value} (hown : w1.ownsRow B t s v n xs) (ht : t ≠ 30) (hblk : w1.heap[pb]? = some (.cells cs 57 (0, 0))) (hgrow : w1.grownBy w2 v.ownBlock) : ∀ (k : Nat) (cs : Array Value), w1.heap[k]? = some (.cells cs 30 (0, 0)) → (w2.setCell ⟨pb, q, none⟩ v').heap[k]? = some (.cells cs 30 (0, 0)) := by
 intro k cs' hk
 have h1 : k ≠ pb := by
  rintro rfl
  rw [hblk] at hk
  simp at hk
 have h2 : some k ≠ v.ownBlock := by
  intro e
  obtain ⟨_, _, cs2, h3⟩ := own_typeL hown k e.symm
  rw [hk] at h3
  simp at h3
  exact ht h3.2.symm
 rw [Below.heap_setCell _ _ _ _ (show k ≠ pb from h1)]
 exact (hgrow.block k (Array.getElem?_eq_some_iff.1 hk).1 h2).trans hk
theorem run_row {P : Program} (w : World) (base : Nat) (t ty e : TypeId) (i : TypeInfo) (z : Value) (size bytes : Nat) (ht : P.underlying t = some (.slice e)) (hi : P.info? e = some i) (hz : i.zero = some z)
 (hsize : i.size = size) (hby : i.bytes = bytes) (hzs : z.cells.size = size) (hsz : 0 < size)
 (v : Value) (n : Nat) (xs : List Value) (hown : w.ownsRow base e size v n xs)
 (xa : Option Addr) (m c : Nat) (news : List Value) (hl : news.length = m * size) (hsrc : m = 0 ∨ ∃ b o, xa = some ⟨b, o, none⟩ ∧ ∀ j u, news[j]? = some u → w.cell? ⟨b, o + j, none⟩ = some u) (h1 : ∀ u ∈ news, u.oneCell' = true)
 (h63 : n + m ≤ maxLen) (hbytes : (n + m) * bytes ≤ 140737488355328) (hbase : base ≤ w.heap.size) :
 ∃ v' w', (Builtin.append_ #[t, t] ty #[v, .slice xa m c]).run P w = .ok v' w' ∧ w'.ownsRow base e size v' (n + m) (xs ++ news) ∧ w.grownBy w' v.ownBlock ∧ (v'.ownBlock = v.ownBlock ∨ v'.ownBlock = some w.heap.size) := by
 by_cases hm : m = 0
 ·subst hm
  have hn0 : news = [] := List.length_eq_zero_iff.1 (by simpa using hl)
  subst hn0
  obtain ⟨va, vc, rfl, hvc⟩ : ∃ va vc, v = .slice va n vc ∧ n ≤ vc := by
   rcases hown.2 with ⟨rfl, rfl⟩ | ⟨g, cap, cur, rfl, hbg, hg, hnc, hcm, hcs, htake⟩
   ·exact ⟨none, 0, rfl, Nat.le_refl _⟩
   exact ⟨_, cap, rfl, hnc⟩
  have hr2 : (Builtin.append_ #[t, t] ty #[.slice va n vc, .slice xa 0 c]).run P w = .ok (.slice va n vc) w := by
   refine run_append_nothing w t t ty e i ht hi va n vc hvc (.slice xa 0 c) ?_
   cases xa with
   | none => exact Src.ofNil w ht c
   | some a => exact Src.ofSlice w ht a 0 c [] (by simp) (by simp) (by simp)
  exact ⟨_, _, hr2, by simpa using hown, ⟨rfl, rfl, rfl, Nat.le_refl _, fun _ _ _ => rfl⟩, Or.inl rfl⟩
 rcases hsrc with h0 | ⟨b, o, rfl, hc⟩
 ·exact absurd h0 hm
 exact run_append_where (P := P) w base t ty e i z size bytes ht hi hz hsize hby hzs hsz v n xs hown ⟨b, o, none⟩ m c news hl (fun j u hu => by
  have hadd : (⟨b, o, none⟩ : Addr).add j = ⟨b, o + j, none⟩ := by unfold Addr.add; split <;> simp_all
  rw [hadd]
  exact hc j u hu) h1 (by omega) h63 hbytes hbase
theorem wpList_row {P : Program} {w : World} {ops : Array Oper} {rest : List Oper} {o : Oper} {a : Act} {Q : Exit → Act → World → Prop} (hgd : o.guard = none) (s x : Operand) (t : TypeId)
 (ho : o.op = .call { callee := .builtin .append, args := #[s, x], argTypes := #[t, t] })
 (base : Nat) (e : TypeId) (i : TypeInfo) (z : Value) (size bytes : Nat) (ht : P.underlying t = some (.slice e)) (hi : P.info? e = some i) (hz : i.zero = some z)
 (hsize : i.size = size) (hby : i.bytes = bytes) (hzs : z.cells.size = size) (hsz : 0 < size)
 (v : Value) (n : Nat) (xs : List Value) (hs : a.eval s = v) (hown : w.ownsRow base e size v n xs)
 (xa : Option Addr) (m c : Nat) (news : List Value) (hx : a.eval x = .slice xa m c) (hl : news.length = m * size) (hsrc : m = 0 ∨ ∃ b o, xa = some ⟨b, o, none⟩ ∧ ∀ j u, news[j]? = some u → w.cell? ⟨b, o + j, none⟩ = some u) (h1 : ∀ u ∈ news, u.oneCell' = true)
 (h63 : n + m ≤ maxLen) (hbytes : (n + m) * bytes ≤ 140737488355328) (hbase : base ≤ w.heap.size)
 (h : ∀ v' w', w'.ownsRow base e size v' (n + m) (xs ++ news) → w.grownBy w' v.ownBlock → (v'.ownBlock = v.ownBlock ∨ v'.ownBlock = some w.heap.size) → wpList P ops Q rest (a.put o.dst v') w') : wpList P ops Q (o :: rest) a w := by
 refine wpList_plain hgd fun _ hK => ?_
 obtain ⟨v', w', hr, h2, h3, h4⟩ := run_row (P := P) w base t o.type e i z size bytes ht hi hz hsize hby hzs hsz v n xs hown xa m c news hl hsrc h1 h63 hbytes hbase
 unfold Oper.wp execOp
 simp only [ho, resolve, invoke, builtin, Sem.run_bind, Sem.run_pure, Result.andThen_ok, List.map_toArray, List.map_cons, List.map_nil, hs, hx, hr]
 exact hK _ _ (h v' w' h2 h3 h4)
theorem PSx.exps {B pb : Nat} {f1 f2 f3 : Value} {nm : ByteArray} {ex : List (ByteArray × ByteArray)} {is : List IE} {es : List (Dat × Option Addr × Nat)} {new : List (ByteArray × ByteArray)} {ev iv bv v' : Value} {n : Nat} {w1 w2 : World} (h : PSx B pb f1 f2 f3 nm ex is es ev iv bv w1)
 (hown : w2.ownsRow B 70 2 v' n (flatE (ex ++ new))) (hlen : n = (ex ++ new).length) (hgrow : w1.grownBy w2 ev.ownBlock) (hat : v'.ownBlock = ev.ownBlock ∨ v'.ownBlock = some w1.heap.size) :
 PSx B pb f1 f2 f3 nm (ex ++ new) is es v' iv bv (w2.setCell ⟨pb, 4, none⟩ v') ∧ Below B w1 (w2.setCell ⟨pb, 4, none⟩ v') := by
 subst hlen
 have hpl := (Array.getElem?_eq_some_iff.1 h.blk).1
 have hpb2 : w2.heap[pb]? = some (.cells #[f1, f2, f3, .string nm, ev, iv, bv] 57 (0, 0)) := (hgrow.block pb hpl (fun e => own_pb h.eo h.blk (by decide) e.symm rfl)).trans h.blk
 have hblk : (w2.setCell ⟨pb, 4, none⟩ v').heap[pb]? = some (.cells #[f1, f2, f3, .string nm, v', iv, bv] 57 (0, 0)) := cell_setL hpb2 _
 have far : ∀ k, k < w1.heap.size → k ≠ pb → some k ≠ ev.ownBlock → (w2.setCell ⟨pb, 4, none⟩ v').heap[k]? = w1.heap[k]? := fun k h1 h2 h3 => (Below.heap_setCell _ _ _ _ (show k ≠ pb from h2)).trans (hgrow.block k h1 h3)
 have hgp : ∀ g, v'.ownBlock = some g → g ≠ pb := fun g hg => by
  rcases hat with e | e
  ·exact own_pb h.eo h.blk (by decide) (e.symm.trans hg)
  rw [e] at hg
  cases hg
  omega
 have hsz : (w2.setCell ⟨pb, 4, none⟩ v').heap.size = w2.heap.size := by simp
 have st : ∀ k, Fre B pb ev iv bv w1 k → (w2.setCell ⟨pb, 4, none⟩ v').heap[k]? = w1.heap[k]? := fun k hk => far k hk.2.1 hk.2.2.1 hk.2.2.2.1
 have up : ∀ k, Fre B pb ev iv bv w1 k → Fre B pb v' iv bv (w2.setCell ⟨pb, 4, none⟩ v') k := fun k hk => by
  refine ⟨hk.1, by rw [hsz]; exact Nat.lt_of_lt_of_le hk.2.1 hgrow.size, hk.2.2.1, fun e => ?_, hk.2.2.2.2.1, hk.2.2.2.2.2⟩
  rcases hat with e' | e'
  ·exact hk.2.2.2.1 (e.trans e')
  rw [e'] at e
  cases e
  have := hk.2.1
  omega
 exact ⟨⟨h.hB, by rw [hsz]; exact Nat.lt_of_lt_of_le h.rl hgrow.size, hblk, own_keepL hown (fun q hq => Below.heap_setCell _ _ _ _ (show q ≠ pb from hgp q hq)), own_keepL h.io (fun q hq => far q (own_typeL h.io q hq).2.1 (own_pb h.io h.blk (by decide) hq) (fun e => own_ne h.io h.eo (by decide) hq e.symm rfl)), own_keepL h.bo (fun q hq => far q (own_typeL h.bo q hq).2.1 (own_pb h.bo h.blk (by decide) hq) (fun e => own_ne h.bo h.eo (by decide) hq e.symm rfl)), fun e he => IE.stay (h.ik e he) st up, fun e he => by
  obtain ⟨a1, a2, f, a3⟩ := h.bk e he
  exact ⟨a1, a2, f, Dc.stay st up f _ _ a3⟩⟩, (grown_below hgrow h.hs (fun q hq => (own_typeL h.eo q hq).1)).setCell (p := ⟨pb, 4, none⟩) h.hB _⟩
theorem PSx.body {B pb : Nat} {f1 f2 f3 : Value} {nm : ByteArray} {ex : List (ByteArray × ByteArray)} {is : List IE} {es : List (Dat × Option Addr × Nat)} {new : List (Dat × Option Addr × Nat)} {ev iv bv v' : Value} {n : Nat} {w1 w2 : World} (h : PSx B pb f1 f2 f3 nm ex is es ev iv bv w1) (hn : ∀ e ∈ new, e.1.name.size ≤ maxLen ∧ e.1.kids.length ≤ e.2.2 ∧ ∃ f, Dc (Fre B pb ev iv bv w1) w1 f e.2.1 e.1.kids)
 (hown : w2.ownsRow B 26 6 v' n (flat (es ++ new))) (hlen : n = (es ++ new).length) (hgrow : w1.grownBy w2 bv.ownBlock) (hat : v'.ownBlock = bv.ownBlock ∨ v'.ownBlock = some w1.heap.size) :
 PSx B pb f1 f2 f3 nm ex is (es ++ new) ev iv v' (w2.setCell ⟨pb, 6, none⟩ v') ∧ Below B w1 (w2.setCell ⟨pb, 6, none⟩ v') := by
 subst hlen
 have hpl := (Array.getElem?_eq_some_iff.1 h.blk).1
 have hpb2 : w2.heap[pb]? = some (.cells #[f1, f2, f3, .string nm, ev, iv, bv] 57 (0, 0)) := (hgrow.block pb hpl (fun e => own_pb h.bo h.blk (by decide) e.symm rfl)).trans h.blk
 have hblk : (w2.setCell ⟨pb, 6, none⟩ v').heap[pb]? = some (.cells #[f1, f2, f3, .string nm, ev, iv, v'] 57 (0, 0)) := cell_setL hpb2 _
 have far : ∀ k, k < w1.heap.size → k ≠ pb → some k ≠ bv.ownBlock → (w2.setCell ⟨pb, 6, none⟩ v').heap[k]? = w1.heap[k]? := fun k h1 h2 h3 => (Below.heap_setCell _ _ _ _ (show k ≠ pb from h2)).trans (hgrow.block k h1 h3)
 have hgp : ∀ g, v'.ownBlock = some g → g ≠ pb := fun g hg => by
  rcases hat with e | e
  ·exact own_pb h.bo h.blk (by decide) (e.symm.trans hg)
  rw [e] at hg
  cases hg
  omega
 have hsz : (w2.setCell ⟨pb, 6, none⟩ v').heap.size = w2.heap.size := by simp
 have st : ∀ k, Fre B pb ev iv bv w1 k → (w2.setCell ⟨pb, 6, none⟩ v').heap[k]? = w1.heap[k]? := fun k hk => far k hk.2.1 hk.2.2.1 hk.2.2.2.2.2
 have up : ∀ k, Fre B pb ev iv bv w1 k → Fre B pb ev iv v' (w2.setCell ⟨pb, 6, none⟩ v') k := fun k hk => by
  refine ⟨hk.1, by rw [hsz]; exact Nat.lt_of_lt_of_le hk.2.1 hgrow.size, hk.2.2.1, hk.2.2.2.1, hk.2.2.2.2.1, fun e => ?_⟩
  rcases hat with e' | e'
  ·exact hk.2.2.2.2.2 (e.trans e')
  rw [e'] at e
  cases e
  have := hk.2.1
  omega
 exact ⟨⟨h.hB, by rw [hsz]; exact Nat.lt_of_lt_of_le h.rl hgrow.size, hblk, own_keepL h.eo (fun q hq => far q (own_typeL h.eo q hq).2.1 (own_pb h.eo h.blk (by decide) hq) (fun e => own_ne h.eo h.bo (by decide) hq e.symm rfl)), own_keepL h.io (fun q hq => far q (own_typeL h.io q hq).2.1 (own_pb h.io h.blk (by decide) hq) (fun e => own_ne h.io h.bo (by decide) hq e.symm rfl)), own_keepL hown (fun q hq => Below.heap_setCell _ _ _ _ (show q ≠ pb from hgp q hq)), fun e he => IE.stay (h.ik e he) st up, fun e he => by
  rcases List.mem_append.1 he with he | he
  ·obtain ⟨a1, a2, f, a3⟩ := h.bk e he
   exact ⟨a1, a2, f, Dc.stay st up f _ _ a3⟩
  obtain ⟨a1, a2, f, a3⟩ := hn e he
  exact ⟨a1, a2, f, Dc.stay st up f _ _ a3⟩⟩, (grown_below hgrow h.hs (fun q hq => (own_typeL h.bo q hq).1)).setCell (p := ⟨pb, 6, none⟩) h.hB _⟩
theorem flat_len : ∀ (es : List (Dat × Option Addr × Nat)), (flat es).length = es.length * 6
 | [] => rfl
 | e :: r => by
  show (_ ++ flat r).length = _
  rw [List.length_append, flat_len r]
  simp
  omega
theorem flat_one (es : List (Dat × Option Addr × Nat)) : ∀ u ∈ flat es, u.oneCell' = true := by
 intro u hu
 unfold flat at hu
 obtain ⟨e, _, hu⟩ := List.mem_flatMap.1 hu
 simp at hu
 rcases hu with rfl | rfl | rfl | rfl | rfl | rfl <;> rfl
theorem flat_append (a b : List (Dat × Option Addr × Nat)) : flat (a ++ b) = flat a ++ flat b := by simp [flat]
theorem add_many (B pb : Nat) (f1 f2 f3 : Value) (s : LibS) (la : Option Addr) (ln lc : Nat) (w : World) (h : PS B pb f1 f2 f3 s w) (hb9 : s.body.length ≤ 200) (hl9 : ln ≤ 2000) (hm : 200 < s.body.length + ln) :
 Calls Tryz.prog 109 #[.pointer (some ⟨pb, 0, none⟩), .slice la ln lc] w fun e w' => Below w.heap.size w w' ∧ e = .panicked (thrownL 5) := by
 obtain ⟨is, es, ev, iv, bv, h1, h2, h3⟩ := h
 have hel : es.length = s.body.length := by rw [← h3]; simp
 obtain ⟨ba, bc, rfl, hbc⟩ := own_sliceL h1.bo
 have c6 : w.cell? ⟨pb, 6, none⟩ = some (.slice ba es.length bc) := (cellO h1.blk).trans rfl
 have HN := hidd (must_no 5)
 have k1 : es.length ≤ 200 := by omega
 have k2 : decide ((es.length : Int) + (ln : Int) ≤ 200) = false := by simp; omega
 have k3 : ¬ ((es.length : Int) + (ln : Int) ≤ 200) := by omega
 clear h1 h2 h3 hm hb9 hbc hel
 generalize es.length = n at *
 go_enter Tryz.func109, Tryz.ntmps109
 go_wp2_with fail
 refine (HN.out _).mono ?_
 rintro e w1 ⟨rfl, rfl⟩
 go_wp2_with fail
 exact ⟨rfl, Below.refl _ _, rfl⟩
theorem add_ok (B pb : Nat) (f1 f2 f3 : Value) (s : LibS) (la : Option Addr) (es2 : List (Dat × Option Addr × Nat)) (lc : Nat) (w : World) (h : PS B pb f1 f2 f3 s w) (hm : s.body.length + es2.length ≤ 200) (hsrc : es2.length = 0 ∨ ∃ b o, la = some ⟨b, o, none⟩ ∧ ∀ j u, (flat es2)[j]? = some u → w.cell? ⟨b, o + j, none⟩ = some u)
 (hk : ∀ ev iv bv is es, PSx B pb f1 f2 f3 s.name s.exports is es ev iv bv w → ∀ e ∈ es2, e.1.name.size ≤ maxLen ∧ e.1.kids.length ≤ e.2.2 ∧ ∃ f, Dc (Fre B pb ev iv bv w) w f e.2.1 e.1.kids) :
 Calls Tryz.prog 109 #[.pointer (some ⟨pb, 0, none⟩), .slice la es2.length lc] w fun e w' => BT B w w' ∧ e = .returned (.tuple #[]) ∧ PS B pb f1 f2 f3 { s with body := s.body ++ es2.map (·.1) } w' := by
 obtain ⟨is, es, ev, iv, bv, h1, h2, h3⟩ := h
 have hk1 := hk ev iv bv is es h1
 have hel : es.length = s.body.length := by rw [← h3]; simp
 obtain ⟨ba, bc, rfl, hbc⟩ := own_sliceL h1.bo
 have c6 : w.cell? ⟨pb, 6, none⟩ = some (.slice ba es.length bc) := (cellO h1.blk).trans rfl
 have HY := hidd (must_yes 5)
 have k1 : es.length ≤ 200 := by omega
 have k4 : es2.length ≤ 200 := by omega
 have k2 : decide ((es.length : Int) + (es2.length : Int) ≤ 200) = true := by simp; omega
 have k3 : (es.length : Int) + (es2.length : Int) ≤ 200 := by omega
 have H1 := hidd h1
 have HK := hidd hk1
 have HSRC := hidd hsrc
 have HE : Hid (is.map IE.s = s.imports ∧ es.map (·.1) = s.body) := ⟨h2, h3⟩
 have hB := h1.hs
 obtain ⟨i0, hinf, hz0, hz1, hz2⟩ := info_partsL infoDatL
 clear h1 h2 h3 hm hbc hel hk hk1 hsrc
 go_enter Tryz.func109, Tryz.ntmps109
 go_wp2_with fail
 refine (HY.out _).mono ?_
 rintro e w1 ⟨rfl, hw1⟩
 rw [hw1]
 clear hw1
 go_wp2_with (at_builtin; refine wpList_row rfl _ _ 24 rfl B 26 i0 _ 6 72 Tryz.underlying24 hinf hz0 hz1 hz2 rfl (by decide) (.slice ba es.length bc) es.length (flat es) rfl (by exact H1.out.bo) la es2.length lc (flat es2) rfl (flat_len es2) HSRC.out (flat_one es2) (by unfold maxLen; omega) (by omega) hB ?_; intro v2 w2 hown hgrow hat; obtain ⟨va, vc, rfl, hvc⟩ := own_sliceL hown; have HX := hidd (And.intro (PSx.body H1.out HK.out (by rw [flat_append]; exact hown) (by simp) hgrow hat) (kt_grow (q := 6) (v' := .slice va (es.length + es2.length) vc) H1.out.bo (by decide) H1.out.blk hgrow)); have hp2 : w2.heap[pb]? = some (.cells #[f1, f2, f3, .string s.name, ev, iv, .slice ba es.length bc] 57 (0, 0)) := (hgrow.block pb (Array.getElem?_eq_some_iff.1 H1.out.blk).1 (fun e => own_pb H1.out.bo H1.out.blk (by decide) e.symm rfl)).trans H1.out.blk; have d6 : w2.cell? ⟨pb, 6, none⟩ = some (.slice ba es.length bc) := (cellO hp2).trans rfl; have z6 : w2.frozen? ⟨pb, 6, none⟩ = false := looseO hp2; clear hown hgrow hat hp2 hvc)
 go_end0
 exact ⟨⟨HX.out.1.2, HX.out.2⟩, rfl, is, es ++ es2, ev, iv, _, HX.out.1.1, HE.out.1, by rw [List.map_append, HE.out.2]⟩
end Go.Proofs.YtonafbennobgdaaGreatDoor
