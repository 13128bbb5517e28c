/- Chapter 3: what stands behind import. -/
import Derived.Test.YtonafbennobgdaaGreatDoorK12
namespace Go.Proofs.YtonafbennobgdaaGreatDoor
set_option linter.unusedVariables false
set_option linter.unusedSimpArgs false
open Go.RowKit
set_option maxRecDepth 100000
set_option maxHeartbeats 6400000

def SeT (w : World) (s : Se) (v : Value) (w' : World) : Prop := SeV (fun k => w.heap.size ≤ k ∧ k < w'.heap.size) w' s v
theorem set_boxes (d : Dat) (a : Option Addr) (kn cap : Nat) (w : World) : Below w.heap.size w ((w.alloc (.cells #[.int .i64 d.kind, .int .i64 d.n, .string d.name, .int .i64 d.stamp, .int .i64 d.lib, .slice a kn cap] 26)).alloc (.cells #[.int .i64 0, .string ⟨#[]⟩, .slice none 0 0, .slice none 0 0, .string ⟨#[]⟩, .slice none 0 0] 73)) ∧ ((w.alloc (.cells #[.int .i64 d.kind, .int .i64 d.n, .string d.name, .int .i64 d.stamp, .int .i64 d.lib, .slice a kn cap] 26)).alloc (.cells #[.int .i64 0, .string ⟨#[]⟩, .slice none 0 0, .slice none 0 0, .string ⟨#[]⟩, .slice none 0 0] 73)).heap[w.heap.size]? = some (.cells #[.int .i64 d.kind, .int .i64 d.n, .string d.name, .int .i64 d.stamp, .int .i64 d.lib, .slice a kn cap] 26 (0, 0)) ∧ ((w.alloc (.cells #[.int .i64 d.kind, .int .i64 d.n, .string d.name, .int .i64 d.stamp, .int .i64 d.lib, .slice a kn cap] 26)).alloc (.cells #[.int .i64 0, .string ⟨#[]⟩, .slice none 0 0, .slice none 0 0, .string ⟨#[]⟩, .slice none 0 0] 73)).heap[w.heap.size + 1]? = some (.cells #[.int .i64 0, .string ⟨#[]⟩, .slice none 0 0, .slice none 0 0, .string ⟨#[]⟩, .slice none 0 0] 73 (0, 0)) ∧ ((w.alloc (.cells #[.int .i64 d.kind, .int .i64 d.n, .string d.name, .int .i64 d.stamp, .int .i64 d.lib, .slice a kn cap] 26)).alloc (.cells #[.int .i64 0, .string ⟨#[]⟩, .slice none 0 0, .slice none 0 0, .string ⟨#[]⟩, .slice none 0 0] 73)).heap.size = w.heap.size + 2 := by
 refine ⟨((Below.refl _ _).alloc (Nat.le_refl _) _).alloc (by simp) _, ?_, ?_, by simp⟩
 ·rw [Below.heap_alloc _ _ _ (by simp)]; exact World.alloc_heap_new w _
 ·have := World.alloc_heap_new (w.alloc (.cells #[.int .i64 d.kind, .int .i64 d.n, .string d.name, .int .i64 d.stamp, .int .i64 d.lib, .slice a kn cap] 26)) (.cells #[.int .i64 0, .string ⟨#[]⟩, .slice none 0 0, .slice none 0 0, .string ⟨#[]⟩, .slice none 0 0] 73)
  simpa using this
theorem six_far {W : World} {M k : Nat} (hk : k ≠ M) (a0 a1 a2 a3 a4 a5 : Value) : ((((((W.setCell ⟨M, 0, none⟩ a0).setCell ⟨M, 1, none⟩ a1).setCell ⟨M, 2, none⟩ a2).setCell ⟨M, 3, none⟩ a3).setCell ⟨M, 4, none⟩ a4).setCell ⟨M, 5, none⟩ a5).heap[k]? = W.heap[k]? := by
 rw [Below.heap_setCell _ _ _ _ (by simpa using hk), Below.heap_setCell _ _ _ _ (by simpa using hk), Below.heap_setCell _ _ _ _ (by simpa using hk), Below.heap_setCell _ _ _ _ (by simpa using hk), Below.heap_setCell _ _ _ _ (by simpa using hk), Below.heap_setCell _ _ _ _ (by simpa using hk)]
theorem slice2 (b o kn cap : Nat) (h2 : 2 ≤ kn) (hc : kn ≤ cap) (w : World) : (Instr.slice 24 (.slice (some ⟨b, o, none⟩) kn cap) (some (.int .i64 2)) none none).run Tryz.prog w = .ok (.slice (if cap = 2 then some ⟨b, o, none⟩ else some ⟨b, o + 12, none⟩) (kn - 2) (cap - 2)) w := by
 have q1 : (2 : Int) ≤ (kn : Int) := by omega
 have q2 : (kn : Int) ≤ (cap : Int) := by omega
 simp [Instr.slice, run_underlying Tryz.underlying24, go_sem, h2, hc, q1, q2]
theorem set_fin {w w1 w2 w3 w4 Wf : World} {s : Se} {v0 v1 v2 v3 v4 v5 nv av : Value} {bc : Array Value} {K : Int} {ns as_ : List ByteArray} {p : ByteArray} (hs1 : w.heap.size + 2 ≤ w1.heap.size) (hs2 : w1.heap.size ≤ w2.heap.size) (hin : SeV (fun k => w1.heap.size ≤ k ∧ k < w2.heap.size) w2 s (.agg #[v0, v1, v2, v3, v4, v5]))
  (hw3 : w3 = (w2.alloc (.cells #[v0, v1, v2, v3, v4, v5] 73)).alloc (.cells bc 73)) (hb4 : Below w3.heap.size w3 w4) (hf : ∀ k, k ≠ w.heap.size + 1 → k ≠ w2.heap.size + 1 → Wf.heap[k]? = w4.heap[k]?) (hfs : Wf.heap.size = w4.heap.size) (hn : SV (fun k => w3.heap.size ≤ k ∧ k < w4.heap.size) ns nv w4) (ha : SV (fun k => w3.heap.size ≤ k ∧ k < w4.heap.size) as_ av w4) :
  SeT w (.mk K ⟨#[]⟩ ns as_ p [s]) (.agg #[.int .i64 K, .string ⟨#[]⟩, nv, av, .string p, .slice (some ⟨w2.heap.size, 0, none⟩) 1 1]) Wf := by
 have h3 : w3.heap.size = w2.heap.size + 2 := by rw [hw3]; simp
 have h4 := hb4.size
 have hin' : SeV (fun k => w.heap.size ≤ k ∧ k < Wf.heap.size) Wf s (.agg #[v0, v1, v2, v3, v4, v5]) := hin.stay (fun k hk => by
  rw [hf k (by omega) (by omega), hb4.block k (by omega), hw3, Below.heap_alloc _ _ _ (by simp; omega), Below.heap_alloc _ _ _ (by omega)]) (fun k hk => ⟨by omega, by omega⟩)
 have hS : Wf.heap[w2.heap.size]? = some (.cells #[v0, v1, v2, v3, v4, v5] 73 (0, 0)) := by
  rw [hf _ (by omega) (by omega), hb4.block _ (by omega), hw3, Below.heap_alloc _ _ _ (by simp)]
  exact World.alloc_heap_new w2 _
 have st : ∀ {l : List ByteArray} {v : Value}, SV (fun k => w3.heap.size ≤ k ∧ k < w4.heap.size) l v w4 → SV (fun k => w.heap.size ≤ k ∧ k < Wf.heap.size) l v Wf := fun h => h.stay (fun k hk => hf k (by omega) (by omega)) (fun k hk => ⟨by omega, by omega⟩)
 exact ⟨nv, av, _, rfl, st hn, st ha, SeL.one hin' ⟨by omega, by omega⟩ hS⟩
theorem set_deep (d : Dat) (a : Option Addr) (kn cap : Nat) (dp : Int) (w : World) (hd : 12 < dp) :
  Calls Tryz.prog 130 #[.agg #[.int .i64 d.kind, .int .i64 d.n, .string d.name, .int .i64 d.stamp, .int .i64 d.lib, .slice a kn cap], .int .i64 dp] w fun e w' => Below w.heap.size w w' ∧ e = .panicked (thrownL 4) := by
 obtain ⟨W0, hW0⟩ : ∃ W0, W0 = (w.alloc (.cells #[.int .i64 d.kind, .int .i64 d.n, .string d.name, .int .i64 d.stamp, .int .i64 d.lib, .slice a kn cap] 26)).alloc (.cells #[.int .i64 0, .string ⟨#[]⟩, .slice none 0 0, .slice none 0 0, .string ⟨#[]⟩, .slice none 0 0] 73) := ⟨_, rfl⟩
 obtain ⟨g1, g2, g3, g4⟩ := set_boxes d a kn cap w
 rw [← hW0] at g1 g2 g3 g4
 have HB0 : Hid (Below w.heap.size w W0 ∧ W0.heap.size = w.heap.size + 2) := ⟨g1, g4⟩
 have HX : Hid (∀ W, Below W0.heap.size W0 W → W.heap[w.heap.size]? = some (.cells #[.int .i64 d.kind, .int .i64 d.n, .string d.name, .int .i64 d.stamp, .int .i64 d.lib, .slice a kn cap] 26 (0, 0)) ∧ W.heap[w.heap.size + 1]? = some (.cells #[.int .i64 0, .string ⟨#[]⟩, .slice none 0 0, .slice none 0 0, .string ⟨#[]⟩, .slice none 0 0] 73 (0, 0))) := fun W hb => ⟨(hb.block _ (by omega)).trans g2, (hb.block _ (by omega)).trans g3⟩
 have hw0 := hW0.symm
 have y0 : W0.cell? ⟨w.heap.size, 0, none⟩ = some (.int .i64 d.kind) := (cellO g2).trans rfl
 have y1 : W0.cell? ⟨w.heap.size, 1, none⟩ = some (.int .i64 d.n) := (cellO g2).trans rfl
 have y2 : W0.cell? ⟨w.heap.size, 2, none⟩ = some (.string d.name) := (cellO g2).trans rfl
 have y3 : W0.cell? ⟨w.heap.size, 3, none⟩ = some (.int .i64 d.stamp) := (cellO g2).trans rfl
 have y4 : W0.cell? ⟨w.heap.size, 4, none⟩ = some (.int .i64 d.lib) := (cellO g2).trans rfl
 have y5 : W0.cell? ⟨w.heap.size, 5, none⟩ = some (.slice a kn cap) := (cellO g2).trans rfl
 clear g1 g2 g3 g4 hW0
 have HN := hidd (must_no 4)
 have c1 : decide (dp ≤ 12) = false := by simp; omega
 go_enter Tryz.func130, Tryz.ntmps130
 go_wp2_with fail
 refine (HN.out _).mono ?_
 rintro e wm ⟨rfl, hwm⟩
 rw [hwm]
 clear hwm
 go_wp2_with fail
 exact ⟨rfl, HB0.out.1, rfl⟩
theorem set_none (d : Dat) (a : Option Addr) (kn cap : Nat) (dp : Int) (w : World) (hd : dp ≤ 12) (HT0 : ∀ W, Calls Tryz.prog 77 #[.agg #[.int .i64 d.kind, .int .i64 d.n, .string d.name, .int .i64 d.stamp, .int .i64 d.lib, .slice a kn cap]] W fun e w' => Below W.heap.size W w' ∧ e = .panicked (thrownL 2)) :
  Calls Tryz.prog 130 #[.agg #[.int .i64 d.kind, .int .i64 d.n, .string d.name, .int .i64 d.stamp, .int .i64 d.lib, .slice a kn cap], .int .i64 dp] w fun e w' => Below w.heap.size w w' ∧ e = .panicked (thrownL 2) := by
 obtain ⟨W0, hW0⟩ : ∃ W0, W0 = (w.alloc (.cells #[.int .i64 d.kind, .int .i64 d.n, .string d.name, .int .i64 d.stamp, .int .i64 d.lib, .slice a kn cap] 26)).alloc (.cells #[.int .i64 0, .string ⟨#[]⟩, .slice none 0 0, .slice none 0 0, .string ⟨#[]⟩, .slice none 0 0] 73) := ⟨_, rfl⟩
 obtain ⟨g1, g2, g3, g4⟩ := set_boxes d a kn cap w
 rw [← hW0] at g1 g2 g3 g4
 have HB0 : Hid (Below w.heap.size w W0 ∧ W0.heap.size = w.heap.size + 2) := ⟨g1, g4⟩
 have HX : Hid (∀ W, Below W0.heap.size W0 W → W.heap[w.heap.size]? = some (.cells #[.int .i64 d.kind, .int .i64 d.n, .string d.name, .int .i64 d.stamp, .int .i64 d.lib, .slice a kn cap] 26 (0, 0)) ∧ W.heap[w.heap.size + 1]? = some (.cells #[.int .i64 0, .string ⟨#[]⟩, .slice none 0 0, .slice none 0 0, .string ⟨#[]⟩, .slice none 0 0] 73 (0, 0))) := fun W hb => ⟨(hb.block _ (by omega)).trans g2, (hb.block _ (by omega)).trans g3⟩
 have hw0 := hW0.symm
 have y0 : W0.cell? ⟨w.heap.size, 0, none⟩ = some (.int .i64 d.kind) := (cellO g2).trans rfl
 have y1 : W0.cell? ⟨w.heap.size, 1, none⟩ = some (.int .i64 d.n) := (cellO g2).trans rfl
 have y2 : W0.cell? ⟨w.heap.size, 2, none⟩ = some (.string d.name) := (cellO g2).trans rfl
 have y3 : W0.cell? ⟨w.heap.size, 3, none⟩ = some (.int .i64 d.stamp) := (cellO g2).trans rfl
 have y4 : W0.cell? ⟨w.heap.size, 4, none⟩ = some (.int .i64 d.lib) := (cellO g2).trans rfl
 have y5 : W0.cell? ⟨w.heap.size, 5, none⟩ = some (.slice a kn cap) := (cellO g2).trans rfl
 clear g1 g2 g3 g4 hW0
 have HY := hidd (must_yes 4)
 have c1 : decide (dp ≤ 12) = true := by simp; omega
 have hdp : dp ≤ 12 := by omega
 have HT := hidd HT0
 clear HT0
 go_enter Tryz.func130, Tryz.ntmps130
 go_wp2_with fail
 refine (HY.out _).mono ?_
 rintro e wm ⟨rfl, hwm⟩
 rw [hwm]
 clear hwm
 go_wp2_with fail
 refine (HT.out _).mono ?_
 rintro e w1 ⟨hb1, rfl⟩
 have HB1 : Hid (Below w.heap.size w w1) := HB0.out.1.trans (hb1.mono HB0.out.1.size)
 clear hb1
 go_wp2_with fail
 exact ⟨rfl, HB1.out, rfl⟩
theorem set_lib_no (d : Dat) (a : Option Addr) (kn cap : Nat) (dp : Int) (w : World) (hd : dp ≤ 12) (HT0 : ∀ W, Calls Tryz.prog 77 #[.agg #[.int .i64 d.kind, .int .i64 d.n, .string d.name, .int .i64 d.stamp, .int .i64 d.lib, .slice a kn cap]] W fun e w' => Below W.heap.size W w' ∧ e = .returned (.slice a kn cap)) (HK0 : ∀ W, Below w.heap.size w W → Calls Tryz.prog 143 #[.slice a kn cap] W fun e w' => e = .returned (.int .i64 1) ∧ w' = W) (x : Int) (HC0 : ∀ W, Below w.heap.size w W → Calls Tryz.prog 55 #[.agg #[.int .i64 d.kind, .int .i64 d.n, .string d.name, .int .i64 d.stamp, .int .i64 d.lib, .slice a kn cap]] W fun e w' => Below W.heap.size W w' ∧ e = .panicked (thrownL x)) :
  Calls Tryz.prog 130 #[.agg #[.int .i64 d.kind, .int .i64 d.n, .string d.name, .int .i64 d.stamp, .int .i64 d.lib, .slice a kn cap], .int .i64 dp] w fun e w' => Below w.heap.size w w' ∧ e = .panicked (thrownL x) := by
 obtain ⟨W0, hW0⟩ : ∃ W0, W0 = (w.alloc (.cells #[.int .i64 d.kind, .int .i64 d.n, .string d.name, .int .i64 d.stamp, .int .i64 d.lib, .slice a kn cap] 26)).alloc (.cells #[.int .i64 0, .string ⟨#[]⟩, .slice none 0 0, .slice none 0 0, .string ⟨#[]⟩, .slice none 0 0] 73) := ⟨_, rfl⟩
 obtain ⟨g1, g2, g3, g4⟩ := set_boxes d a kn cap w
 rw [← hW0] at g1 g2 g3 g4
 have HB0 : Hid (Below w.heap.size w W0 ∧ W0.heap.size = w.heap.size + 2) := ⟨g1, g4⟩
 have HX : Hid (∀ W, Below W0.heap.size W0 W → W.heap[w.heap.size]? = some (.cells #[.int .i64 d.kind, .int .i64 d.n, .string d.name, .int .i64 d.stamp, .int .i64 d.lib, .slice a kn cap] 26 (0, 0)) ∧ W.heap[w.heap.size + 1]? = some (.cells #[.int .i64 0, .string ⟨#[]⟩, .slice none 0 0, .slice none 0 0, .string ⟨#[]⟩, .slice none 0 0] 73 (0, 0))) := fun W hb => ⟨(hb.block _ (by omega)).trans g2, (hb.block _ (by omega)).trans g3⟩
 have hw0 := hW0.symm
 have y0 : W0.cell? ⟨w.heap.size, 0, none⟩ = some (.int .i64 d.kind) := (cellO g2).trans rfl
 have y1 : W0.cell? ⟨w.heap.size, 1, none⟩ = some (.int .i64 d.n) := (cellO g2).trans rfl
 have y2 : W0.cell? ⟨w.heap.size, 2, none⟩ = some (.string d.name) := (cellO g2).trans rfl
 have y3 : W0.cell? ⟨w.heap.size, 3, none⟩ = some (.int .i64 d.stamp) := (cellO g2).trans rfl
 have y4 : W0.cell? ⟨w.heap.size, 4, none⟩ = some (.int .i64 d.lib) := (cellO g2).trans rfl
 have y5 : W0.cell? ⟨w.heap.size, 5, none⟩ = some (.slice a kn cap) := (cellO g2).trans rfl
 clear g1 g2 g3 g4 hW0
 have HY := hidd (must_yes 4)
 have c1 : decide (dp ≤ 12) = true := by simp; omega
 have hdp : dp ≤ 12 := by omega
 have HT := hidd HT0
 have HK := hidd HK0
 have HC := hidd HC0
 clear HT0 HK0 HC0
 go_enter Tryz.func130, Tryz.ntmps130
 go_wp2_with fail
 refine (HY.out _).mono ?_
 rintro e wm ⟨rfl, hwm⟩
 rw [hwm]
 clear hwm
 go_wp2_with fail
 refine (HT.out _).mono ?_
 rintro e w1 ⟨hb1, rfl⟩
 obtain ⟨x0, x1⟩ := HX.out w1 hb1
 have HB1 : Hid (Below w.heap.size w w1 ∧ Below W0.heap.size W0 w1) := ⟨HB0.out.1.trans (hb1.mono HB0.out.1.size), hb1⟩
 have z0 : w1.cell? ⟨w.heap.size, 0, none⟩ = some (.int .i64 d.kind) := (cellO x0).trans rfl
 have z1 : w1.cell? ⟨w.heap.size, 1, none⟩ = some (.int .i64 d.n) := (cellO x0).trans rfl
 have z2 : w1.cell? ⟨w.heap.size, 2, none⟩ = some (.string d.name) := (cellO x0).trans rfl
 have z3 : w1.cell? ⟨w.heap.size, 3, none⟩ = some (.int .i64 d.stamp) := (cellO x0).trans rfl
 have z4 : w1.cell? ⟨w.heap.size, 4, none⟩ = some (.int .i64 d.lib) := (cellO x0).trans rfl
 have z5 : w1.cell? ⟨w.heap.size, 5, none⟩ = some (.slice a kn cap) := (cellO x0).trans rfl
 clear hb1 x0 x1 y0 y1 y2 y3 y4 y5
 go_wp2_with fail
 refine (HK.out _ HB1.out.1).mono ?_
 rintro e wk ⟨rfl, hwk⟩
 rw [hwk]
 clear hwk
 go_wp2_with fail
 refine (HC.out _ HB1.out.1).mono ?_
 rintro e w2 ⟨hb2, rfl⟩
 have HB2 : Hid (Below w.heap.size w w2) := HB1.out.1.trans (hb2.mono HB1.out.1.size)
 clear hb2
 go_wp2_with fail
 exact ⟨rfl, HB2.out, rfl⟩
theorem set_lib_ok (d : Dat) (a : Option Addr) (kn cap : Nat) (dp : Int) (w : World) (hd : dp ≤ 12) (HT0 : ∀ W, Calls Tryz.prog 77 #[.agg #[.int .i64 d.kind, .int .i64 d.n, .string d.name, .int .i64 d.stamp, .int .i64 d.lib, .slice a kn cap]] W fun e w' => Below W.heap.size W w' ∧ e = .returned (.slice a kn cap)) (HK0 : ∀ W, Below w.heap.size w W → Calls Tryz.prog 143 #[.slice a kn cap] W fun e w' => e = .returned (.int .i64 1) ∧ w' = W) (nm : ByteArray) (HC0 : ∀ W, Below w.heap.size w W → Calls Tryz.prog 55 #[.agg #[.int .i64 d.kind, .int .i64 d.n, .string d.name, .int .i64 d.stamp, .int .i64 d.lib, .slice a kn cap]] W fun e w' => Below W.heap.size W w' ∧ e = .returned (.string nm)) :
  Calls Tryz.prog 130 #[.agg #[.int .i64 d.kind, .int .i64 d.n, .string d.name, .int .i64 d.stamp, .int .i64 d.lib, .slice a kn cap], .int .i64 dp] w fun e w' => Below w.heap.size w w' ∧ ∃ v, e = .returned v ∧ SeT w (.mk 1 nm [] [] ⟨#[]⟩ []) v w' := by
 obtain ⟨W0, hW0⟩ : ∃ W0, W0 = (w.alloc (.cells #[.int .i64 d.kind, .int .i64 d.n, .string d.name, .int .i64 d.stamp, .int .i64 d.lib, .slice a kn cap] 26)).alloc (.cells #[.int .i64 0, .string ⟨#[]⟩, .slice none 0 0, .slice none 0 0, .string ⟨#[]⟩, .slice none 0 0] 73) := ⟨_, rfl⟩
 obtain ⟨g1, g2, g3, g4⟩ := set_boxes d a kn cap w
 rw [← hW0] at g1 g2 g3 g4
 have HB0 : Hid (Below w.heap.size w W0 ∧ W0.heap.size = w.heap.size + 2) := ⟨g1, g4⟩
 have HX : Hid (∀ W, Below W0.heap.size W0 W → W.heap[w.heap.size]? = some (.cells #[.int .i64 d.kind, .int .i64 d.n, .string d.name, .int .i64 d.stamp, .int .i64 d.lib, .slice a kn cap] 26 (0, 0)) ∧ W.heap[w.heap.size + 1]? = some (.cells #[.int .i64 0, .string ⟨#[]⟩, .slice none 0 0, .slice none 0 0, .string ⟨#[]⟩, .slice none 0 0] 73 (0, 0))) := fun W hb => ⟨(hb.block _ (by omega)).trans g2, (hb.block _ (by omega)).trans g3⟩
 have hw0 := hW0.symm
 have y0 : W0.cell? ⟨w.heap.size, 0, none⟩ = some (.int .i64 d.kind) := (cellO g2).trans rfl
 have y1 : W0.cell? ⟨w.heap.size, 1, none⟩ = some (.int .i64 d.n) := (cellO g2).trans rfl
 have y2 : W0.cell? ⟨w.heap.size, 2, none⟩ = some (.string d.name) := (cellO g2).trans rfl
 have y3 : W0.cell? ⟨w.heap.size, 3, none⟩ = some (.int .i64 d.stamp) := (cellO g2).trans rfl
 have y4 : W0.cell? ⟨w.heap.size, 4, none⟩ = some (.int .i64 d.lib) := (cellO g2).trans rfl
 have y5 : W0.cell? ⟨w.heap.size, 5, none⟩ = some (.slice a kn cap) := (cellO g2).trans rfl
 clear g1 g2 g3 g4 hW0
 have HY := hidd (must_yes 4)
 have c1 : decide (dp ≤ 12) = true := by simp; omega
 have hdp : dp ≤ 12 := by omega
 have HT := hidd HT0
 have HK := hidd HK0
 have HC := hidd HC0
 clear HT0 HK0 HC0
 go_enter Tryz.func130, Tryz.ntmps130
 go_wp2_with fail
 refine (HY.out _).mono ?_
 rintro e wm ⟨rfl, hwm⟩
 rw [hwm]
 clear hwm
 go_wp2_with fail
 refine (HT.out _).mono ?_
 rintro e w1 ⟨hb1, rfl⟩
 obtain ⟨x0, x1⟩ := HX.out w1 hb1
 have HB1 : Hid (Below w.heap.size w w1 ∧ Below W0.heap.size W0 w1) := ⟨HB0.out.1.trans (hb1.mono HB0.out.1.size), hb1⟩
 have z0 : w1.cell? ⟨w.heap.size, 0, none⟩ = some (.int .i64 d.kind) := (cellO x0).trans rfl
 have z1 : w1.cell? ⟨w.heap.size, 1, none⟩ = some (.int .i64 d.n) := (cellO x0).trans rfl
 have z2 : w1.cell? ⟨w.heap.size, 2, none⟩ = some (.string d.name) := (cellO x0).trans rfl
 have z3 : w1.cell? ⟨w.heap.size, 3, none⟩ = some (.int .i64 d.stamp) := (cellO x0).trans rfl
 have z4 : w1.cell? ⟨w.heap.size, 4, none⟩ = some (.int .i64 d.lib) := (cellO x0).trans rfl
 have z5 : w1.cell? ⟨w.heap.size, 5, none⟩ = some (.slice a kn cap) := (cellO x0).trans rfl
 clear hb1 x0 x1 y0 y1 y2 y3 y4 y5
 go_wp2_with fail
 refine (HK.out _ HB1.out.1).mono ?_
 rintro e wk ⟨rfl, hwk⟩
 rw [hwk]
 clear hwk
 go_wp2_with fail
 refine (HC.out _ HB1.out.1).mono ?_
 rintro e w2 ⟨hb2, rfl⟩
 have HB2 : Hid (Below w.heap.size w w2) := HB1.out.1.trans (hb2.mono HB1.out.1.size)
 obtain ⟨_, x1⟩ := HX.out w2 (HB1.out.2.trans (hb2.mono HB1.out.2.size))
 have r0 := (cellO (q := 0) x1).trans rfl
 have r1 := (cellO (q := 1) x1).trans rfl
 have r2 := (cellO (q := 2) x1).trans rfl
 have r3 := (cellO (q := 3) x1).trans rfl
 have r4 := (cellO (q := 4) x1).trans rfl
 have r5 := (cellO (q := 5) x1).trans rfl
 have s0 := looseO (q := 0) x1
 have s1 := looseO (q := 1) x1
 have s2 := looseO (q := 2) x1
 have s3 := looseO (q := 3) x1
 have s4 := looseO (q := 4) x1
 have s5 := looseO (q := 5) x1
 have HX1 := hidd x1
 clear hb2 x1
 go_wp2_with fail
 have hk := set6 HX1.out (.int .i64 1) (.string nm) (.slice none 0 0) (.slice none 0 0) (.string ⟨#[]⟩) (.slice none 0 0)
 have hbF : Below w.heap.size w (((((((w2.setCell ⟨w.heap.size + 1, 0, none⟩ (.int .i64 1)).setCell ⟨w.heap.size + 1, 1, none⟩ (.string nm)).setCell ⟨w.heap.size + 1, 2, none⟩ (.slice none 0 0)).setCell ⟨w.heap.size + 1, 3, none⟩ (.slice none 0 0)).setCell ⟨w.heap.size + 1, 4, none⟩ (.string ⟨#[]⟩)).setCell ⟨w.heap.size + 1, 5, none⟩ (.slice none 0 0))) := (Below.setCell (Below.setCell (Below.setCell (Below.setCell (Below.setCell (Below.setCell HB2.out (p := ⟨w.heap.size + 1, 0, none⟩) (Nat.le_succ _) _) (p := ⟨w.heap.size + 1, 1, none⟩) (Nat.le_succ _) _) (p := ⟨w.heap.size + 1, 2, none⟩) (Nat.le_succ _) _) (p := ⟨w.heap.size + 1, 3, none⟩) (Nat.le_succ _) _) (p := ⟨w.heap.size + 1, 4, none⟩) (Nat.le_succ _) _) (p := ⟨w.heap.size + 1, 5, none⟩) (Nat.le_succ _) _)
 have hfr : ∀ k, k ≠ w.heap.size + 1 → (((((((w2.setCell ⟨w.heap.size + 1, 0, none⟩ (.int .i64 1)).setCell ⟨w.heap.size + 1, 1, none⟩ (.string nm)).setCell ⟨w.heap.size + 1, 2, none⟩ (.slice none 0 0)).setCell ⟨w.heap.size + 1, 3, none⟩ (.slice none 0 0)).setCell ⟨w.heap.size + 1, 4, none⟩ (.string ⟨#[]⟩)).setCell ⟨w.heap.size + 1, 5, none⟩ (.slice none 0 0))).heap[k]? = w2.heap[k]? := fun k hk => six_far hk _ _ _ _ _ _
 have hsz : (((((((w2.setCell ⟨w.heap.size + 1, 0, none⟩ (.int .i64 1)).setCell ⟨w.heap.size + 1, 1, none⟩ (.string nm)).setCell ⟨w.heap.size + 1, 2, none⟩ (.slice none 0 0)).setCell ⟨w.heap.size + 1, 3, none⟩ (.slice none 0 0)).setCell ⟨w.heap.size + 1, 4, none⟩ (.string ⟨#[]⟩)).setCell ⟨w.heap.size + 1, 5, none⟩ (.slice none 0 0))).heap.size = w2.heap.size := by simp
 generalize (((((((w2.setCell ⟨w.heap.size + 1, 0, none⟩ (.int .i64 1)).setCell ⟨w.heap.size + 1, 1, none⟩ (.string nm)).setCell ⟨w.heap.size + 1, 2, none⟩ (.slice none 0 0)).setCell ⟨w.heap.size + 1, 3, none⟩ (.slice none 0 0)).setCell ⟨w.heap.size + 1, 4, none⟩ (.string ⟨#[]⟩)).setCell ⟨w.heap.size + 1, 5, none⟩ (.slice none 0 0))) = Wf at hk hbF hfr hsz ⊢
 have k0 : Wf.cell? ⟨w.heap.size + 1, 0, none⟩ = some (.int .i64 1) := (cellO hk).trans rfl
 have k1 : Wf.cell? ⟨w.heap.size + 1, 1, none⟩ = some (.string nm) := (cellO hk).trans rfl
 have k2 : Wf.cell? ⟨w.heap.size + 1, 2, none⟩ = some (.slice none 0 0) := (cellO hk).trans rfl
 have k3 : Wf.cell? ⟨w.heap.size + 1, 3, none⟩ = some (.slice none 0 0) := (cellO hk).trans rfl
 have k4 : Wf.cell? ⟨w.heap.size + 1, 4, none⟩ = some (.string ⟨#[]⟩) := (cellO hk).trans rfl
 have k5 : Wf.cell? ⟨w.heap.size + 1, 5, none⟩ = some (.slice none 0 0) := (cellO hk).trans rfl
 refine bodyPost_ret (v := .agg #[.int .i64 1, .string nm, .slice none 0 0, .slice none 0 0, .string ⟨#[]⟩, .slice none 0 0]) (by simp [results, Tryz.results130, go_sem, k0, k1, k2, k3, k4, k5]) rfl ⟨hbF, _, rfl, ⟨_, _, _, rfl, SV.nil _ _, SV.nil _ _, SeL.none none 0⟩⟩
theorem set_kid_no (d y : Dat) (b o kn cap yn yc : Nat) (ya : Option Addr) (dp : Int) (w : World) (K : Int) (hK : ¬ K = 1) (hd0 : 0 ≤ dp) (hd : dp ≤ 12) (hk2 : 2 ≤ kn) (HT0 : ∀ W, Calls Tryz.prog 77 #[.agg #[.int .i64 d.kind, .int .i64 d.n, .string d.name, .int .i64 d.stamp, .int .i64 d.lib, .slice (some ⟨b, o, none⟩) kn cap]] W fun e w' => Below W.heap.size W w' ∧ e = .returned (.slice (some ⟨b, o, none⟩) kn cap)) (HK0 : ∀ W, Below w.heap.size w W → Calls Tryz.prog 143 #[.slice (some ⟨b, o, none⟩) kn cap] W fun e w' => e = .returned (.int .i64 K) ∧ w' = W) (HYD : ∀ W, Below w.heap.size w W → W.cell? ⟨b, o + 6, none⟩ = some (.int .i64 y.kind) ∧ W.cell? ⟨b, o + 6 + 1, none⟩ = some (.int .i64 y.n) ∧ W.cell? ⟨b, o + 6 + 2, none⟩ = some (.string y.name) ∧ W.cell? ⟨b, o + 6 + 3, none⟩ = some (.int .i64 y.stamp) ∧ W.cell? ⟨b, o + 6 + 4, none⟩ = some (.int .i64 y.lib) ∧ W.cell? ⟨b, o + 6 + 5, none⟩ = some (.slice ya yn yc)) (x : Int) (HS0 : ∀ W, Below w.heap.size w W → Calls Tryz.prog 130 #[.agg #[.int .i64 y.kind, .int .i64 y.n, .string y.name, .int .i64 y.stamp, .int .i64 y.lib, .slice ya yn yc], .int .i64 (dp + 1)] W fun e w' => Below W.heap.size W w' ∧ e = .panicked (thrownL x)) :
  Calls Tryz.prog 130 #[.agg #[.int .i64 d.kind, .int .i64 d.n, .string d.name, .int .i64 d.stamp, .int .i64 d.lib, .slice (some ⟨b, o, none⟩) kn cap], .int .i64 dp] w fun e w' => Below w.heap.size w w' ∧ e = .panicked (thrownL x) := by
 obtain ⟨W0, hW0⟩ : ∃ W0, W0 = (w.alloc (.cells #[.int .i64 d.kind, .int .i64 d.n, .string d.name, .int .i64 d.stamp, .int .i64 d.lib, .slice (some ⟨b, o, none⟩) kn cap] 26)).alloc (.cells #[.int .i64 0, .string ⟨#[]⟩, .slice none 0 0, .slice none 0 0, .string ⟨#[]⟩, .slice none 0 0] 73) := ⟨_, rfl⟩
 obtain ⟨g1, g2, g3, g4⟩ := set_boxes d (some ⟨b, o, none⟩) kn cap w
 rw [← hW0] at g1 g2 g3 g4
 have HB0 : Hid (Below w.heap.size w W0 ∧ W0.heap.size = w.heap.size + 2) := ⟨g1, g4⟩
 have HX : Hid (∀ W, Below W0.heap.size W0 W → W.heap[w.heap.size]? = some (.cells #[.int .i64 d.kind, .int .i64 d.n, .string d.name, .int .i64 d.stamp, .int .i64 d.lib, .slice (some ⟨b, o, none⟩) kn cap] 26 (0, 0)) ∧ W.heap[w.heap.size + 1]? = some (.cells #[.int .i64 0, .string ⟨#[]⟩, .slice none 0 0, .slice none 0 0, .string ⟨#[]⟩, .slice none 0 0] 73 (0, 0))) := fun W hb => ⟨(hb.block _ (by omega)).trans g2, (hb.block _ (by omega)).trans g3⟩
 have hw0 := hW0.symm
 have y0 : W0.cell? ⟨w.heap.size, 0, none⟩ = some (.int .i64 d.kind) := (cellO g2).trans rfl
 have y1 : W0.cell? ⟨w.heap.size, 1, none⟩ = some (.int .i64 d.n) := (cellO g2).trans rfl
 have y2 : W0.cell? ⟨w.heap.size, 2, none⟩ = some (.string d.name) := (cellO g2).trans rfl
 have y3 : W0.cell? ⟨w.heap.size, 3, none⟩ = some (.int .i64 d.stamp) := (cellO g2).trans rfl
 have y4 : W0.cell? ⟨w.heap.size, 4, none⟩ = some (.int .i64 d.lib) := (cellO g2).trans rfl
 have y5 : W0.cell? ⟨w.heap.size, 5, none⟩ = some (.slice (some ⟨b, o, none⟩) kn cap) := (cellO g2).trans rfl
 clear g1 g2 g3 g4 hW0
 have HY := hidd (must_yes 4)
 have c1 : decide (dp ≤ 12) = true := by simp; omega
 have hdp : dp ≤ 12 := by omega
 have HT := hidd HT0
 have HK := hidd HK0
 have HS := hidd HS0
 have HYY := hidd HYD
 have m1 : (1 : Int) < (kn : Int) := by omega
 clear HT0 HK0 HS0 HYD
 have kk : (K == 1) = false := by simpa using hK
 go_enter Tryz.func130, Tryz.ntmps130
 go_wp2_with fail
 refine (HY.out _).mono ?_
 rintro e wm ⟨rfl, hwm⟩
 rw [hwm]
 clear hwm
 go_wp2_with fail
 refine (HT.out _).mono ?_
 rintro e w1 ⟨hb1, rfl⟩
 obtain ⟨x0, x1⟩ := HX.out w1 hb1
 have HB1 : Hid (Below w.heap.size w w1 ∧ Below W0.heap.size W0 w1) := ⟨HB0.out.1.trans (hb1.mono HB0.out.1.size), hb1⟩
 have z0 : w1.cell? ⟨w.heap.size, 0, none⟩ = some (.int .i64 d.kind) := (cellO x0).trans rfl
 have z1 : w1.cell? ⟨w.heap.size, 1, none⟩ = some (.int .i64 d.n) := (cellO x0).trans rfl
 have z2 : w1.cell? ⟨w.heap.size, 2, none⟩ = some (.string d.name) := (cellO x0).trans rfl
 have z3 : w1.cell? ⟨w.heap.size, 3, none⟩ = some (.int .i64 d.stamp) := (cellO x0).trans rfl
 have z4 : w1.cell? ⟨w.heap.size, 4, none⟩ = some (.int .i64 d.lib) := (cellO x0).trans rfl
 have z5 : w1.cell? ⟨w.heap.size, 5, none⟩ = some (.slice (some ⟨b, o, none⟩) kn cap) := (cellO x0).trans rfl
 clear hb1 x0 x1 y0 y1 y2 y3 y4 y5
 go_wp2_with fail
 refine (HK.out _ HB1.out.1).mono ?_
 rintro e wk ⟨rfl, hwk⟩
 rw [hwk]
 clear hwk
 obtain ⟨u0, u1, u2, u3, u4, u5⟩ := HYY.out w1 HB1.out.1
 go_wp2_with fail
 refine (HS.out _ HB1.out.1).mono ?_
 rintro e w2 ⟨hb2, rfl⟩
 have HB2 : Hid (Below w.heap.size w w2) := HB1.out.1.trans (hb2.mono HB1.out.1.size)
 clear hb2
 go_wp2_with fail
 exact ⟨rfl, HB2.out, rfl⟩
theorem set_names2_no (d y : Dat) (b o kn cap yn yc : Nat) (ya : Option Addr) (dp : Int) (w : World) (hd0 : 0 ≤ dp) (hd : dp ≤ 12) (hk2 : 2 ≤ kn) (HT0 : ∀ W, Calls Tryz.prog 77 #[.agg #[.int .i64 d.kind, .int .i64 d.n, .string d.name, .int .i64 d.stamp, .int .i64 d.lib, .slice (some ⟨b, o, none⟩) kn cap]] W fun e w' => Below W.heap.size W w' ∧ e = .returned (.slice (some ⟨b, o, none⟩) kn cap)) (HK0 : ∀ W, Below w.heap.size w W → Calls Tryz.prog 143 #[.slice (some ⟨b, o, none⟩) kn cap] W fun e w' => e = .returned (.int .i64 2) ∧ w' = W) (HYD : ∀ W, Below w.heap.size w W → W.cell? ⟨b, o + 6, none⟩ = some (.int .i64 y.kind) ∧ W.cell? ⟨b, o + 6 + 1, none⟩ = some (.int .i64 y.n) ∧ W.cell? ⟨b, o + 6 + 2, none⟩ = some (.string y.name) ∧ W.cell? ⟨b, o + 6 + 3, none⟩ = some (.int .i64 y.stamp) ∧ W.cell? ⟨b, o + 6 + 4, none⟩ = some (.int .i64 y.lib) ∧ W.cell? ⟨b, o + 6 + 5, none⟩ = some (.slice ya yn yc)) (s : Se) (HS0 : ∀ W, Below w.heap.size w W → Calls Tryz.prog 130 #[.agg #[.int .i64 y.kind, .int .i64 y.n, .string y.name, .int .i64 y.stamp, .int .i64 y.lib, .slice ya yn yc], .int .i64 (dp + 1)] W fun e w' => Below W.heap.size W w' ∧ ∃ v, e = .returned v ∧ SeT W s v w') (ra : Option Addr) (HSL : ∀ u, (Instr.slice 24 (.slice (some ⟨b, o, none⟩) kn cap) (some (.int .i64 2)) none none).run Tryz.prog u = .ok (.slice ra (kn - 2) (cap - 2)) u) (z : Int) (HN0 : ∀ W, Below w.heap.size w W → Calls Tryz.prog 80 #[.slice ra (kn - 2) (cap - 2)] W fun e w' => Below W.heap.size W w' ∧ e = .panicked (thrownL z)) :
  Calls Tryz.prog 130 #[.agg #[.int .i64 d.kind, .int .i64 d.n, .string d.name, .int .i64 d.stamp, .int .i64 d.lib, .slice (some ⟨b, o, none⟩) kn cap], .int .i64 dp] w fun e w' => Below w.heap.size w w' ∧ e = .panicked (thrownL z) := by
 obtain ⟨W0, hW0⟩ : ∃ W0, W0 = (w.alloc (.cells #[.int .i64 d.kind, .int .i64 d.n, .string d.name, .int .i64 d.stamp, .int .i64 d.lib, .slice (some ⟨b, o, none⟩) kn cap] 26)).alloc (.cells #[.int .i64 0, .string ⟨#[]⟩, .slice none 0 0, .slice none 0 0, .string ⟨#[]⟩, .slice none 0 0] 73) := ⟨_, rfl⟩
 obtain ⟨g1, g2, g3, g4⟩ := set_boxes d (some ⟨b, o, none⟩) kn cap w
 rw [← hW0] at g1 g2 g3 g4
 have HB0 : Hid (Below w.heap.size w W0 ∧ W0.heap.size = w.heap.size + 2) := ⟨g1, g4⟩
 have HX : Hid (∀ W, Below W0.heap.size W0 W → W.heap[w.heap.size]? = some (.cells #[.int .i64 d.kind, .int .i64 d.n, .string d.name, .int .i64 d.stamp, .int .i64 d.lib, .slice (some ⟨b, o, none⟩) kn cap] 26 (0, 0)) ∧ W.heap[w.heap.size + 1]? = some (.cells #[.int .i64 0, .string ⟨#[]⟩, .slice none 0 0, .slice none 0 0, .string ⟨#[]⟩, .slice none 0 0] 73 (0, 0))) := fun W hb => ⟨(hb.block _ (by omega)).trans g2, (hb.block _ (by omega)).trans g3⟩
 have hw0 := hW0.symm
 have y0 : W0.cell? ⟨w.heap.size, 0, none⟩ = some (.int .i64 d.kind) := (cellO g2).trans rfl
 have y1 : W0.cell? ⟨w.heap.size, 1, none⟩ = some (.int .i64 d.n) := (cellO g2).trans rfl
 have y2 : W0.cell? ⟨w.heap.size, 2, none⟩ = some (.string d.name) := (cellO g2).trans rfl
 have y3 : W0.cell? ⟨w.heap.size, 3, none⟩ = some (.int .i64 d.stamp) := (cellO g2).trans rfl
 have y4 : W0.cell? ⟨w.heap.size, 4, none⟩ = some (.int .i64 d.lib) := (cellO g2).trans rfl
 have y5 : W0.cell? ⟨w.heap.size, 5, none⟩ = some (.slice (some ⟨b, o, none⟩) kn cap) := (cellO g2).trans rfl
 clear g1 g2 g3 g4 hW0
 have HY := hidd (must_yes 4)
 have c1 : decide (dp ≤ 12) = true := by simp; omega
 have hdp : dp ≤ 12 := by omega
 have HT := hidd HT0
 have HK := hidd HK0
 have HS := hidd HS0
 have HYY := hidd HYD
 have m1 : (1 : Int) < (kn : Int) := by omega
 clear HT0 HK0 HS0 HYD
 have HN := hidd HN0
 clear HN0
 go_enter Tryz.func130, Tryz.ntmps130
 go_wp2_with fail
 refine (HY.out _).mono ?_
 rintro e wm ⟨rfl, hwm⟩
 rw [hwm]
 clear hwm
 go_wp2_with fail
 refine (HT.out _).mono ?_
 rintro e w1 ⟨hb1, rfl⟩
 obtain ⟨x0, x1⟩ := HX.out w1 hb1
 have HB1 : Hid (Below w.heap.size w w1 ∧ Below W0.heap.size W0 w1) := ⟨HB0.out.1.trans (hb1.mono HB0.out.1.size), hb1⟩
 have z0 : w1.cell? ⟨w.heap.size, 0, none⟩ = some (.int .i64 d.kind) := (cellO x0).trans rfl
 have z1 : w1.cell? ⟨w.heap.size, 1, none⟩ = some (.int .i64 d.n) := (cellO x0).trans rfl
 have z2 : w1.cell? ⟨w.heap.size, 2, none⟩ = some (.string d.name) := (cellO x0).trans rfl
 have z3 : w1.cell? ⟨w.heap.size, 3, none⟩ = some (.int .i64 d.stamp) := (cellO x0).trans rfl
 have z4 : w1.cell? ⟨w.heap.size, 4, none⟩ = some (.int .i64 d.lib) := (cellO x0).trans rfl
 have z5 : w1.cell? ⟨w.heap.size, 5, none⟩ = some (.slice (some ⟨b, o, none⟩) kn cap) := (cellO x0).trans rfl
 clear hb1 x0 x1 y0 y1 y2 y3 y4 y5
 go_wp2_with fail
 refine (HK.out _ HB1.out.1).mono ?_
 rintro e wk ⟨rfl, hwk⟩
 rw [hwk]
 clear hwk
 obtain ⟨u0, u1, u2, u3, u4, u5⟩ := HYY.out w1 HB1.out.1
 go_wp2_with fail
 refine (HS.out _ HB1.out.1).mono ?_
 rintro e w2 ⟨hb2, v, rfl, hv⟩
 obtain ⟨sk, sn, sns, sas, sp, sks⟩ := s
 obtain ⟨sv2, sv3, sv5, rfl, hv2, hv3, hv5⟩ := hv
 have HIN : Hid (SeV (fun k => w1.heap.size ≤ k ∧ k < w2.heap.size) w2 (.mk sk sn sns sas sp sks) (.agg #[.int .i64 sk, .string sn, sv2, sv3, .string sp, sv5])) := ⟨sv2, sv3, sv5, rfl, hv2, hv3, hv5⟩
 obtain ⟨W3, hW3⟩ : ∃ W3, W3 = (w2.alloc (.cells #[.int .i64 sk, .string sn, sv2, sv3, .string sp, sv5] 73)).alloc (.cells #[.int .i64 2, .string ⟨#[]⟩, .slice none 0 0, .slice none 0 0, .string ⟨#[]⟩, .slice (some ⟨w2.heap.size, 0, none⟩) 1 1] 73) := ⟨_, rfl⟩
 have HW3 := hidd hW3
 have b3 : Below w2.heap.size w2 W3 := by rw [hW3]; exact ((Below.refl _ _).alloc (Nat.le_refl _) _).alloc (by simp) _
 have hS3 : W3.heap.size = w2.heap.size + 2 := by rw [hW3]; simp
 have hT3 : W3.heap[w2.heap.size + 1]? = some (.cells #[.int .i64 2, .string ⟨#[]⟩, .slice none 0 0, .slice none 0 0, .string ⟨#[]⟩, .slice (some ⟨w2.heap.size, 0, none⟩) 1 1] 73 (0, 0)) := by
  rw [hW3]
  have := World.alloc_heap_new (w2.alloc (.cells #[.int .i64 sk, .string sn, sv2, sv3, .string sp, sv5] 73)) (.cells #[.int .i64 2, .string ⟨#[]⟩, .slice none 0 0, .slice none 0 0, .string ⟨#[]⟩, .slice (some ⟨w2.heap.size, 0, none⟩) 1 1] 73)
  simpa using this
 have HF3 : Hid (Below w.heap.size w W3 ∧ Below W0.heap.size W0 W3 ∧ W3.heap.size = w2.heap.size + 2 ∧ W3.heap[w2.heap.size + 1]? = some (.cells #[.int .i64 2, .string ⟨#[]⟩, .slice none 0 0, .slice none 0 0, .string ⟨#[]⟩, .slice (some ⟨w2.heap.size, 0, none⟩) 1 1] 73 (0, 0)) ∧ w.heap.size + 2 ≤ w1.heap.size ∧ w1.heap.size ≤ w2.heap.size) := ⟨HB1.out.1.trans ((hb2.trans (b3.mono hb2.size)).mono HB1.out.1.size), HB1.out.2.trans ((hb2.trans (b3.mono hb2.size)).mono HB1.out.2.size), hS3, hT3, by have := HB1.out.2.size; have := HB0.out.2; omega, hb2.size⟩
 have hw3 := hW3.symm
 clear hv2 hv3 hv5 hb2 b3 hS3 hT3 hW3 z0 z1 z2 z3 z4 z5 u0 u1 u2 u3 u4 u5
 go_wp2_with fail
 refine (HN.out _ HF3.out.1).mono ?_
 rintro e w4 ⟨hb4, rfl⟩
 have HB4 : Hid (Below w.heap.size w w4) := HF3.out.1.trans (hb4.mono HF3.out.1.size)
 clear hb4
 go_wp2_with fail
 exact ⟨rfl, HB4.out, rfl⟩
theorem set_names2_ok (d y : Dat) (b o kn cap yn yc : Nat) (ya : Option Addr) (dp : Int) (w : World) (hd0 : 0 ≤ dp) (hd : dp ≤ 12) (hk2 : 2 ≤ kn) (HT0 : ∀ W, Calls Tryz.prog 77 #[.agg #[.int .i64 d.kind, .int .i64 d.n, .string d.name, .int .i64 d.stamp, .int .i64 d.lib, .slice (some ⟨b, o, none⟩) kn cap]] W fun e w' => Below W.heap.size W w' ∧ e = .returned (.slice (some ⟨b, o, none⟩) kn cap)) (HK0 : ∀ W, Below w.heap.size w W → Calls Tryz.prog 143 #[.slice (some ⟨b, o, none⟩) kn cap] W fun e w' => e = .returned (.int .i64 2) ∧ w' = W) (HYD : ∀ W, Below w.heap.size w W → W.cell? ⟨b, o + 6, none⟩ = some (.int .i64 y.kind) ∧ W.cell? ⟨b, o + 6 + 1, none⟩ = some (.int .i64 y.n) ∧ W.cell? ⟨b, o + 6 + 2, none⟩ = some (.string y.name) ∧ W.cell? ⟨b, o + 6 + 3, none⟩ = some (.int .i64 y.stamp) ∧ W.cell? ⟨b, o + 6 + 4, none⟩ = some (.int .i64 y.lib) ∧ W.cell? ⟨b, o + 6 + 5, none⟩ = some (.slice ya yn yc)) (s : Se) (HS0 : ∀ W, Below w.heap.size w W → Calls Tryz.prog 130 #[.agg #[.int .i64 y.kind, .int .i64 y.n, .string y.name, .int .i64 y.stamp, .int .i64 y.lib, .slice ya yn yc], .int .i64 (dp + 1)] W fun e w' => Below W.heap.size W w' ∧ ∃ v, e = .returned v ∧ SeT W s v w') (ra : Option Addr) (HSL : ∀ u, (Instr.slice 24 (.slice (some ⟨b, o, none⟩) kn cap) (some (.int .i64 2)) none none).run Tryz.prog u = .ok (.slice ra (kn - 2) (cap - 2)) u) (ns : List ByteArray) (HN0 : ∀ W, Below w.heap.size w W → Calls Tryz.prog 80 #[.slice ra (kn - 2) (cap - 2)] W fun e w' => Below W.heap.size W w' ∧ ∃ v, e = .returned v ∧ StrR W.heap.size ns v w') :
  Calls Tryz.prog 130 #[.agg #[.int .i64 d.kind, .int .i64 d.n, .string d.name, .int .i64 d.stamp, .int .i64 d.lib, .slice (some ⟨b, o, none⟩) kn cap], .int .i64 dp] w fun e w' => Below w.heap.size w w' ∧ ∃ v, e = .returned v ∧ SeT w (.mk 2 ⟨#[]⟩ ns [] ⟨#[]⟩ [s]) v w' := by
 obtain ⟨W0, hW0⟩ : ∃ W0, W0 = (w.alloc (.cells #[.int .i64 d.kind, .int .i64 d.n, .string d.name, .int .i64 d.stamp, .int .i64 d.lib, .slice (some ⟨b, o, none⟩) kn cap] 26)).alloc (.cells #[.int .i64 0, .string ⟨#[]⟩, .slice none 0 0, .slice none 0 0, .string ⟨#[]⟩, .slice none 0 0] 73) := ⟨_, rfl⟩
 obtain ⟨g1, g2, g3, g4⟩ := set_boxes d (some ⟨b, o, none⟩) kn cap w
 rw [← hW0] at g1 g2 g3 g4
 have HB0 : Hid (Below w.heap.size w W0 ∧ W0.heap.size = w.heap.size + 2) := ⟨g1, g4⟩
 have HX : Hid (∀ W, Below W0.heap.size W0 W → W.heap[w.heap.size]? = some (.cells #[.int .i64 d.kind, .int .i64 d.n, .string d.name, .int .i64 d.stamp, .int .i64 d.lib, .slice (some ⟨b, o, none⟩) kn cap] 26 (0, 0)) ∧ W.heap[w.heap.size + 1]? = some (.cells #[.int .i64 0, .string ⟨#[]⟩, .slice none 0 0, .slice none 0 0, .string ⟨#[]⟩, .slice none 0 0] 73 (0, 0))) := fun W hb => ⟨(hb.block _ (by omega)).trans g2, (hb.block _ (by omega)).trans g3⟩
 have hw0 := hW0.symm
 have y0 : W0.cell? ⟨w.heap.size, 0, none⟩ = some (.int .i64 d.kind) := (cellO g2).trans rfl
 have y1 : W0.cell? ⟨w.heap.size, 1, none⟩ = some (.int .i64 d.n) := (cellO g2).trans rfl
 have y2 : W0.cell? ⟨w.heap.size, 2, none⟩ = some (.string d.name) := (cellO g2).trans rfl
 have y3 : W0.cell? ⟨w.heap.size, 3, none⟩ = some (.int .i64 d.stamp) := (cellO g2).trans rfl
 have y4 : W0.cell? ⟨w.heap.size, 4, none⟩ = some (.int .i64 d.lib) := (cellO g2).trans rfl
 have y5 : W0.cell? ⟨w.heap.size, 5, none⟩ = some (.slice (some ⟨b, o, none⟩) kn cap) := (cellO g2).trans rfl
 clear g1 g2 g3 g4 hW0
 have HY := hidd (must_yes 4)
 have c1 : decide (dp ≤ 12) = true := by simp; omega
 have hdp : dp ≤ 12 := by omega
 have HT := hidd HT0
 have HK := hidd HK0
 have HS := hidd HS0
 have HYY := hidd HYD
 have m1 : (1 : Int) < (kn : Int) := by omega
 clear HT0 HK0 HS0 HYD
 have HN := hidd HN0
 clear HN0
 go_enter Tryz.func130, Tryz.ntmps130
 go_wp2_with fail
 refine (HY.out _).mono ?_
 rintro e wm ⟨rfl, hwm⟩
 rw [hwm]
 clear hwm
 go_wp2_with fail
 refine (HT.out _).mono ?_
 rintro e w1 ⟨hb1, rfl⟩
 obtain ⟨x0, x1⟩ := HX.out w1 hb1
 have HB1 : Hid (Below w.heap.size w w1 ∧ Below W0.heap.size W0 w1) := ⟨HB0.out.1.trans (hb1.mono HB0.out.1.size), hb1⟩
 have z0 : w1.cell? ⟨w.heap.size, 0, none⟩ = some (.int .i64 d.kind) := (cellO x0).trans rfl
 have z1 : w1.cell? ⟨w.heap.size, 1, none⟩ = some (.int .i64 d.n) := (cellO x0).trans rfl
 have z2 : w1.cell? ⟨w.heap.size, 2, none⟩ = some (.string d.name) := (cellO x0).trans rfl
 have z3 : w1.cell? ⟨w.heap.size, 3, none⟩ = some (.int .i64 d.stamp) := (cellO x0).trans rfl
 have z4 : w1.cell? ⟨w.heap.size, 4, none⟩ = some (.int .i64 d.lib) := (cellO x0).trans rfl
 have z5 : w1.cell? ⟨w.heap.size, 5, none⟩ = some (.slice (some ⟨b, o, none⟩) kn cap) := (cellO x0).trans rfl
 clear hb1 x0 x1 y0 y1 y2 y3 y4 y5
 go_wp2_with fail
 refine (HK.out _ HB1.out.1).mono ?_
 rintro e wk ⟨rfl, hwk⟩
 rw [hwk]
 clear hwk
 obtain ⟨u0, u1, u2, u3, u4, u5⟩ := HYY.out w1 HB1.out.1
 go_wp2_with fail
 refine (HS.out _ HB1.out.1).mono ?_
 rintro e w2 ⟨hb2, v, rfl, hv⟩
 obtain ⟨sk, sn, sns, sas, sp, sks⟩ := s
 obtain ⟨sv2, sv3, sv5, rfl, hv2, hv3, hv5⟩ := hv
 have HIN : Hid (SeV (fun k => w1.heap.size ≤ k ∧ k < w2.heap.size) w2 (.mk sk sn sns sas sp sks) (.agg #[.int .i64 sk, .string sn, sv2, sv3, .string sp, sv5])) := ⟨sv2, sv3, sv5, rfl, hv2, hv3, hv5⟩
 obtain ⟨W3, hW3⟩ : ∃ W3, W3 = (w2.alloc (.cells #[.int .i64 sk, .string sn, sv2, sv3, .string sp, sv5] 73)).alloc (.cells #[.int .i64 2, .string ⟨#[]⟩, .slice none 0 0, .slice none 0 0, .string ⟨#[]⟩, .slice (some ⟨w2.heap.size, 0, none⟩) 1 1] 73) := ⟨_, rfl⟩
 have HW3 := hidd hW3
 have b3 : Below w2.heap.size w2 W3 := by rw [hW3]; exact ((Below.refl _ _).alloc (Nat.le_refl _) _).alloc (by simp) _
 have hS3 : W3.heap.size = w2.heap.size + 2 := by rw [hW3]; simp
 have hT3 : W3.heap[w2.heap.size + 1]? = some (.cells #[.int .i64 2, .string ⟨#[]⟩, .slice none 0 0, .slice none 0 0, .string ⟨#[]⟩, .slice (some ⟨w2.heap.size, 0, none⟩) 1 1] 73 (0, 0)) := by
  rw [hW3]
  have := World.alloc_heap_new (w2.alloc (.cells #[.int .i64 sk, .string sn, sv2, sv3, .string sp, sv5] 73)) (.cells #[.int .i64 2, .string ⟨#[]⟩, .slice none 0 0, .slice none 0 0, .string ⟨#[]⟩, .slice (some ⟨w2.heap.size, 0, none⟩) 1 1] 73)
  simpa using this
 have HF3 : Hid (Below w.heap.size w W3 ∧ Below W0.heap.size W0 W3 ∧ W3.heap.size = w2.heap.size + 2 ∧ W3.heap[w2.heap.size + 1]? = some (.cells #[.int .i64 2, .string ⟨#[]⟩, .slice none 0 0, .slice none 0 0, .string ⟨#[]⟩, .slice (some ⟨w2.heap.size, 0, none⟩) 1 1] 73 (0, 0)) ∧ w.heap.size + 2 ≤ w1.heap.size ∧ w1.heap.size ≤ w2.heap.size) := ⟨HB1.out.1.trans ((hb2.trans (b3.mono hb2.size)).mono HB1.out.1.size), HB1.out.2.trans ((hb2.trans (b3.mono hb2.size)).mono HB1.out.2.size), hS3, hT3, by have := HB1.out.2.size; have := HB0.out.2; omega, hb2.size⟩
 have hw3 := hW3.symm
 clear hv2 hv3 hv5 hb2 b3 hS3 hT3 hW3 z0 z1 z2 z3 z4 z5 u0 u1 u2 u3 u4 u5
 go_wp2_with fail
 refine (HN.out _ HF3.out.1).mono ?_
 rintro e w4 ⟨hb4, nv, rfl, hnv⟩
 obtain ⟨na, nc, rfl, _⟩ := own_sliceL hnv
 have HV := hidd (StrR.sv hnv)
 clear hnv
 have HF4 : Hid (Below W3.heap.size W3 w4 ∧ Below w.heap.size w w4) := ⟨hb4, HF3.out.1.trans (hb4.mono HF3.out.1.size)⟩
 have h4T : w4.heap[w2.heap.size + 1]? = some (.cells #[.int .i64 2, .string ⟨#[]⟩, .slice none 0 0, .slice none 0 0, .string ⟨#[]⟩, .slice (some ⟨w2.heap.size, 0, none⟩) 1 1] 73 (0, 0)) := (hb4.block _ (by have := HF3.out.2.2.1; omega)).trans HF3.out.2.2.2.1
 have h4R := (HX.out w4 (HF3.out.2.1.trans (hb4.mono HF3.out.2.1.size))).2
 have hRT : w.heap.size + 1 ≠ w2.heap.size + 1 := by have := HF3.out.2.2.2.2; omega
 have hTR : w2.heap.size + 1 ≠ w.heap.size + 1 := fun h => hRT h.symm
 have t0 := (cellO (q := 0) h4T).trans rfl
 have f0 := looseO (q := 0) h4T
 have t1 := (cellO (q := 1) h4T).trans rfl
 have f1 := looseO (q := 1) h4T
 have t2 := (cellO (q := 2) h4T).trans rfl
 have f2 := looseO (q := 2) h4T
 have t3 := (cellO (q := 3) h4T).trans rfl
 have f3 := looseO (q := 3) h4T
 have t4 := (cellO (q := 4) h4T).trans rfl
 have f4 := looseO (q := 4) h4T
 have t5 := (cellO (q := 5) h4T).trans rfl
 have f5 := looseO (q := 5) h4T
 have r0 := (cellO (q := 0) h4R).trans rfl
 have s0 := looseO (q := 0) h4R
 have r1 := (cellO (q := 1) h4R).trans rfl
 have s1 := looseO (q := 1) h4R
 have r2 := (cellO (q := 2) h4R).trans rfl
 have s2 := looseO (q := 2) h4R
 have r3 := (cellO (q := 3) h4R).trans rfl
 have s3 := looseO (q := 3) h4R
 have r4 := (cellO (q := 4) h4R).trans rfl
 have s4 := looseO (q := 4) h4R
 have r5 := (cellO (q := 5) h4R).trans rfl
 have s5 := looseO (q := 5) h4R
 have H4 : Hid (w4.heap[w2.heap.size + 1]? = some (.cells #[.int .i64 2, .string ⟨#[]⟩, .slice none 0 0, .slice none 0 0, .string ⟨#[]⟩, .slice (some ⟨w2.heap.size, 0, none⟩) 1 1] 73 (0, 0)) ∧ w4.heap[w.heap.size + 1]? = some (.cells #[.int .i64 0, .string ⟨#[]⟩, .slice none 0 0, .slice none 0 0, .string ⟨#[]⟩, .slice none 0 0] 73 (0, 0))) := ⟨h4T, h4R⟩
 clear hb4 h4T h4R
 go_wp2_with fail
 have hk := set6 (show (w4.setCell ⟨w2.heap.size + 1, 2, none⟩ (.slice na ns.length nc)).heap[w.heap.size + 1]? = some (.cells #[.int .i64 0, .string ⟨#[]⟩, .slice none 0 0, .slice none 0 0, .string ⟨#[]⟩, .slice none 0 0] 73 (0, 0)) by rw [Below.heap_setCell _ _ _ _ hRT]; exact H4.out.2) (.int .i64 2) (.string ⟨#[]⟩) (.slice na ns.length nc) (.slice none 0 0) (.string ⟨#[]⟩) (.slice (some ⟨w2.heap.size, 0, none⟩) 1 1)
 have hbF : Below w.heap.size w ((((((((w4.setCell ⟨w2.heap.size + 1, 2, none⟩ (.slice na ns.length nc)).setCell ⟨w.heap.size + 1, 0, none⟩ (.int .i64 2)).setCell ⟨w.heap.size + 1, 1, none⟩ (.string ⟨#[]⟩)).setCell ⟨w.heap.size + 1, 2, none⟩ (.slice na ns.length nc)).setCell ⟨w.heap.size + 1, 3, none⟩ (.slice none 0 0)).setCell ⟨w.heap.size + 1, 4, none⟩ (.string ⟨#[]⟩)).setCell ⟨w.heap.size + 1, 5, none⟩ (.slice (some ⟨w2.heap.size, 0, none⟩) 1 1))) := (Below.setCell (Below.setCell (Below.setCell (Below.setCell (Below.setCell (Below.setCell (Below.setCell HF4.out.2 (p := ⟨w2.heap.size + 1, 2, none⟩) (by have := HF3.out.2.2.2.2; show w.heap.size ≤ w2.heap.size + 1; omega) _) (p := ⟨w.heap.size + 1, 0, none⟩) (Nat.le_succ _) _) (p := ⟨w.heap.size + 1, 1, none⟩) (Nat.le_succ _) _) (p := ⟨w.heap.size + 1, 2, none⟩) (Nat.le_succ _) _) (p := ⟨w.heap.size + 1, 3, none⟩) (Nat.le_succ _) _) (p := ⟨w.heap.size + 1, 4, none⟩) (Nat.le_succ _) _) (p := ⟨w.heap.size + 1, 5, none⟩) (Nat.le_succ _) _)
 have hfr : ∀ k, k ≠ w.heap.size + 1 → ((((((((w4.setCell ⟨w2.heap.size + 1, 2, none⟩ (.slice na ns.length nc)).setCell ⟨w.heap.size + 1, 0, none⟩ (.int .i64 2)).setCell ⟨w.heap.size + 1, 1, none⟩ (.string ⟨#[]⟩)).setCell ⟨w.heap.size + 1, 2, none⟩ (.slice na ns.length nc)).setCell ⟨w.heap.size + 1, 3, none⟩ (.slice none 0 0)).setCell ⟨w.heap.size + 1, 4, none⟩ (.string ⟨#[]⟩)).setCell ⟨w.heap.size + 1, 5, none⟩ (.slice (some ⟨w2.heap.size, 0, none⟩) 1 1))).heap[k]? = (w4.setCell ⟨w2.heap.size + 1, 2, none⟩ (.slice na ns.length nc)).heap[k]? := fun k hk => six_far hk _ _ _ _ _ _
 have hsz : ((((((((w4.setCell ⟨w2.heap.size + 1, 2, none⟩ (.slice na ns.length nc)).setCell ⟨w.heap.size + 1, 0, none⟩ (.int .i64 2)).setCell ⟨w.heap.size + 1, 1, none⟩ (.string ⟨#[]⟩)).setCell ⟨w.heap.size + 1, 2, none⟩ (.slice na ns.length nc)).setCell ⟨w.heap.size + 1, 3, none⟩ (.slice none 0 0)).setCell ⟨w.heap.size + 1, 4, none⟩ (.string ⟨#[]⟩)).setCell ⟨w.heap.size + 1, 5, none⟩ (.slice (some ⟨w2.heap.size, 0, none⟩) 1 1))).heap.size = (w4.setCell ⟨w2.heap.size + 1, 2, none⟩ (.slice na ns.length nc)).heap.size := by simp
 generalize ((((((((w4.setCell ⟨w2.heap.size + 1, 2, none⟩ (.slice na ns.length nc)).setCell ⟨w.heap.size + 1, 0, none⟩ (.int .i64 2)).setCell ⟨w.heap.size + 1, 1, none⟩ (.string ⟨#[]⟩)).setCell ⟨w.heap.size + 1, 2, none⟩ (.slice na ns.length nc)).setCell ⟨w.heap.size + 1, 3, none⟩ (.slice none 0 0)).setCell ⟨w.heap.size + 1, 4, none⟩ (.string ⟨#[]⟩)).setCell ⟨w.heap.size + 1, 5, none⟩ (.slice (some ⟨w2.heap.size, 0, none⟩) 1 1))) = Wf at hk hbF hfr hsz ⊢
 have k0 : Wf.cell? ⟨w.heap.size + 1, 0, none⟩ = some (.int .i64 2) := (cellO hk).trans rfl
 have k1 : Wf.cell? ⟨w.heap.size + 1, 1, none⟩ = some (.string ⟨#[]⟩) := (cellO hk).trans rfl
 have k2 : Wf.cell? ⟨w.heap.size + 1, 2, none⟩ = some (.slice na ns.length nc) := (cellO hk).trans rfl
 have k3 : Wf.cell? ⟨w.heap.size + 1, 3, none⟩ = some (.slice none 0 0) := (cellO hk).trans rfl
 have k4 : Wf.cell? ⟨w.heap.size + 1, 4, none⟩ = some (.string ⟨#[]⟩) := (cellO hk).trans rfl
 have k5 : Wf.cell? ⟨w.heap.size + 1, 5, none⟩ = some (.slice (some ⟨w2.heap.size, 0, none⟩) 1 1) := (cellO hk).trans rfl
 refine bodyPost_ret (v := .agg #[.int .i64 2, .string ⟨#[]⟩, .slice na ns.length nc, .slice none 0 0, .string ⟨#[]⟩, .slice (some ⟨w2.heap.size, 0, none⟩) 1 1]) (by simp [results, Tryz.results130, go_sem, k0, k1, k2, k3, k4, k5]) rfl ⟨hbF, _, rfl, set_fin HF3.out.2.2.2.2.1 HF3.out.2.2.2.2.2 HIN.out HW3.out HF4.out.1 (fun k k1 k2 => (hfr k k1).trans (Below.heap_setCell _ _ _ _ (by simpa using k2))) (by rw [hsz]; simp) HV.out (SV.nil _ _)⟩
theorem set_names3_no (d y : Dat) (b o kn cap yn yc : Nat) (ya : Option Addr) (dp : Int) (w : World) (hd0 : 0 ≤ dp) (hd : dp ≤ 12) (hk2 : 2 ≤ kn) (HT0 : ∀ W, Calls Tryz.prog 77 #[.agg #[.int .i64 d.kind, .int .i64 d.n, .string d.name, .int .i64 d.stamp, .int .i64 d.lib, .slice (some ⟨b, o, none⟩) kn cap]] W fun e w' => Below W.heap.size W w' ∧ e = .returned (.slice (some ⟨b, o, none⟩) kn cap)) (HK0 : ∀ W, Below w.heap.size w W → Calls Tryz.prog 143 #[.slice (some ⟨b, o, none⟩) kn cap] W fun e w' => e = .returned (.int .i64 3) ∧ w' = W) (HYD : ∀ W, Below w.heap.size w W → W.cell? ⟨b, o + 6, none⟩ = some (.int .i64 y.kind) ∧ W.cell? ⟨b, o + 6 + 1, none⟩ = some (.int .i64 y.n) ∧ W.cell? ⟨b, o + 6 + 2, none⟩ = some (.string y.name) ∧ W.cell? ⟨b, o + 6 + 3, none⟩ = some (.int .i64 y.stamp) ∧ W.cell? ⟨b, o + 6 + 4, none⟩ = some (.int .i64 y.lib) ∧ W.cell? ⟨b, o + 6 + 5, none⟩ = some (.slice ya yn yc)) (s : Se) (HS0 : ∀ W, Below w.heap.size w W → Calls Tryz.prog 130 #[.agg #[.int .i64 y.kind, .int .i64 y.n, .string y.name, .int .i64 y.stamp, .int .i64 y.lib, .slice ya yn yc], .int .i64 (dp + 1)] W fun e w' => Below W.heap.size W w' ∧ ∃ v, e = .returned v ∧ SeT W s v w') (ra : Option Addr) (HSL : ∀ u, (Instr.slice 24 (.slice (some ⟨b, o, none⟩) kn cap) (some (.int .i64 2)) none none).run Tryz.prog u = .ok (.slice ra (kn - 2) (cap - 2)) u) (z : Int) (HN0 : ∀ W, Below w.heap.size w W → Calls Tryz.prog 80 #[.slice ra (kn - 2) (cap - 2)] W fun e w' => Below W.heap.size W w' ∧ e = .panicked (thrownL z)) :
  Calls Tryz.prog 130 #[.agg #[.int .i64 d.kind, .int .i64 d.n, .string d.name, .int .i64 d.stamp, .int .i64 d.lib, .slice (some ⟨b, o, none⟩) kn cap], .int .i64 dp] w fun e w' => Below w.heap.size w w' ∧ e = .panicked (thrownL z) := by
 obtain ⟨W0, hW0⟩ : ∃ W0, W0 = (w.alloc (.cells #[.int .i64 d.kind, .int .i64 d.n, .string d.name, .int .i64 d.stamp, .int .i64 d.lib, .slice (some ⟨b, o, none⟩) kn cap] 26)).alloc (.cells #[.int .i64 0, .string ⟨#[]⟩, .slice none 0 0, .slice none 0 0, .string ⟨#[]⟩, .slice none 0 0] 73) := ⟨_, rfl⟩
 obtain ⟨g1, g2, g3, g4⟩ := set_boxes d (some ⟨b, o, none⟩) kn cap w
 rw [← hW0] at g1 g2 g3 g4
 have HB0 : Hid (Below w.heap.size w W0 ∧ W0.heap.size = w.heap.size + 2) := ⟨g1, g4⟩
 have HX : Hid (∀ W, Below W0.heap.size W0 W → W.heap[w.heap.size]? = some (.cells #[.int .i64 d.kind, .int .i64 d.n, .string d.name, .int .i64 d.stamp, .int .i64 d.lib, .slice (some ⟨b, o, none⟩) kn cap] 26 (0, 0)) ∧ W.heap[w.heap.size + 1]? = some (.cells #[.int .i64 0, .string ⟨#[]⟩, .slice none 0 0, .slice none 0 0, .string ⟨#[]⟩, .slice none 0 0] 73 (0, 0))) := fun W hb => ⟨(hb.block _ (by omega)).trans g2, (hb.block _ (by omega)).trans g3⟩
 have hw0 := hW0.symm
 have y0 : W0.cell? ⟨w.heap.size, 0, none⟩ = some (.int .i64 d.kind) := (cellO g2).trans rfl
 have y1 : W0.cell? ⟨w.heap.size, 1, none⟩ = some (.int .i64 d.n) := (cellO g2).trans rfl
 have y2 : W0.cell? ⟨w.heap.size, 2, none⟩ = some (.string d.name) := (cellO g2).trans rfl
 have y3 : W0.cell? ⟨w.heap.size, 3, none⟩ = some (.int .i64 d.stamp) := (cellO g2).trans rfl
 have y4 : W0.cell? ⟨w.heap.size, 4, none⟩ = some (.int .i64 d.lib) := (cellO g2).trans rfl
 have y5 : W0.cell? ⟨w.heap.size, 5, none⟩ = some (.slice (some ⟨b, o, none⟩) kn cap) := (cellO g2).trans rfl
 clear g1 g2 g3 g4 hW0
 have HY := hidd (must_yes 4)
 have c1 : decide (dp ≤ 12) = true := by simp; omega
 have hdp : dp ≤ 12 := by omega
 have HT := hidd HT0
 have HK := hidd HK0
 have HS := hidd HS0
 have HYY := hidd HYD
 have m1 : (1 : Int) < (kn : Int) := by omega
 clear HT0 HK0 HS0 HYD
 have HN := hidd HN0
 clear HN0
 go_enter Tryz.func130, Tryz.ntmps130
 go_wp2_with fail
 refine (HY.out _).mono ?_
 rintro e wm ⟨rfl, hwm⟩
 rw [hwm]
 clear hwm
 go_wp2_with fail
 refine (HT.out _).mono ?_
 rintro e w1 ⟨hb1, rfl⟩
 obtain ⟨x0, x1⟩ := HX.out w1 hb1
 have HB1 : Hid (Below w.heap.size w w1 ∧ Below W0.heap.size W0 w1) := ⟨HB0.out.1.trans (hb1.mono HB0.out.1.size), hb1⟩
 have z0 : w1.cell? ⟨w.heap.size, 0, none⟩ = some (.int .i64 d.kind) := (cellO x0).trans rfl
 have z1 : w1.cell? ⟨w.heap.size, 1, none⟩ = some (.int .i64 d.n) := (cellO x0).trans rfl
 have z2 : w1.cell? ⟨w.heap.size, 2, none⟩ = some (.string d.name) := (cellO x0).trans rfl
 have z3 : w1.cell? ⟨w.heap.size, 3, none⟩ = some (.int .i64 d.stamp) := (cellO x0).trans rfl
 have z4 : w1.cell? ⟨w.heap.size, 4, none⟩ = some (.int .i64 d.lib) := (cellO x0).trans rfl
 have z5 : w1.cell? ⟨w.heap.size, 5, none⟩ = some (.slice (some ⟨b, o, none⟩) kn cap) := (cellO x0).trans rfl
 clear hb1 x0 x1 y0 y1 y2 y3 y4 y5
 go_wp2_with fail
 refine (HK.out _ HB1.out.1).mono ?_
 rintro e wk ⟨rfl, hwk⟩
 rw [hwk]
 clear hwk
 obtain ⟨u0, u1, u2, u3, u4, u5⟩ := HYY.out w1 HB1.out.1
 go_wp2_with fail
 refine (HS.out _ HB1.out.1).mono ?_
 rintro e w2 ⟨hb2, v, rfl, hv⟩
 obtain ⟨sk, sn, sns, sas, sp, sks⟩ := s
 obtain ⟨sv2, sv3, sv5, rfl, hv2, hv3, hv5⟩ := hv
 have HIN : Hid (SeV (fun k => w1.heap.size ≤ k ∧ k < w2.heap.size) w2 (.mk sk sn sns sas sp sks) (.agg #[.int .i64 sk, .string sn, sv2, sv3, .string sp, sv5])) := ⟨sv2, sv3, sv5, rfl, hv2, hv3, hv5⟩
 obtain ⟨W3, hW3⟩ : ∃ W3, W3 = (w2.alloc (.cells #[.int .i64 sk, .string sn, sv2, sv3, .string sp, sv5] 73)).alloc (.cells #[.int .i64 3, .string ⟨#[]⟩, .slice none 0 0, .slice none 0 0, .string ⟨#[]⟩, .slice (some ⟨w2.heap.size, 0, none⟩) 1 1] 73) := ⟨_, rfl⟩
 have HW3 := hidd hW3
 have b3 : Below w2.heap.size w2 W3 := by rw [hW3]; exact ((Below.refl _ _).alloc (Nat.le_refl _) _).alloc (by simp) _
 have hS3 : W3.heap.size = w2.heap.size + 2 := by rw [hW3]; simp
 have hT3 : W3.heap[w2.heap.size + 1]? = some (.cells #[.int .i64 3, .string ⟨#[]⟩, .slice none 0 0, .slice none 0 0, .string ⟨#[]⟩, .slice (some ⟨w2.heap.size, 0, none⟩) 1 1] 73 (0, 0)) := by
  rw [hW3]
  have := World.alloc_heap_new (w2.alloc (.cells #[.int .i64 sk, .string sn, sv2, sv3, .string sp, sv5] 73)) (.cells #[.int .i64 3, .string ⟨#[]⟩, .slice none 0 0, .slice none 0 0, .string ⟨#[]⟩, .slice (some ⟨w2.heap.size, 0, none⟩) 1 1] 73)
  simpa using this
 have HF3 : Hid (Below w.heap.size w W3 ∧ Below W0.heap.size W0 W3 ∧ W3.heap.size = w2.heap.size + 2 ∧ W3.heap[w2.heap.size + 1]? = some (.cells #[.int .i64 3, .string ⟨#[]⟩, .slice none 0 0, .slice none 0 0, .string ⟨#[]⟩, .slice (some ⟨w2.heap.size, 0, none⟩) 1 1] 73 (0, 0)) ∧ w.heap.size + 2 ≤ w1.heap.size ∧ w1.heap.size ≤ w2.heap.size) := ⟨HB1.out.1.trans ((hb2.trans (b3.mono hb2.size)).mono HB1.out.1.size), HB1.out.2.trans ((hb2.trans (b3.mono hb2.size)).mono HB1.out.2.size), hS3, hT3, by have := HB1.out.2.size; have := HB0.out.2; omega, hb2.size⟩
 have hw3 := hW3.symm
 clear hv2 hv3 hv5 hb2 b3 hS3 hT3 hW3 z0 z1 z2 z3 z4 z5 u0 u1 u2 u3 u4 u5
 go_wp2_with fail
 refine (HN.out _ HF3.out.1).mono ?_
 rintro e w4 ⟨hb4, rfl⟩
 have HB4 : Hid (Below w.heap.size w w4) := HF3.out.1.trans (hb4.mono HF3.out.1.size)
 clear hb4
 go_wp2_with fail
 exact ⟨rfl, HB4.out, rfl⟩
theorem set_names3_ok (d y : Dat) (b o kn cap yn yc : Nat) (ya : Option Addr) (dp : Int) (w : World) (hd0 : 0 ≤ dp) (hd : dp ≤ 12) (hk2 : 2 ≤ kn) (HT0 : ∀ W, Calls Tryz.prog 77 #[.agg #[.int .i64 d.kind, .int .i64 d.n, .string d.name, .int .i64 d.stamp, .int .i64 d.lib, .slice (some ⟨b, o, none⟩) kn cap]] W fun e w' => Below W.heap.size W w' ∧ e = .returned (.slice (some ⟨b, o, none⟩) kn cap)) (HK0 : ∀ W, Below w.heap.size w W → Calls Tryz.prog 143 #[.slice (some ⟨b, o, none⟩) kn cap] W fun e w' => e = .returned (.int .i64 3) ∧ w' = W) (HYD : ∀ W, Below w.heap.size w W → W.cell? ⟨b, o + 6, none⟩ = some (.int .i64 y.kind) ∧ W.cell? ⟨b, o + 6 + 1, none⟩ = some (.int .i64 y.n) ∧ W.cell? ⟨b, o + 6 + 2, none⟩ = some (.string y.name) ∧ W.cell? ⟨b, o + 6 + 3, none⟩ = some (.int .i64 y.stamp) ∧ W.cell? ⟨b, o + 6 + 4, none⟩ = some (.int .i64 y.lib) ∧ W.cell? ⟨b, o + 6 + 5, none⟩ = some (.slice ya yn yc)) (s : Se) (HS0 : ∀ W, Below w.heap.size w W → Calls Tryz.prog 130 #[.agg #[.int .i64 y.kind, .int .i64 y.n, .string y.name, .int .i64 y.stamp, .int .i64 y.lib, .slice ya yn yc], .int .i64 (dp + 1)] W fun e w' => Below W.heap.size W w' ∧ ∃ v, e = .returned v ∧ SeT W s v w') (ra : Option Addr) (HSL : ∀ u, (Instr.slice 24 (.slice (some ⟨b, o, none⟩) kn cap) (some (.int .i64 2)) none none).run Tryz.prog u = .ok (.slice ra (kn - 2) (cap - 2)) u) (ns : List ByteArray) (HN0 : ∀ W, Below w.heap.size w W → Calls Tryz.prog 80 #[.slice ra (kn - 2) (cap - 2)] W fun e w' => Below W.heap.size W w' ∧ ∃ v, e = .returned v ∧ StrR W.heap.size ns v w') :
  Calls Tryz.prog 130 #[.agg #[.int .i64 d.kind, .int .i64 d.n, .string d.name, .int .i64 d.stamp, .int .i64 d.lib, .slice (some ⟨b, o, none⟩) kn cap], .int .i64 dp] w fun e w' => Below w.heap.size w w' ∧ ∃ v, e = .returned v ∧ SeT w (.mk 3 ⟨#[]⟩ ns [] ⟨#[]⟩ [s]) v w' := by
 obtain ⟨W0, hW0⟩ : ∃ W0, W0 = (w.alloc (.cells #[.int .i64 d.kind, .int .i64 d.n, .string d.name, .int .i64 d.stamp, .int .i64 d.lib, .slice (some ⟨b, o, none⟩) kn cap] 26)).alloc (.cells #[.int .i64 0, .string ⟨#[]⟩, .slice none 0 0, .slice none 0 0, .string ⟨#[]⟩, .slice none 0 0] 73) := ⟨_, rfl⟩
 obtain ⟨g1, g2, g3, g4⟩ := set_boxes d (some ⟨b, o, none⟩) kn cap w
 rw [← hW0] at g1 g2 g3 g4
 have HB0 : Hid (Below w.heap.size w W0 ∧ W0.heap.size = w.heap.size + 2) := ⟨g1, g4⟩
 have HX : Hid (∀ W, Below W0.heap.size W0 W → W.heap[w.heap.size]? = some (.cells #[.int .i64 d.kind, .int .i64 d.n, .string d.name, .int .i64 d.stamp, .int .i64 d.lib, .slice (some ⟨b, o, none⟩) kn cap] 26 (0, 0)) ∧ W.heap[w.heap.size + 1]? = some (.cells #[.int .i64 0, .string ⟨#[]⟩, .slice none 0 0, .slice none 0 0, .string ⟨#[]⟩, .slice none 0 0] 73 (0, 0))) := fun W hb => ⟨(hb.block _ (by omega)).trans g2, (hb.block _ (by omega)).trans g3⟩
 have hw0 := hW0.symm
 have y0 : W0.cell? ⟨w.heap.size, 0, none⟩ = some (.int .i64 d.kind) := (cellO g2).trans rfl
 have y1 : W0.cell? ⟨w.heap.size, 1, none⟩ = some (.int .i64 d.n) := (cellO g2).trans rfl
 have y2 : W0.cell? ⟨w.heap.size, 2, none⟩ = some (.string d.name) := (cellO g2).trans rfl
 have y3 : W0.cell? ⟨w.heap.size, 3, none⟩ = some (.int .i64 d.stamp) := (cellO g2).trans rfl
 have y4 : W0.cell? ⟨w.heap.size, 4, none⟩ = some (.int .i64 d.lib) := (cellO g2).trans rfl
 have y5 : W0.cell? ⟨w.heap.size, 5, none⟩ = some (.slice (some ⟨b, o, none⟩) kn cap) := (cellO g2).trans rfl
 clear g1 g2 g3 g4 hW0
 have HY := hidd (must_yes 4)
 have c1 : decide (dp ≤ 12) = true := by simp; omega
 have hdp : dp ≤ 12 := by omega
 have HT := hidd HT0
 have HK := hidd HK0
 have HS := hidd HS0
 have HYY := hidd HYD
 have m1 : (1 : Int) < (kn : Int) := by omega
 clear HT0 HK0 HS0 HYD
 have HN := hidd HN0
 clear HN0
 go_enter Tryz.func130, Tryz.ntmps130
 go_wp2_with fail
 refine (HY.out _).mono ?_
 rintro e wm ⟨rfl, hwm⟩
 rw [hwm]
 clear hwm
 go_wp2_with fail
 refine (HT.out _).mono ?_
 rintro e w1 ⟨hb1, rfl⟩
 obtain ⟨x0, x1⟩ := HX.out w1 hb1
 have HB1 : Hid (Below w.heap.size w w1 ∧ Below W0.heap.size W0 w1) := ⟨HB0.out.1.trans (hb1.mono HB0.out.1.size), hb1⟩
 have z0 : w1.cell? ⟨w.heap.size, 0, none⟩ = some (.int .i64 d.kind) := (cellO x0).trans rfl
 have z1 : w1.cell? ⟨w.heap.size, 1, none⟩ = some (.int .i64 d.n) := (cellO x0).trans rfl
 have z2 : w1.cell? ⟨w.heap.size, 2, none⟩ = some (.string d.name) := (cellO x0).trans rfl
 have z3 : w1.cell? ⟨w.heap.size, 3, none⟩ = some (.int .i64 d.stamp) := (cellO x0).trans rfl
 have z4 : w1.cell? ⟨w.heap.size, 4, none⟩ = some (.int .i64 d.lib) := (cellO x0).trans rfl
 have z5 : w1.cell? ⟨w.heap.size, 5, none⟩ = some (.slice (some ⟨b, o, none⟩) kn cap) := (cellO x0).trans rfl
 clear hb1 x0 x1 y0 y1 y2 y3 y4 y5
 go_wp2_with fail
 refine (HK.out _ HB1.out.1).mono ?_
 rintro e wk ⟨rfl, hwk⟩
 rw [hwk]
 clear hwk
 obtain ⟨u0, u1, u2, u3, u4, u5⟩ := HYY.out w1 HB1.out.1
 go_wp2_with fail
 refine (HS.out _ HB1.out.1).mono ?_
 rintro e w2 ⟨hb2, v, rfl, hv⟩
 obtain ⟨sk, sn, sns, sas, sp, sks⟩ := s
 obtain ⟨sv2, sv3, sv5, rfl, hv2, hv3, hv5⟩ := hv
 have HIN : Hid (SeV (fun k => w1.heap.size ≤ k ∧ k < w2.heap.size) w2 (.mk sk sn sns sas sp sks) (.agg #[.int .i64 sk, .string sn, sv2, sv3, .string sp, sv5])) := ⟨sv2, sv3, sv5, rfl, hv2, hv3, hv5⟩
 obtain ⟨W3, hW3⟩ : ∃ W3, W3 = (w2.alloc (.cells #[.int .i64 sk, .string sn, sv2, sv3, .string sp, sv5] 73)).alloc (.cells #[.int .i64 3, .string ⟨#[]⟩, .slice none 0 0, .slice none 0 0, .string ⟨#[]⟩, .slice (some ⟨w2.heap.size, 0, none⟩) 1 1] 73) := ⟨_, rfl⟩
 have HW3 := hidd hW3
 have b3 : Below w2.heap.size w2 W3 := by rw [hW3]; exact ((Below.refl _ _).alloc (Nat.le_refl _) _).alloc (by simp) _
 have hS3 : W3.heap.size = w2.heap.size + 2 := by rw [hW3]; simp
 have hT3 : W3.heap[w2.heap.size + 1]? = some (.cells #[.int .i64 3, .string ⟨#[]⟩, .slice none 0 0, .slice none 0 0, .string ⟨#[]⟩, .slice (some ⟨w2.heap.size, 0, none⟩) 1 1] 73 (0, 0)) := by
  rw [hW3]
  have := World.alloc_heap_new (w2.alloc (.cells #[.int .i64 sk, .string sn, sv2, sv3, .string sp, sv5] 73)) (.cells #[.int .i64 3, .string ⟨#[]⟩, .slice none 0 0, .slice none 0 0, .string ⟨#[]⟩, .slice (some ⟨w2.heap.size, 0, none⟩) 1 1] 73)
  simpa using this
 have HF3 : Hid (Below w.heap.size w W3 ∧ Below W0.heap.size W0 W3 ∧ W3.heap.size = w2.heap.size + 2 ∧ W3.heap[w2.heap.size + 1]? = some (.cells #[.int .i64 3, .string ⟨#[]⟩, .slice none 0 0, .slice none 0 0, .string ⟨#[]⟩, .slice (some ⟨w2.heap.size, 0, none⟩) 1 1] 73 (0, 0)) ∧ w.heap.size + 2 ≤ w1.heap.size ∧ w1.heap.size ≤ w2.heap.size) := ⟨HB1.out.1.trans ((hb2.trans (b3.mono hb2.size)).mono HB1.out.1.size), HB1.out.2.trans ((hb2.trans (b3.mono hb2.size)).mono HB1.out.2.size), hS3, hT3, by have := HB1.out.2.size; have := HB0.out.2; omega, hb2.size⟩
 have hw3 := hW3.symm
 clear hv2 hv3 hv5 hb2 b3 hS3 hT3 hW3 z0 z1 z2 z3 z4 z5 u0 u1 u2 u3 u4 u5
 go_wp2_with fail
 refine (HN.out _ HF3.out.1).mono ?_
 rintro e w4 ⟨hb4, nv, rfl, hnv⟩
 obtain ⟨na, nc, rfl, _⟩ := own_sliceL hnv
 have HV := hidd (StrR.sv hnv)
 clear hnv
 have HF4 : Hid (Below W3.heap.size W3 w4 ∧ Below w.heap.size w w4) := ⟨hb4, HF3.out.1.trans (hb4.mono HF3.out.1.size)⟩
 have h4T : w4.heap[w2.heap.size + 1]? = some (.cells #[.int .i64 3, .string ⟨#[]⟩, .slice none 0 0, .slice none 0 0, .string ⟨#[]⟩, .slice (some ⟨w2.heap.size, 0, none⟩) 1 1] 73 (0, 0)) := (hb4.block _ (by have := HF3.out.2.2.1; omega)).trans HF3.out.2.2.2.1
 have h4R := (HX.out w4 (HF3.out.2.1.trans (hb4.mono HF3.out.2.1.size))).2
 have hRT : w.heap.size + 1 ≠ w2.heap.size + 1 := by have := HF3.out.2.2.2.2; omega
 have hTR : w2.heap.size + 1 ≠ w.heap.size + 1 := fun h => hRT h.symm
 have t0 := (cellO (q := 0) h4T).trans rfl
 have f0 := looseO (q := 0) h4T
 have t1 := (cellO (q := 1) h4T).trans rfl
 have f1 := looseO (q := 1) h4T
 have t2 := (cellO (q := 2) h4T).trans rfl
 have f2 := looseO (q := 2) h4T
 have t3 := (cellO (q := 3) h4T).trans rfl
 have f3 := looseO (q := 3) h4T
 have t4 := (cellO (q := 4) h4T).trans rfl
 have f4 := looseO (q := 4) h4T
 have t5 := (cellO (q := 5) h4T).trans rfl
 have f5 := looseO (q := 5) h4T
 have r0 := (cellO (q := 0) h4R).trans rfl
 have s0 := looseO (q := 0) h4R
 have r1 := (cellO (q := 1) h4R).trans rfl
 have s1 := looseO (q := 1) h4R
 have r2 := (cellO (q := 2) h4R).trans rfl
 have s2 := looseO (q := 2) h4R
 have r3 := (cellO (q := 3) h4R).trans rfl
 have s3 := looseO (q := 3) h4R
 have r4 := (cellO (q := 4) h4R).trans rfl
 have s4 := looseO (q := 4) h4R
 have r5 := (cellO (q := 5) h4R).trans rfl
 have s5 := looseO (q := 5) h4R
 have H4 : Hid (w4.heap[w2.heap.size + 1]? = some (.cells #[.int .i64 3, .string ⟨#[]⟩, .slice none 0 0, .slice none 0 0, .string ⟨#[]⟩, .slice (some ⟨w2.heap.size, 0, none⟩) 1 1] 73 (0, 0)) ∧ w4.heap[w.heap.size + 1]? = some (.cells #[.int .i64 0, .string ⟨#[]⟩, .slice none 0 0, .slice none 0 0, .string ⟨#[]⟩, .slice none 0 0] 73 (0, 0))) := ⟨h4T, h4R⟩
 clear hb4 h4T h4R
 go_wp2_with fail
 have hk := set6 (show (w4.setCell ⟨w2.heap.size + 1, 2, none⟩ (.slice na ns.length nc)).heap[w.heap.size + 1]? = some (.cells #[.int .i64 0, .string ⟨#[]⟩, .slice none 0 0, .slice none 0 0, .string ⟨#[]⟩, .slice none 0 0] 73 (0, 0)) by rw [Below.heap_setCell _ _ _ _ hRT]; exact H4.out.2) (.int .i64 3) (.string ⟨#[]⟩) (.slice na ns.length nc) (.slice none 0 0) (.string ⟨#[]⟩) (.slice (some ⟨w2.heap.size, 0, none⟩) 1 1)
 have hbF : Below w.heap.size w ((((((((w4.setCell ⟨w2.heap.size + 1, 2, none⟩ (.slice na ns.length nc)).setCell ⟨w.heap.size + 1, 0, none⟩ (.int .i64 3)).setCell ⟨w.heap.size + 1, 1, none⟩ (.string ⟨#[]⟩)).setCell ⟨w.heap.size + 1, 2, none⟩ (.slice na ns.length nc)).setCell ⟨w.heap.size + 1, 3, none⟩ (.slice none 0 0)).setCell ⟨w.heap.size + 1, 4, none⟩ (.string ⟨#[]⟩)).setCell ⟨w.heap.size + 1, 5, none⟩ (.slice (some ⟨w2.heap.size, 0, none⟩) 1 1))) := (Below.setCell (Below.setCell (Below.setCell (Below.setCell (Below.setCell (Below.setCell (Below.setCell HF4.out.2 (p := ⟨w2.heap.size + 1, 2, none⟩) (by have := HF3.out.2.2.2.2; show w.heap.size ≤ w2.heap.size + 1; omega) _) (p := ⟨w.heap.size + 1, 0, none⟩) (Nat.le_succ _) _) (p := ⟨w.heap.size + 1, 1, none⟩) (Nat.le_succ _) _) (p := ⟨w.heap.size + 1, 2, none⟩) (Nat.le_succ _) _) (p := ⟨w.heap.size + 1, 3, none⟩) (Nat.le_succ _) _) (p := ⟨w.heap.size + 1, 4, none⟩) (Nat.le_succ _) _) (p := ⟨w.heap.size + 1, 5, none⟩) (Nat.le_succ _) _)
 have hfr : ∀ k, k ≠ w.heap.size + 1 → ((((((((w4.setCell ⟨w2.heap.size + 1, 2, none⟩ (.slice na ns.length nc)).setCell ⟨w.heap.size + 1, 0, none⟩ (.int .i64 3)).setCell ⟨w.heap.size + 1, 1, none⟩ (.string ⟨#[]⟩)).setCell ⟨w.heap.size + 1, 2, none⟩ (.slice na ns.length nc)).setCell ⟨w.heap.size + 1, 3, none⟩ (.slice none 0 0)).setCell ⟨w.heap.size + 1, 4, none⟩ (.string ⟨#[]⟩)).setCell ⟨w.heap.size + 1, 5, none⟩ (.slice (some ⟨w2.heap.size, 0, none⟩) 1 1))).heap[k]? = (w4.setCell ⟨w2.heap.size + 1, 2, none⟩ (.slice na ns.length nc)).heap[k]? := fun k hk => six_far hk _ _ _ _ _ _
 have hsz : ((((((((w4.setCell ⟨w2.heap.size + 1, 2, none⟩ (.slice na ns.length nc)).setCell ⟨w.heap.size + 1, 0, none⟩ (.int .i64 3)).setCell ⟨w.heap.size + 1, 1, none⟩ (.string ⟨#[]⟩)).setCell ⟨w.heap.size + 1, 2, none⟩ (.slice na ns.length nc)).setCell ⟨w.heap.size + 1, 3, none⟩ (.slice none 0 0)).setCell ⟨w.heap.size + 1, 4, none⟩ (.string ⟨#[]⟩)).setCell ⟨w.heap.size + 1, 5, none⟩ (.slice (some ⟨w2.heap.size, 0, none⟩) 1 1))).heap.size = (w4.setCell ⟨w2.heap.size + 1, 2, none⟩ (.slice na ns.length nc)).heap.size := by simp
 generalize ((((((((w4.setCell ⟨w2.heap.size + 1, 2, none⟩ (.slice na ns.length nc)).setCell ⟨w.heap.size + 1, 0, none⟩ (.int .i64 3)).setCell ⟨w.heap.size + 1, 1, none⟩ (.string ⟨#[]⟩)).setCell ⟨w.heap.size + 1, 2, none⟩ (.slice na ns.length nc)).setCell ⟨w.heap.size + 1, 3, none⟩ (.slice none 0 0)).setCell ⟨w.heap.size + 1, 4, none⟩ (.string ⟨#[]⟩)).setCell ⟨w.heap.size + 1, 5, none⟩ (.slice (some ⟨w2.heap.size, 0, none⟩) 1 1))) = Wf at hk hbF hfr hsz ⊢
 have k0 : Wf.cell? ⟨w.heap.size + 1, 0, none⟩ = some (.int .i64 3) := (cellO hk).trans rfl
 have k1 : Wf.cell? ⟨w.heap.size + 1, 1, none⟩ = some (.string ⟨#[]⟩) := (cellO hk).trans rfl
 have k2 : Wf.cell? ⟨w.heap.size + 1, 2, none⟩ = some (.slice na ns.length nc) := (cellO hk).trans rfl
 have k3 : Wf.cell? ⟨w.heap.size + 1, 3, none⟩ = some (.slice none 0 0) := (cellO hk).trans rfl
 have k4 : Wf.cell? ⟨w.heap.size + 1, 4, none⟩ = some (.string ⟨#[]⟩) := (cellO hk).trans rfl
 have k5 : Wf.cell? ⟨w.heap.size + 1, 5, none⟩ = some (.slice (some ⟨w2.heap.size, 0, none⟩) 1 1) := (cellO hk).trans rfl
 refine bodyPost_ret (v := .agg #[.int .i64 3, .string ⟨#[]⟩, .slice na ns.length nc, .slice none 0 0, .string ⟨#[]⟩, .slice (some ⟨w2.heap.size, 0, none⟩) 1 1]) (by simp [results, Tryz.results130, go_sem, k0, k1, k2, k3, k4, k5]) rfl ⟨hbF, _, rfl, set_fin HF3.out.2.2.2.2.1 HF3.out.2.2.2.2.2 HIN.out HW3.out HF4.out.1 (fun k k1 k2 => (hfr k k1).trans (Below.heap_setCell _ _ _ _ (by simpa using k2))) (by rw [hsz]; simp) HV.out (SV.nil _ _)⟩
theorem set_one_no (d y : Dat) (b o kn cap yn yc : Nat) (ya : Option Addr) (dp : Int) (w : World) (hd0 : 0 ≤ dp) (hd : dp ≤ 12) (hk2 : 2 ≤ kn) (HT0 : ∀ W, Calls Tryz.prog 77 #[.agg #[.int .i64 d.kind, .int .i64 d.n, .string d.name, .int .i64 d.stamp, .int .i64 d.lib, .slice (some ⟨b, o, none⟩) kn cap]] W fun e w' => Below W.heap.size W w' ∧ e = .returned (.slice (some ⟨b, o, none⟩) kn cap)) (HK0 : ∀ W, Below w.heap.size w W → Calls Tryz.prog 143 #[.slice (some ⟨b, o, none⟩) kn cap] W fun e w' => e = .returned (.int .i64 4) ∧ w' = W) (HYD : ∀ W, Below w.heap.size w W → W.cell? ⟨b, o + 6, none⟩ = some (.int .i64 y.kind) ∧ W.cell? ⟨b, o + 6 + 1, none⟩ = some (.int .i64 y.n) ∧ W.cell? ⟨b, o + 6 + 2, none⟩ = some (.string y.name) ∧ W.cell? ⟨b, o + 6 + 3, none⟩ = some (.int .i64 y.stamp) ∧ W.cell? ⟨b, o + 6 + 4, none⟩ = some (.int .i64 y.lib) ∧ W.cell? ⟨b, o + 6 + 5, none⟩ = some (.slice ya yn yc)) (s : Se) (HS0 : ∀ W, Below w.heap.size w W → Calls Tryz.prog 130 #[.agg #[.int .i64 y.kind, .int .i64 y.n, .string y.name, .int .i64 y.stamp, .int .i64 y.lib, .slice ya yn yc], .int .i64 (dp + 1)] W fun e w' => Below W.heap.size W w' ∧ ∃ v, e = .returned v ∧ SeT W s v w') (ra : Option Addr) (HSL : ∀ u, (Instr.slice 24 (.slice (some ⟨b, o, none⟩) kn cap) (some (.int .i64 2)) none none).run Tryz.prog u = .ok (.slice ra (kn - 2) (cap - 2)) u) (z : Int) (HO0 : ∀ W, Below w.heap.size w W → Calls Tryz.prog 144 #[.slice ra (kn - 2) (cap - 2)] W fun e w' => Below W.heap.size W w' ∧ e = .panicked (thrownL z)) :
  Calls Tryz.prog 130 #[.agg #[.int .i64 d.kind, .int .i64 d.n, .string d.name, .int .i64 d.stamp, .int .i64 d.lib, .slice (some ⟨b, o, none⟩) kn cap], .int .i64 dp] w fun e w' => Below w.heap.size w w' ∧ e = .panicked (thrownL z) := by
 obtain ⟨W0, hW0⟩ : ∃ W0, W0 = (w.alloc (.cells #[.int .i64 d.kind, .int .i64 d.n, .string d.name, .int .i64 d.stamp, .int .i64 d.lib, .slice (some ⟨b, o, none⟩) kn cap] 26)).alloc (.cells #[.int .i64 0, .string ⟨#[]⟩, .slice none 0 0, .slice none 0 0, .string ⟨#[]⟩, .slice none 0 0] 73) := ⟨_, rfl⟩
 obtain ⟨g1, g2, g3, g4⟩ := set_boxes d (some ⟨b, o, none⟩) kn cap w
 rw [← hW0] at g1 g2 g3 g4
 have HB0 : Hid (Below w.heap.size w W0 ∧ W0.heap.size = w.heap.size + 2) := ⟨g1, g4⟩
 have HX : Hid (∀ W, Below W0.heap.size W0 W → W.heap[w.heap.size]? = some (.cells #[.int .i64 d.kind, .int .i64 d.n, .string d.name, .int .i64 d.stamp, .int .i64 d.lib, .slice (some ⟨b, o, none⟩) kn cap] 26 (0, 0)) ∧ W.heap[w.heap.size + 1]? = some (.cells #[.int .i64 0, .string ⟨#[]⟩, .slice none 0 0, .slice none 0 0, .string ⟨#[]⟩, .slice none 0 0] 73 (0, 0))) := fun W hb => ⟨(hb.block _ (by omega)).trans g2, (hb.block _ (by omega)).trans g3⟩
 have hw0 := hW0.symm
 have y0 : W0.cell? ⟨w.heap.size, 0, none⟩ = some (.int .i64 d.kind) := (cellO g2).trans rfl
 have y1 : W0.cell? ⟨w.heap.size, 1, none⟩ = some (.int .i64 d.n) := (cellO g2).trans rfl
 have y2 : W0.cell? ⟨w.heap.size, 2, none⟩ = some (.string d.name) := (cellO g2).trans rfl
 have y3 : W0.cell? ⟨w.heap.size, 3, none⟩ = some (.int .i64 d.stamp) := (cellO g2).trans rfl
 have y4 : W0.cell? ⟨w.heap.size, 4, none⟩ = some (.int .i64 d.lib) := (cellO g2).trans rfl
 have y5 : W0.cell? ⟨w.heap.size, 5, none⟩ = some (.slice (some ⟨b, o, none⟩) kn cap) := (cellO g2).trans rfl
 clear g1 g2 g3 g4 hW0
 have HY := hidd (must_yes 4)
 have c1 : decide (dp ≤ 12) = true := by simp; omega
 have hdp : dp ≤ 12 := by omega
 have HT := hidd HT0
 have HK := hidd HK0
 have HS := hidd HS0
 have HYY := hidd HYD
 have m1 : (1 : Int) < (kn : Int) := by omega
 clear HT0 HK0 HS0 HYD
 have HO := hidd HO0
 clear HO0
 go_enter Tryz.func130, Tryz.ntmps130
 go_wp2_with fail
 refine (HY.out _).mono ?_
 rintro e wm ⟨rfl, hwm⟩
 rw [hwm]
 clear hwm
 go_wp2_with fail
 refine (HT.out _).mono ?_
 rintro e w1 ⟨hb1, rfl⟩
 obtain ⟨x0, x1⟩ := HX.out w1 hb1
 have HB1 : Hid (Below w.heap.size w w1 ∧ Below W0.heap.size W0 w1) := ⟨HB0.out.1.trans (hb1.mono HB0.out.1.size), hb1⟩
 have z0 : w1.cell? ⟨w.heap.size, 0, none⟩ = some (.int .i64 d.kind) := (cellO x0).trans rfl
 have z1 : w1.cell? ⟨w.heap.size, 1, none⟩ = some (.int .i64 d.n) := (cellO x0).trans rfl
 have z2 : w1.cell? ⟨w.heap.size, 2, none⟩ = some (.string d.name) := (cellO x0).trans rfl
 have z3 : w1.cell? ⟨w.heap.size, 3, none⟩ = some (.int .i64 d.stamp) := (cellO x0).trans rfl
 have z4 : w1.cell? ⟨w.heap.size, 4, none⟩ = some (.int .i64 d.lib) := (cellO x0).trans rfl
 have z5 : w1.cell? ⟨w.heap.size, 5, none⟩ = some (.slice (some ⟨b, o, none⟩) kn cap) := (cellO x0).trans rfl
 clear hb1 x0 x1 y0 y1 y2 y3 y4 y5
 go_wp2_with fail
 refine (HK.out _ HB1.out.1).mono ?_
 rintro e wk ⟨rfl, hwk⟩
 rw [hwk]
 clear hwk
 obtain ⟨u0, u1, u2, u3, u4, u5⟩ := HYY.out w1 HB1.out.1
 go_wp2_with fail
 refine (HS.out _ HB1.out.1).mono ?_
 rintro e w2 ⟨hb2, v, rfl, hv⟩
 obtain ⟨sk, sn, sns, sas, sp, sks⟩ := s
 obtain ⟨sv2, sv3, sv5, rfl, hv2, hv3, hv5⟩ := hv
 have HIN : Hid (SeV (fun k => w1.heap.size ≤ k ∧ k < w2.heap.size) w2 (.mk sk sn sns sas sp sks) (.agg #[.int .i64 sk, .string sn, sv2, sv3, .string sp, sv5])) := ⟨sv2, sv3, sv5, rfl, hv2, hv3, hv5⟩
 obtain ⟨W3, hW3⟩ : ∃ W3, W3 = (w2.alloc (.cells #[.int .i64 sk, .string sn, sv2, sv3, .string sp, sv5] 73)).alloc (.cells #[.int .i64 4, .string ⟨#[]⟩, .slice none 0 0, .slice none 0 0, .string ⟨#[]⟩, .slice (some ⟨w2.heap.size, 0, none⟩) 1 1] 73) := ⟨_, rfl⟩
 have HW3 := hidd hW3
 have b3 : Below w2.heap.size w2 W3 := by rw [hW3]; exact ((Below.refl _ _).alloc (Nat.le_refl _) _).alloc (by simp) _
 have hS3 : W3.heap.size = w2.heap.size + 2 := by rw [hW3]; simp
 have hT3 : W3.heap[w2.heap.size + 1]? = some (.cells #[.int .i64 4, .string ⟨#[]⟩, .slice none 0 0, .slice none 0 0, .string ⟨#[]⟩, .slice (some ⟨w2.heap.size, 0, none⟩) 1 1] 73 (0, 0)) := by
  rw [hW3]
  have := World.alloc_heap_new (w2.alloc (.cells #[.int .i64 sk, .string sn, sv2, sv3, .string sp, sv5] 73)) (.cells #[.int .i64 4, .string ⟨#[]⟩, .slice none 0 0, .slice none 0 0, .string ⟨#[]⟩, .slice (some ⟨w2.heap.size, 0, none⟩) 1 1] 73)
  simpa using this
 have HF3 : Hid (Below w.heap.size w W3 ∧ Below W0.heap.size W0 W3 ∧ W3.heap.size = w2.heap.size + 2 ∧ W3.heap[w2.heap.size + 1]? = some (.cells #[.int .i64 4, .string ⟨#[]⟩, .slice none 0 0, .slice none 0 0, .string ⟨#[]⟩, .slice (some ⟨w2.heap.size, 0, none⟩) 1 1] 73 (0, 0)) ∧ w.heap.size + 2 ≤ w1.heap.size ∧ w1.heap.size ≤ w2.heap.size) := ⟨HB1.out.1.trans ((hb2.trans (b3.mono hb2.size)).mono HB1.out.1.size), HB1.out.2.trans ((hb2.trans (b3.mono hb2.size)).mono HB1.out.2.size), hS3, hT3, by have := HB1.out.2.size; have := HB0.out.2; omega, hb2.size⟩
 have hw3 := hW3.symm
 clear hv2 hv3 hv5 hb2 b3 hS3 hT3 hW3 z0 z1 z2 z3 z4 z5 u0 u1 u2 u3 u4 u5
 go_wp2_with fail
 refine (HO.out _ HF3.out.1).mono ?_
 rintro e w4 ⟨hb4, rfl⟩
 have HB4 : Hid (Below w.heap.size w w4) := HF3.out.1.trans (hb4.mono HF3.out.1.size)
 clear hb4
 go_wp2_with fail
 exact ⟨rfl, HB4.out, rfl⟩
theorem set_pre_no (d y : Dat) (b o kn cap yn yc : Nat) (ya : Option Addr) (dp : Int) (w : World) (hd0 : 0 ≤ dp) (hd : dp ≤ 12) (hk2 : 2 ≤ kn) (HT0 : ∀ W, Calls Tryz.prog 77 #[.agg #[.int .i64 d.kind, .int .i64 d.n, .string d.name, .int .i64 d.stamp, .int .i64 d.lib, .slice (some ⟨b, o, none⟩) kn cap]] W fun e w' => Below W.heap.size W w' ∧ e = .returned (.slice (some ⟨b, o, none⟩) kn cap)) (HK0 : ∀ W, Below w.heap.size w W → Calls Tryz.prog 143 #[.slice (some ⟨b, o, none⟩) kn cap] W fun e w' => e = .returned (.int .i64 4) ∧ w' = W) (HYD : ∀ W, Below w.heap.size w W → W.cell? ⟨b, o + 6, none⟩ = some (.int .i64 y.kind) ∧ W.cell? ⟨b, o + 6 + 1, none⟩ = some (.int .i64 y.n) ∧ W.cell? ⟨b, o + 6 + 2, none⟩ = some (.string y.name) ∧ W.cell? ⟨b, o + 6 + 3, none⟩ = some (.int .i64 y.stamp) ∧ W.cell? ⟨b, o + 6 + 4, none⟩ = some (.int .i64 y.lib) ∧ W.cell? ⟨b, o + 6 + 5, none⟩ = some (.slice ya yn yc)) (s : Se) (HS0 : ∀ W, Below w.heap.size w W → Calls Tryz.prog 130 #[.agg #[.int .i64 y.kind, .int .i64 y.n, .string y.name, .int .i64 y.stamp, .int .i64 y.lib, .slice ya yn yc], .int .i64 (dp + 1)] W fun e w' => Below W.heap.size W w' ∧ ∃ v, e = .returned v ∧ SeT W s v w') (ra : Option Addr) (HSL : ∀ u, (Instr.slice 24 (.slice (some ⟨b, o, none⟩) kn cap) (some (.int .i64 2)) none none).run Tryz.prog u = .ok (.slice ra (kn - 2) (cap - 2)) u) (x : Dat) (xa : Option Addr) (xn xc : Nat) (HO0 : ∀ W, Below w.heap.size w W → Calls Tryz.prog 144 #[.slice ra (kn - 2) (cap - 2)] W fun e w' => Below W.heap.size W w' ∧ e = .returned (.agg #[.int .i64 x.kind, .int .i64 x.n, .string x.name, .int .i64 x.stamp, .int .i64 x.lib, .slice xa xn xc])) (z : Int) (HM0 : ∀ W, Calls Tryz.prog 78 #[.agg #[.int .i64 x.kind, .int .i64 x.n, .string x.name, .int .i64 x.stamp, .int .i64 x.lib, .slice xa xn xc]] W fun e w' => Below W.heap.size W w' ∧ e = .panicked (thrownL z)) :
  Calls Tryz.prog 130 #[.agg #[.int .i64 d.kind, .int .i64 d.n, .string d.name, .int .i64 d.stamp, .int .i64 d.lib, .slice (some ⟨b, o, none⟩) kn cap], .int .i64 dp] w fun e w' => Below w.heap.size w w' ∧ e = .panicked (thrownL z) := by
 obtain ⟨W0, hW0⟩ : ∃ W0, W0 = (w.alloc (.cells #[.int .i64 d.kind, .int .i64 d.n, .string d.name, .int .i64 d.stamp, .int .i64 d.lib, .slice (some ⟨b, o, none⟩) kn cap] 26)).alloc (.cells #[.int .i64 0, .string ⟨#[]⟩, .slice none 0 0, .slice none 0 0, .string ⟨#[]⟩, .slice none 0 0] 73) := ⟨_, rfl⟩
 obtain ⟨g1, g2, g3, g4⟩ := set_boxes d (some ⟨b, o, none⟩) kn cap w
 rw [← hW0] at g1 g2 g3 g4
 have HB0 : Hid (Below w.heap.size w W0 ∧ W0.heap.size = w.heap.size + 2) := ⟨g1, g4⟩
 have HX : Hid (∀ W, Below W0.heap.size W0 W → W.heap[w.heap.size]? = some (.cells #[.int .i64 d.kind, .int .i64 d.n, .string d.name, .int .i64 d.stamp, .int .i64 d.lib, .slice (some ⟨b, o, none⟩) kn cap] 26 (0, 0)) ∧ W.heap[w.heap.size + 1]? = some (.cells #[.int .i64 0, .string ⟨#[]⟩, .slice none 0 0, .slice none 0 0, .string ⟨#[]⟩, .slice none 0 0] 73 (0, 0))) := fun W hb => ⟨(hb.block _ (by omega)).trans g2, (hb.block _ (by omega)).trans g3⟩
 have hw0 := hW0.symm
 have y0 : W0.cell? ⟨w.heap.size, 0, none⟩ = some (.int .i64 d.kind) := (cellO g2).trans rfl
 have y1 : W0.cell? ⟨w.heap.size, 1, none⟩ = some (.int .i64 d.n) := (cellO g2).trans rfl
 have y2 : W0.cell? ⟨w.heap.size, 2, none⟩ = some (.string d.name) := (cellO g2).trans rfl
 have y3 : W0.cell? ⟨w.heap.size, 3, none⟩ = some (.int .i64 d.stamp) := (cellO g2).trans rfl
 have y4 : W0.cell? ⟨w.heap.size, 4, none⟩ = some (.int .i64 d.lib) := (cellO g2).trans rfl
 have y5 : W0.cell? ⟨w.heap.size, 5, none⟩ = some (.slice (some ⟨b, o, none⟩) kn cap) := (cellO g2).trans rfl
 clear g1 g2 g3 g4 hW0
 have HY := hidd (must_yes 4)
 have c1 : decide (dp ≤ 12) = true := by simp; omega
 have hdp : dp ≤ 12 := by omega
 have HT := hidd HT0
 have HK := hidd HK0
 have HS := hidd HS0
 have HYY := hidd HYD
 have m1 : (1 : Int) < (kn : Int) := by omega
 clear HT0 HK0 HS0 HYD
 have HO := hidd HO0
 have HM := hidd HM0
 clear HO0 HM0
 go_enter Tryz.func130, Tryz.ntmps130
 go_wp2_with fail
 refine (HY.out _).mono ?_
 rintro e wm ⟨rfl, hwm⟩
 rw [hwm]
 clear hwm
 go_wp2_with fail
 refine (HT.out _).mono ?_
 rintro e w1 ⟨hb1, rfl⟩
 obtain ⟨x0, x1⟩ := HX.out w1 hb1
 have HB1 : Hid (Below w.heap.size w w1 ∧ Below W0.heap.size W0 w1) := ⟨HB0.out.1.trans (hb1.mono HB0.out.1.size), hb1⟩
 have z0 : w1.cell? ⟨w.heap.size, 0, none⟩ = some (.int .i64 d.kind) := (cellO x0).trans rfl
 have z1 : w1.cell? ⟨w.heap.size, 1, none⟩ = some (.int .i64 d.n) := (cellO x0).trans rfl
 have z2 : w1.cell? ⟨w.heap.size, 2, none⟩ = some (.string d.name) := (cellO x0).trans rfl
 have z3 : w1.cell? ⟨w.heap.size, 3, none⟩ = some (.int .i64 d.stamp) := (cellO x0).trans rfl
 have z4 : w1.cell? ⟨w.heap.size, 4, none⟩ = some (.int .i64 d.lib) := (cellO x0).trans rfl
 have z5 : w1.cell? ⟨w.heap.size, 5, none⟩ = some (.slice (some ⟨b, o, none⟩) kn cap) := (cellO x0).trans rfl
 clear hb1 x0 x1 y0 y1 y2 y3 y4 y5
 go_wp2_with fail
 refine (HK.out _ HB1.out.1).mono ?_
 rintro e wk ⟨rfl, hwk⟩
 rw [hwk]
 clear hwk
 obtain ⟨u0, u1, u2, u3, u4, u5⟩ := HYY.out w1 HB1.out.1
 go_wp2_with fail
 refine (HS.out _ HB1.out.1).mono ?_
 rintro e w2 ⟨hb2, v, rfl, hv⟩
 obtain ⟨sk, sn, sns, sas, sp, sks⟩ := s
 obtain ⟨sv2, sv3, sv5, rfl, hv2, hv3, hv5⟩ := hv
 have HIN : Hid (SeV (fun k => w1.heap.size ≤ k ∧ k < w2.heap.size) w2 (.mk sk sn sns sas sp sks) (.agg #[.int .i64 sk, .string sn, sv2, sv3, .string sp, sv5])) := ⟨sv2, sv3, sv5, rfl, hv2, hv3, hv5⟩
 obtain ⟨W3, hW3⟩ : ∃ W3, W3 = (w2.alloc (.cells #[.int .i64 sk, .string sn, sv2, sv3, .string sp, sv5] 73)).alloc (.cells #[.int .i64 4, .string ⟨#[]⟩, .slice none 0 0, .slice none 0 0, .string ⟨#[]⟩, .slice (some ⟨w2.heap.size, 0, none⟩) 1 1] 73) := ⟨_, rfl⟩
 have HW3 := hidd hW3
 have b3 : Below w2.heap.size w2 W3 := by rw [hW3]; exact ((Below.refl _ _).alloc (Nat.le_refl _) _).alloc (by simp) _
 have hS3 : W3.heap.size = w2.heap.size + 2 := by rw [hW3]; simp
 have hT3 : W3.heap[w2.heap.size + 1]? = some (.cells #[.int .i64 4, .string ⟨#[]⟩, .slice none 0 0, .slice none 0 0, .string ⟨#[]⟩, .slice (some ⟨w2.heap.size, 0, none⟩) 1 1] 73 (0, 0)) := by
  rw [hW3]
  have := World.alloc_heap_new (w2.alloc (.cells #[.int .i64 sk, .string sn, sv2, sv3, .string sp, sv5] 73)) (.cells #[.int .i64 4, .string ⟨#[]⟩, .slice none 0 0, .slice none 0 0, .string ⟨#[]⟩, .slice (some ⟨w2.heap.size, 0, none⟩) 1 1] 73)
  simpa using this
 have HF3 : Hid (Below w.heap.size w W3 ∧ Below W0.heap.size W0 W3 ∧ W3.heap.size = w2.heap.size + 2 ∧ W3.heap[w2.heap.size + 1]? = some (.cells #[.int .i64 4, .string ⟨#[]⟩, .slice none 0 0, .slice none 0 0, .string ⟨#[]⟩, .slice (some ⟨w2.heap.size, 0, none⟩) 1 1] 73 (0, 0)) ∧ w.heap.size + 2 ≤ w1.heap.size ∧ w1.heap.size ≤ w2.heap.size) := ⟨HB1.out.1.trans ((hb2.trans (b3.mono hb2.size)).mono HB1.out.1.size), HB1.out.2.trans ((hb2.trans (b3.mono hb2.size)).mono HB1.out.2.size), hS3, hT3, by have := HB1.out.2.size; have := HB0.out.2; omega, hb2.size⟩
 have hw3 := hW3.symm
 clear hv2 hv3 hv5 hb2 b3 hS3 hT3 hW3 z0 z1 z2 z3 z4 z5 u0 u1 u2 u3 u4 u5
 go_wp2_with fail
 refine (HO.out _ HF3.out.1).mono ?_
 rintro e w5 ⟨hb5, rfl⟩
 have HF5 := hidd hb5
 clear hb5
 go_wp2_with fail
 refine (HM.out _).mono ?_
 rintro e w4 ⟨hb4', rfl⟩
 have HB4 : Hid (Below w.heap.size w w4) := HF3.out.1.trans ((HF5.out.trans (hb4'.mono HF5.out.size)).mono HF3.out.1.size)
 clear hb4'
 go_wp2_with fail
 exact ⟨rfl, HB4.out, rfl⟩
theorem set_pre_ok (d y : Dat) (b o kn cap yn yc : Nat) (ya : Option Addr) (dp : Int) (w : World) (hd0 : 0 ≤ dp) (hd : dp ≤ 12) (hk2 : 2 ≤ kn) (HT0 : ∀ W, Calls Tryz.prog 77 #[.agg #[.int .i64 d.kind, .int .i64 d.n, .string d.name, .int .i64 d.stamp, .int .i64 d.lib, .slice (some ⟨b, o, none⟩) kn cap]] W fun e w' => Below W.heap.size W w' ∧ e = .returned (.slice (some ⟨b, o, none⟩) kn cap)) (HK0 : ∀ W, Below w.heap.size w W → Calls Tryz.prog 143 #[.slice (some ⟨b, o, none⟩) kn cap] W fun e w' => e = .returned (.int .i64 4) ∧ w' = W) (HYD : ∀ W, Below w.heap.size w W → W.cell? ⟨b, o + 6, none⟩ = some (.int .i64 y.kind) ∧ W.cell? ⟨b, o + 6 + 1, none⟩ = some (.int .i64 y.n) ∧ W.cell? ⟨b, o + 6 + 2, none⟩ = some (.string y.name) ∧ W.cell? ⟨b, o + 6 + 3, none⟩ = some (.int .i64 y.stamp) ∧ W.cell? ⟨b, o + 6 + 4, none⟩ = some (.int .i64 y.lib) ∧ W.cell? ⟨b, o + 6 + 5, none⟩ = some (.slice ya yn yc)) (s : Se) (HS0 : ∀ W, Below w.heap.size w W → Calls Tryz.prog 130 #[.agg #[.int .i64 y.kind, .int .i64 y.n, .string y.name, .int .i64 y.stamp, .int .i64 y.lib, .slice ya yn yc], .int .i64 (dp + 1)] W fun e w' => Below W.heap.size W w' ∧ ∃ v, e = .returned v ∧ SeT W s v w') (ra : Option Addr) (HSL : ∀ u, (Instr.slice 24 (.slice (some ⟨b, o, none⟩) kn cap) (some (.int .i64 2)) none none).run Tryz.prog u = .ok (.slice ra (kn - 2) (cap - 2)) u) (x : Dat) (xa : Option Addr) (xn xc : Nat) (HO0 : ∀ W, Below w.heap.size w W → Calls Tryz.prog 144 #[.slice ra (kn - 2) (cap - 2)] W fun e w' => Below W.heap.size W w' ∧ e = .returned (.agg #[.int .i64 x.kind, .int .i64 x.n, .string x.name, .int .i64 x.stamp, .int .i64 x.lib, .slice xa xn xc])) (p : ByteArray) (HM0 : ∀ W, Calls Tryz.prog 78 #[.agg #[.int .i64 x.kind, .int .i64 x.n, .string x.name, .int .i64 x.stamp, .int .i64 x.lib, .slice xa xn xc]] W fun e w' => Below W.heap.size W w' ∧ e = .returned (.string p)) :
  Calls Tryz.prog 130 #[.agg #[.int .i64 d.kind, .int .i64 d.n, .string d.name, .int .i64 d.stamp, .int .i64 d.lib, .slice (some ⟨b, o, none⟩) kn cap], .int .i64 dp] w fun e w' => Below w.heap.size w w' ∧ ∃ v, e = .returned v ∧ SeT w (.mk 4 ⟨#[]⟩ [] [] p [s]) v w' := by
 obtain ⟨W0, hW0⟩ : ∃ W0, W0 = (w.alloc (.cells #[.int .i64 d.kind, .int .i64 d.n, .string d.name, .int .i64 d.stamp, .int .i64 d.lib, .slice (some ⟨b, o, none⟩) kn cap] 26)).alloc (.cells #[.int .i64 0, .string ⟨#[]⟩, .slice none 0 0, .slice none 0 0, .string ⟨#[]⟩, .slice none 0 0] 73) := ⟨_, rfl⟩
 obtain ⟨g1, g2, g3, g4⟩ := set_boxes d (some ⟨b, o, none⟩) kn cap w
 rw [← hW0] at g1 g2 g3 g4
 have HB0 : Hid (Below w.heap.size w W0 ∧ W0.heap.size = w.heap.size + 2) := ⟨g1, g4⟩
 have HX : Hid (∀ W, Below W0.heap.size W0 W → W.heap[w.heap.size]? = some (.cells #[.int .i64 d.kind, .int .i64 d.n, .string d.name, .int .i64 d.stamp, .int .i64 d.lib, .slice (some ⟨b, o, none⟩) kn cap] 26 (0, 0)) ∧ W.heap[w.heap.size + 1]? = some (.cells #[.int .i64 0, .string ⟨#[]⟩, .slice none 0 0, .slice none 0 0, .string ⟨#[]⟩, .slice none 0 0] 73 (0, 0))) := fun W hb => ⟨(hb.block _ (by omega)).trans g2, (hb.block _ (by omega)).trans g3⟩
 have hw0 := hW0.symm
 have y0 : W0.cell? ⟨w.heap.size, 0, none⟩ = some (.int .i64 d.kind) := (cellO g2).trans rfl
 have y1 : W0.cell? ⟨w.heap.size, 1, none⟩ = some (.int .i64 d.n) := (cellO g2).trans rfl
 have y2 : W0.cell? ⟨w.heap.size, 2, none⟩ = some (.string d.name) := (cellO g2).trans rfl
 have y3 : W0.cell? ⟨w.heap.size, 3, none⟩ = some (.int .i64 d.stamp) := (cellO g2).trans rfl
 have y4 : W0.cell? ⟨w.heap.size, 4, none⟩ = some (.int .i64 d.lib) := (cellO g2).trans rfl
 have y5 : W0.cell? ⟨w.heap.size, 5, none⟩ = some (.slice (some ⟨b, o, none⟩) kn cap) := (cellO g2).trans rfl
 clear g1 g2 g3 g4 hW0
 have HY := hidd (must_yes 4)
 have c1 : decide (dp ≤ 12) = true := by simp; omega
 have hdp : dp ≤ 12 := by omega
 have HT := hidd HT0
 have HK := hidd HK0
 have HS := hidd HS0
 have HYY := hidd HYD
 have m1 : (1 : Int) < (kn : Int) := by omega
 clear HT0 HK0 HS0 HYD
 have HO := hidd HO0
 have HM := hidd HM0
 clear HO0 HM0
 go_enter Tryz.func130, Tryz.ntmps130
 go_wp2_with fail
 refine (HY.out _).mono ?_
 rintro e wm ⟨rfl, hwm⟩
 rw [hwm]
 clear hwm
 go_wp2_with fail
 refine (HT.out _).mono ?_
 rintro e w1 ⟨hb1, rfl⟩
 obtain ⟨x0, x1⟩ := HX.out w1 hb1
 have HB1 : Hid (Below w.heap.size w w1 ∧ Below W0.heap.size W0 w1) := ⟨HB0.out.1.trans (hb1.mono HB0.out.1.size), hb1⟩
 have z0 : w1.cell? ⟨w.heap.size, 0, none⟩ = some (.int .i64 d.kind) := (cellO x0).trans rfl
 have z1 : w1.cell? ⟨w.heap.size, 1, none⟩ = some (.int .i64 d.n) := (cellO x0).trans rfl
 have z2 : w1.cell? ⟨w.heap.size, 2, none⟩ = some (.string d.name) := (cellO x0).trans rfl
 have z3 : w1.cell? ⟨w.heap.size, 3, none⟩ = some (.int .i64 d.stamp) := (cellO x0).trans rfl
 have z4 : w1.cell? ⟨w.heap.size, 4, none⟩ = some (.int .i64 d.lib) := (cellO x0).trans rfl
 have z5 : w1.cell? ⟨w.heap.size, 5, none⟩ = some (.slice (some ⟨b, o, none⟩) kn cap) := (cellO x0).trans rfl
 clear hb1 x0 x1 y0 y1 y2 y3 y4 y5
 go_wp2_with fail
 refine (HK.out _ HB1.out.1).mono ?_
 rintro e wk ⟨rfl, hwk⟩
 rw [hwk]
 clear hwk
 obtain ⟨u0, u1, u2, u3, u4, u5⟩ := HYY.out w1 HB1.out.1
 go_wp2_with fail
 refine (HS.out _ HB1.out.1).mono ?_
 rintro e w2 ⟨hb2, v, rfl, hv⟩
 obtain ⟨sk, sn, sns, sas, sp, sks⟩ := s
 obtain ⟨sv2, sv3, sv5, rfl, hv2, hv3, hv5⟩ := hv
 have HIN : Hid (SeV (fun k => w1.heap.size ≤ k ∧ k < w2.heap.size) w2 (.mk sk sn sns sas sp sks) (.agg #[.int .i64 sk, .string sn, sv2, sv3, .string sp, sv5])) := ⟨sv2, sv3, sv5, rfl, hv2, hv3, hv5⟩
 obtain ⟨W3, hW3⟩ : ∃ W3, W3 = (w2.alloc (.cells #[.int .i64 sk, .string sn, sv2, sv3, .string sp, sv5] 73)).alloc (.cells #[.int .i64 4, .string ⟨#[]⟩, .slice none 0 0, .slice none 0 0, .string ⟨#[]⟩, .slice (some ⟨w2.heap.size, 0, none⟩) 1 1] 73) := ⟨_, rfl⟩
 have HW3 := hidd hW3
 have b3 : Below w2.heap.size w2 W3 := by rw [hW3]; exact ((Below.refl _ _).alloc (Nat.le_refl _) _).alloc (by simp) _
 have hS3 : W3.heap.size = w2.heap.size + 2 := by rw [hW3]; simp
 have hT3 : W3.heap[w2.heap.size + 1]? = some (.cells #[.int .i64 4, .string ⟨#[]⟩, .slice none 0 0, .slice none 0 0, .string ⟨#[]⟩, .slice (some ⟨w2.heap.size, 0, none⟩) 1 1] 73 (0, 0)) := by
  rw [hW3]
  have := World.alloc_heap_new (w2.alloc (.cells #[.int .i64 sk, .string sn, sv2, sv3, .string sp, sv5] 73)) (.cells #[.int .i64 4, .string ⟨#[]⟩, .slice none 0 0, .slice none 0 0, .string ⟨#[]⟩, .slice (some ⟨w2.heap.size, 0, none⟩) 1 1] 73)
  simpa using this
 have HF3 : Hid (Below w.heap.size w W3 ∧ Below W0.heap.size W0 W3 ∧ W3.heap.size = w2.heap.size + 2 ∧ W3.heap[w2.heap.size + 1]? = some (.cells #[.int .i64 4, .string ⟨#[]⟩, .slice none 0 0, .slice none 0 0, .string ⟨#[]⟩, .slice (some ⟨w2.heap.size, 0, none⟩) 1 1] 73 (0, 0)) ∧ w.heap.size + 2 ≤ w1.heap.size ∧ w1.heap.size ≤ w2.heap.size) := ⟨HB1.out.1.trans ((hb2.trans (b3.mono hb2.size)).mono HB1.out.1.size), HB1.out.2.trans ((hb2.trans (b3.mono hb2.size)).mono HB1.out.2.size), hS3, hT3, by have := HB1.out.2.size; have := HB0.out.2; omega, hb2.size⟩
 have hw3 := hW3.symm
 clear hv2 hv3 hv5 hb2 b3 hS3 hT3 hW3 z0 z1 z2 z3 z4 z5 u0 u1 u2 u3 u4 u5
 go_wp2_with fail
 refine (HO.out _ HF3.out.1).mono ?_
 rintro e w5 ⟨hb5, rfl⟩
 have HF5 := hidd hb5
 clear hb5
 go_wp2_with fail
 refine (HM.out _).mono ?_
 rintro e w4 ⟨hb4', rfl⟩
 have hb4 : Below W3.heap.size W3 w4 := HF5.out.trans (hb4'.mono HF5.out.size)
 clear hb4'
 have HF4 : Hid (Below W3.heap.size W3 w4 ∧ Below w.heap.size w w4) := ⟨hb4, HF3.out.1.trans (hb4.mono HF3.out.1.size)⟩
 have h4T : w4.heap[w2.heap.size + 1]? = some (.cells #[.int .i64 4, .string ⟨#[]⟩, .slice none 0 0, .slice none 0 0, .string ⟨#[]⟩, .slice (some ⟨w2.heap.size, 0, none⟩) 1 1] 73 (0, 0)) := (hb4.block _ (by have := HF3.out.2.2.1; omega)).trans HF3.out.2.2.2.1
 have h4R := (HX.out w4 (HF3.out.2.1.trans (hb4.mono HF3.out.2.1.size))).2
 have hRT : w.heap.size + 1 ≠ w2.heap.size + 1 := by have := HF3.out.2.2.2.2; omega
 have hTR : w2.heap.size + 1 ≠ w.heap.size + 1 := fun h => hRT h.symm
 have t0 := (cellO (q := 0) h4T).trans rfl
 have f0 := looseO (q := 0) h4T
 have t1 := (cellO (q := 1) h4T).trans rfl
 have f1 := looseO (q := 1) h4T
 have t2 := (cellO (q := 2) h4T).trans rfl
 have f2 := looseO (q := 2) h4T
 have t3 := (cellO (q := 3) h4T).trans rfl
 have f3 := looseO (q := 3) h4T
 have t4 := (cellO (q := 4) h4T).trans rfl
 have f4 := looseO (q := 4) h4T
 have t5 := (cellO (q := 5) h4T).trans rfl
 have f5 := looseO (q := 5) h4T
 have r0 := (cellO (q := 0) h4R).trans rfl
 have s0 := looseO (q := 0) h4R
 have r1 := (cellO (q := 1) h4R).trans rfl
 have s1 := looseO (q := 1) h4R
 have r2 := (cellO (q := 2) h4R).trans rfl
 have s2 := looseO (q := 2) h4R
 have r3 := (cellO (q := 3) h4R).trans rfl
 have s3 := looseO (q := 3) h4R
 have r4 := (cellO (q := 4) h4R).trans rfl
 have s4 := looseO (q := 4) h4R
 have r5 := (cellO (q := 5) h4R).trans rfl
 have s5 := looseO (q := 5) h4R
 have H4 : Hid (w4.heap[w2.heap.size + 1]? = some (.cells #[.int .i64 4, .string ⟨#[]⟩, .slice none 0 0, .slice none 0 0, .string ⟨#[]⟩, .slice (some ⟨w2.heap.size, 0, none⟩) 1 1] 73 (0, 0)) ∧ w4.heap[w.heap.size + 1]? = some (.cells #[.int .i64 0, .string ⟨#[]⟩, .slice none 0 0, .slice none 0 0, .string ⟨#[]⟩, .slice none 0 0] 73 (0, 0))) := ⟨h4T, h4R⟩
 clear hb4 h4T h4R
 go_wp2_with fail
 have hk := set6 (show (w4.setCell ⟨w2.heap.size + 1, 4, none⟩ (.string p)).heap[w.heap.size + 1]? = some (.cells #[.int .i64 0, .string ⟨#[]⟩, .slice none 0 0, .slice none 0 0, .string ⟨#[]⟩, .slice none 0 0] 73 (0, 0)) by rw [Below.heap_setCell _ _ _ _ hRT]; exact H4.out.2) (.int .i64 4) (.string ⟨#[]⟩) (.slice none 0 0) (.slice none 0 0) (.string p) (.slice (some ⟨w2.heap.size, 0, none⟩) 1 1)
 have hbF : Below w.heap.size w ((((((((w4.setCell ⟨w2.heap.size + 1, 4, none⟩ (.string p)).setCell ⟨w.heap.size + 1, 0, none⟩ (.int .i64 4)).setCell ⟨w.heap.size + 1, 1, none⟩ (.string ⟨#[]⟩)).setCell ⟨w.heap.size + 1, 2, none⟩ (.slice none 0 0)).setCell ⟨w.heap.size + 1, 3, none⟩ (.slice none 0 0)).setCell ⟨w.heap.size + 1, 4, none⟩ (.string p)).setCell ⟨w.heap.size + 1, 5, none⟩ (.slice (some ⟨w2.heap.size, 0, none⟩) 1 1))) := (Below.setCell (Below.setCell (Below.setCell (Below.setCell (Below.setCell (Below.setCell (Below.setCell HF4.out.2 (p := ⟨w2.heap.size + 1, 4, none⟩) (by have := HF3.out.2.2.2.2; show w.heap.size ≤ w2.heap.size + 1; omega) _) (p := ⟨w.heap.size + 1, 0, none⟩) (Nat.le_succ _) _) (p := ⟨w.heap.size + 1, 1, none⟩) (Nat.le_succ _) _) (p := ⟨w.heap.size + 1, 2, none⟩) (Nat.le_succ _) _) (p := ⟨w.heap.size + 1, 3, none⟩) (Nat.le_succ _) _) (p := ⟨w.heap.size + 1, 4, none⟩) (Nat.le_succ _) _) (p := ⟨w.heap.size + 1, 5, none⟩) (Nat.le_succ _) _)
 have hfr : ∀ k, k ≠ w.heap.size + 1 → ((((((((w4.setCell ⟨w2.heap.size + 1, 4, none⟩ (.string p)).setCell ⟨w.heap.size + 1, 0, none⟩ (.int .i64 4)).setCell ⟨w.heap.size + 1, 1, none⟩ (.string ⟨#[]⟩)).setCell ⟨w.heap.size + 1, 2, none⟩ (.slice none 0 0)).setCell ⟨w.heap.size + 1, 3, none⟩ (.slice none 0 0)).setCell ⟨w.heap.size + 1, 4, none⟩ (.string p)).setCell ⟨w.heap.size + 1, 5, none⟩ (.slice (some ⟨w2.heap.size, 0, none⟩) 1 1))).heap[k]? = (w4.setCell ⟨w2.heap.size + 1, 4, none⟩ (.string p)).heap[k]? := fun k hk => six_far hk _ _ _ _ _ _
 have hsz : ((((((((w4.setCell ⟨w2.heap.size + 1, 4, none⟩ (.string p)).setCell ⟨w.heap.size + 1, 0, none⟩ (.int .i64 4)).setCell ⟨w.heap.size + 1, 1, none⟩ (.string ⟨#[]⟩)).setCell ⟨w.heap.size + 1, 2, none⟩ (.slice none 0 0)).setCell ⟨w.heap.size + 1, 3, none⟩ (.slice none 0 0)).setCell ⟨w.heap.size + 1, 4, none⟩ (.string p)).setCell ⟨w.heap.size + 1, 5, none⟩ (.slice (some ⟨w2.heap.size, 0, none⟩) 1 1))).heap.size = (w4.setCell ⟨w2.heap.size + 1, 4, none⟩ (.string p)).heap.size := by simp
 generalize ((((((((w4.setCell ⟨w2.heap.size + 1, 4, none⟩ (.string p)).setCell ⟨w.heap.size + 1, 0, none⟩ (.int .i64 4)).setCell ⟨w.heap.size + 1, 1, none⟩ (.string ⟨#[]⟩)).setCell ⟨w.heap.size + 1, 2, none⟩ (.slice none 0 0)).setCell ⟨w.heap.size + 1, 3, none⟩ (.slice none 0 0)).setCell ⟨w.heap.size + 1, 4, none⟩ (.string p)).setCell ⟨w.heap.size + 1, 5, none⟩ (.slice (some ⟨w2.heap.size, 0, none⟩) 1 1))) = Wf at hk hbF hfr hsz ⊢
 have k0 : Wf.cell? ⟨w.heap.size + 1, 0, none⟩ = some (.int .i64 4) := (cellO hk).trans rfl
 have k1 : Wf.cell? ⟨w.heap.size + 1, 1, none⟩ = some (.string ⟨#[]⟩) := (cellO hk).trans rfl
 have k2 : Wf.cell? ⟨w.heap.size + 1, 2, none⟩ = some (.slice none 0 0) := (cellO hk).trans rfl
 have k3 : Wf.cell? ⟨w.heap.size + 1, 3, none⟩ = some (.slice none 0 0) := (cellO hk).trans rfl
 have k4 : Wf.cell? ⟨w.heap.size + 1, 4, none⟩ = some (.string p) := (cellO hk).trans rfl
 have k5 : Wf.cell? ⟨w.heap.size + 1, 5, none⟩ = some (.slice (some ⟨w2.heap.size, 0, none⟩) 1 1) := (cellO hk).trans rfl
 refine bodyPost_ret (v := .agg #[.int .i64 4, .string ⟨#[]⟩, .slice none 0 0, .slice none 0 0, .string p, .slice (some ⟨w2.heap.size, 0, none⟩) 1 1]) (by simp [results, Tryz.results130, go_sem, k0, k1, k2, k3, k4, k5]) rfl ⟨hbF, _, rfl, set_fin HF3.out.2.2.2.2.1 HF3.out.2.2.2.2.2 HIN.out HW3.out HF4.out.1 (fun k k1 k2 => (hfr k k1).trans (Below.heap_setCell _ _ _ _ (by simpa using k2))) (by rw [hsz]; simp) (SV.nil _ _) (SV.nil _ _)⟩
theorem set_ren_no (d y : Dat) (b o kn cap yn yc : Nat) (ya : Option Addr) (dp : Int) (w : World) (hd0 : 0 ≤ dp) (hd : dp ≤ 12) (hk2 : 2 ≤ kn) (HT0 : ∀ W, Calls Tryz.prog 77 #[.agg #[.int .i64 d.kind, .int .i64 d.n, .string d.name, .int .i64 d.stamp, .int .i64 d.lib, .slice (some ⟨b, o, none⟩) kn cap]] W fun e w' => Below W.heap.size W w' ∧ e = .returned (.slice (some ⟨b, o, none⟩) kn cap)) (HK0 : ∀ W, Below w.heap.size w W → Calls Tryz.prog 143 #[.slice (some ⟨b, o, none⟩) kn cap] W fun e w' => e = .returned (.int .i64 5) ∧ w' = W) (HYD : ∀ W, Below w.heap.size w W → W.cell? ⟨b, o + 6, none⟩ = some (.int .i64 y.kind) ∧ W.cell? ⟨b, o + 6 + 1, none⟩ = some (.int .i64 y.n) ∧ W.cell? ⟨b, o + 6 + 2, none⟩ = some (.string y.name) ∧ W.cell? ⟨b, o + 6 + 3, none⟩ = some (.int .i64 y.stamp) ∧ W.cell? ⟨b, o + 6 + 4, none⟩ = some (.int .i64 y.lib) ∧ W.cell? ⟨b, o + 6 + 5, none⟩ = some (.slice ya yn yc)) (s : Se) (HS0 : ∀ W, Below w.heap.size w W → Calls Tryz.prog 130 #[.agg #[.int .i64 y.kind, .int .i64 y.n, .string y.name, .int .i64 y.stamp, .int .i64 y.lib, .slice ya yn yc], .int .i64 (dp + 1)] W fun e w' => Below W.heap.size W w' ∧ ∃ v, e = .returned v ∧ SeT W s v w') (ra : Option Addr) (HSL : ∀ u, (Instr.slice 24 (.slice (some ⟨b, o, none⟩) kn cap) (some (.int .i64 2)) none none).run Tryz.prog u = .ok (.slice ra (kn - 2) (cap - 2)) u) (z : Int) (HR0 : ∀ W, Below w.heap.size w W → Calls Tryz.prog 145 #[.slice ra (kn - 2) (cap - 2)] W fun e w' => Below W.heap.size W w' ∧ e = .panicked (thrownL z)) :
  Calls Tryz.prog 130 #[.agg #[.int .i64 d.kind, .int .i64 d.n, .string d.name, .int .i64 d.stamp, .int .i64 d.lib, .slice (some ⟨b, o, none⟩) kn cap], .int .i64 dp] w fun e w' => Below w.heap.size w w' ∧ e = .panicked (thrownL z) := by
 obtain ⟨W0, hW0⟩ : ∃ W0, W0 = (w.alloc (.cells #[.int .i64 d.kind, .int .i64 d.n, .string d.name, .int .i64 d.stamp, .int .i64 d.lib, .slice (some ⟨b, o, none⟩) kn cap] 26)).alloc (.cells #[.int .i64 0, .string ⟨#[]⟩, .slice none 0 0, .slice none 0 0, .string ⟨#[]⟩, .slice none 0 0] 73) := ⟨_, rfl⟩
 obtain ⟨g1, g2, g3, g4⟩ := set_boxes d (some ⟨b, o, none⟩) kn cap w
 rw [← hW0] at g1 g2 g3 g4
 have HB0 : Hid (Below w.heap.size w W0 ∧ W0.heap.size = w.heap.size + 2) := ⟨g1, g4⟩
 have HX : Hid (∀ W, Below W0.heap.size W0 W → W.heap[w.heap.size]? = some (.cells #[.int .i64 d.kind, .int .i64 d.n, .string d.name, .int .i64 d.stamp, .int .i64 d.lib, .slice (some ⟨b, o, none⟩) kn cap] 26 (0, 0)) ∧ W.heap[w.heap.size + 1]? = some (.cells #[.int .i64 0, .string ⟨#[]⟩, .slice none 0 0, .slice none 0 0, .string ⟨#[]⟩, .slice none 0 0] 73 (0, 0))) := fun W hb => ⟨(hb.block _ (by omega)).trans g2, (hb.block _ (by omega)).trans g3⟩
 have hw0 := hW0.symm
 have y0 : W0.cell? ⟨w.heap.size, 0, none⟩ = some (.int .i64 d.kind) := (cellO g2).trans rfl
 have y1 : W0.cell? ⟨w.heap.size, 1, none⟩ = some (.int .i64 d.n) := (cellO g2).trans rfl
 have y2 : W0.cell? ⟨w.heap.size, 2, none⟩ = some (.string d.name) := (cellO g2).trans rfl
 have y3 : W0.cell? ⟨w.heap.size, 3, none⟩ = some (.int .i64 d.stamp) := (cellO g2).trans rfl
 have y4 : W0.cell? ⟨w.heap.size, 4, none⟩ = some (.int .i64 d.lib) := (cellO g2).trans rfl
 have y5 : W0.cell? ⟨w.heap.size, 5, none⟩ = some (.slice (some ⟨b, o, none⟩) kn cap) := (cellO g2).trans rfl
 clear g1 g2 g3 g4 hW0
 have HY := hidd (must_yes 4)
 have c1 : decide (dp ≤ 12) = true := by simp; omega
 have hdp : dp ≤ 12 := by omega
 have HT := hidd HT0
 have HK := hidd HK0
 have HS := hidd HS0
 have HYY := hidd HYD
 have m1 : (1 : Int) < (kn : Int) := by omega
 clear HT0 HK0 HS0 HYD
 have HR := hidd HR0
 clear HR0
 go_enter Tryz.func130, Tryz.ntmps130
 go_wp2_with fail
 refine (HY.out _).mono ?_
 rintro e wm ⟨rfl, hwm⟩
 rw [hwm]
 clear hwm
 go_wp2_with fail
 refine (HT.out _).mono ?_
 rintro e w1 ⟨hb1, rfl⟩
 obtain ⟨x0, x1⟩ := HX.out w1 hb1
 have HB1 : Hid (Below w.heap.size w w1 ∧ Below W0.heap.size W0 w1) := ⟨HB0.out.1.trans (hb1.mono HB0.out.1.size), hb1⟩
 have z0 : w1.cell? ⟨w.heap.size, 0, none⟩ = some (.int .i64 d.kind) := (cellO x0).trans rfl
 have z1 : w1.cell? ⟨w.heap.size, 1, none⟩ = some (.int .i64 d.n) := (cellO x0).trans rfl
 have z2 : w1.cell? ⟨w.heap.size, 2, none⟩ = some (.string d.name) := (cellO x0).trans rfl
 have z3 : w1.cell? ⟨w.heap.size, 3, none⟩ = some (.int .i64 d.stamp) := (cellO x0).trans rfl
 have z4 : w1.cell? ⟨w.heap.size, 4, none⟩ = some (.int .i64 d.lib) := (cellO x0).trans rfl
 have z5 : w1.cell? ⟨w.heap.size, 5, none⟩ = some (.slice (some ⟨b, o, none⟩) kn cap) := (cellO x0).trans rfl
 clear hb1 x0 x1 y0 y1 y2 y3 y4 y5
 go_wp2_with fail
 refine (HK.out _ HB1.out.1).mono ?_
 rintro e wk ⟨rfl, hwk⟩
 rw [hwk]
 clear hwk
 obtain ⟨u0, u1, u2, u3, u4, u5⟩ := HYY.out w1 HB1.out.1
 go_wp2_with fail
 refine (HS.out _ HB1.out.1).mono ?_
 rintro e w2 ⟨hb2, v, rfl, hv⟩
 obtain ⟨sk, sn, sns, sas, sp, sks⟩ := s
 obtain ⟨sv2, sv3, sv5, rfl, hv2, hv3, hv5⟩ := hv
 have HIN : Hid (SeV (fun k => w1.heap.size ≤ k ∧ k < w2.heap.size) w2 (.mk sk sn sns sas sp sks) (.agg #[.int .i64 sk, .string sn, sv2, sv3, .string sp, sv5])) := ⟨sv2, sv3, sv5, rfl, hv2, hv3, hv5⟩
 obtain ⟨W3, hW3⟩ : ∃ W3, W3 = (w2.alloc (.cells #[.int .i64 sk, .string sn, sv2, sv3, .string sp, sv5] 73)).alloc (.cells #[.int .i64 5, .string ⟨#[]⟩, .slice none 0 0, .slice none 0 0, .string ⟨#[]⟩, .slice (some ⟨w2.heap.size, 0, none⟩) 1 1] 73) := ⟨_, rfl⟩
 have HW3 := hidd hW3
 have b3 : Below w2.heap.size w2 W3 := by rw [hW3]; exact ((Below.refl _ _).alloc (Nat.le_refl _) _).alloc (by simp) _
 have hS3 : W3.heap.size = w2.heap.size + 2 := by rw [hW3]; simp
 have hT3 : W3.heap[w2.heap.size + 1]? = some (.cells #[.int .i64 5, .string ⟨#[]⟩, .slice none 0 0, .slice none 0 0, .string ⟨#[]⟩, .slice (some ⟨w2.heap.size, 0, none⟩) 1 1] 73 (0, 0)) := by
  rw [hW3]
  have := World.alloc_heap_new (w2.alloc (.cells #[.int .i64 sk, .string sn, sv2, sv3, .string sp, sv5] 73)) (.cells #[.int .i64 5, .string ⟨#[]⟩, .slice none 0 0, .slice none 0 0, .string ⟨#[]⟩, .slice (some ⟨w2.heap.size, 0, none⟩) 1 1] 73)
  simpa using this
 have HF3 : Hid (Below w.heap.size w W3 ∧ Below W0.heap.size W0 W3 ∧ W3.heap.size = w2.heap.size + 2 ∧ W3.heap[w2.heap.size + 1]? = some (.cells #[.int .i64 5, .string ⟨#[]⟩, .slice none 0 0, .slice none 0 0, .string ⟨#[]⟩, .slice (some ⟨w2.heap.size, 0, none⟩) 1 1] 73 (0, 0)) ∧ w.heap.size + 2 ≤ w1.heap.size ∧ w1.heap.size ≤ w2.heap.size) := ⟨HB1.out.1.trans ((hb2.trans (b3.mono hb2.size)).mono HB1.out.1.size), HB1.out.2.trans ((hb2.trans (b3.mono hb2.size)).mono HB1.out.2.size), hS3, hT3, by have := HB1.out.2.size; have := HB0.out.2; omega, hb2.size⟩
 have hw3 := hW3.symm
 clear hv2 hv3 hv5 hb2 b3 hS3 hT3 hW3 z0 z1 z2 z3 z4 z5 u0 u1 u2 u3 u4 u5
 go_wp2_with fail
 refine (HR.out _ HF3.out.1).mono ?_
 rintro e w4 ⟨hb4, rfl⟩
 have HB4 : Hid (Below w.heap.size w w4) := HF3.out.1.trans (hb4.mono HF3.out.1.size)
 clear hb4
 go_wp2_with fail
 exact ⟨rfl, HB4.out, rfl⟩
theorem set_ren_ok (d y : Dat) (b o kn cap yn yc : Nat) (ya : Option Addr) (dp : Int) (w : World) (hd0 : 0 ≤ dp) (hd : dp ≤ 12) (hk2 : 2 ≤ kn) (HT0 : ∀ W, Calls Tryz.prog 77 #[.agg #[.int .i64 d.kind, .int .i64 d.n, .string d.name, .int .i64 d.stamp, .int .i64 d.lib, .slice (some ⟨b, o, none⟩) kn cap]] W fun e w' => Below W.heap.size W w' ∧ e = .returned (.slice (some ⟨b, o, none⟩) kn cap)) (HK0 : ∀ W, Below w.heap.size w W → Calls Tryz.prog 143 #[.slice (some ⟨b, o, none⟩) kn cap] W fun e w' => e = .returned (.int .i64 5) ∧ w' = W) (HYD : ∀ W, Below w.heap.size w W → W.cell? ⟨b, o + 6, none⟩ = some (.int .i64 y.kind) ∧ W.cell? ⟨b, o + 6 + 1, none⟩ = some (.int .i64 y.n) ∧ W.cell? ⟨b, o + 6 + 2, none⟩ = some (.string y.name) ∧ W.cell? ⟨b, o + 6 + 3, none⟩ = some (.int .i64 y.stamp) ∧ W.cell? ⟨b, o + 6 + 4, none⟩ = some (.int .i64 y.lib) ∧ W.cell? ⟨b, o + 6 + 5, none⟩ = some (.slice ya yn yc)) (s : Se) (HS0 : ∀ W, Below w.heap.size w W → Calls Tryz.prog 130 #[.agg #[.int .i64 y.kind, .int .i64 y.n, .string y.name, .int .i64 y.stamp, .int .i64 y.lib, .slice ya yn yc], .int .i64 (dp + 1)] W fun e w' => Below W.heap.size W w' ∧ ∃ v, e = .returned v ∧ SeT W s v w') (ra : Option Addr) (HSL : ∀ u, (Instr.slice 24 (.slice (some ⟨b, o, none⟩) kn cap) (some (.int .i64 2)) none none).run Tryz.prog u = .ok (.slice ra (kn - 2) (cap - 2)) u) (ns as_ : List ByteArray) (HR0 : ∀ W, Below w.heap.size w W → Calls Tryz.prog 145 #[.slice ra (kn - 2) (cap - 2)] W fun e w' => Below W.heap.size W w' ∧ ∃ v1 v2, e = .returned (.tuple #[v1, v2]) ∧ StrR W.heap.size ns v1 w' ∧ StrR W.heap.size as_ v2 w') :
  Calls Tryz.prog 130 #[.agg #[.int .i64 d.kind, .int .i64 d.n, .string d.name, .int .i64 d.stamp, .int .i64 d.lib, .slice (some ⟨b, o, none⟩) kn cap], .int .i64 dp] w fun e w' => Below w.heap.size w w' ∧ ∃ v, e = .returned v ∧ SeT w (.mk 5 ⟨#[]⟩ ns as_ ⟨#[]⟩ [s]) v w' := by
 obtain ⟨W0, hW0⟩ : ∃ W0, W0 = (w.alloc (.cells #[.int .i64 d.kind, .int .i64 d.n, .string d.name, .int .i64 d.stamp, .int .i64 d.lib, .slice (some ⟨b, o, none⟩) kn cap] 26)).alloc (.cells #[.int .i64 0, .string ⟨#[]⟩, .slice none 0 0, .slice none 0 0, .string ⟨#[]⟩, .slice none 0 0] 73) := ⟨_, rfl⟩
 obtain ⟨g1, g2, g3, g4⟩ := set_boxes d (some ⟨b, o, none⟩) kn cap w
 rw [← hW0] at g1 g2 g3 g4
 have HB0 : Hid (Below w.heap.size w W0 ∧ W0.heap.size = w.heap.size + 2) := ⟨g1, g4⟩
 have HX : Hid (∀ W, Below W0.heap.size W0 W → W.heap[w.heap.size]? = some (.cells #[.int .i64 d.kind, .int .i64 d.n, .string d.name, .int .i64 d.stamp, .int .i64 d.lib, .slice (some ⟨b, o, none⟩) kn cap] 26 (0, 0)) ∧ W.heap[w.heap.size + 1]? = some (.cells #[.int .i64 0, .string ⟨#[]⟩, .slice none 0 0, .slice none 0 0, .string ⟨#[]⟩, .slice none 0 0] 73 (0, 0))) := fun W hb => ⟨(hb.block _ (by omega)).trans g2, (hb.block _ (by omega)).trans g3⟩
 have hw0 := hW0.symm
 have y0 : W0.cell? ⟨w.heap.size, 0, none⟩ = some (.int .i64 d.kind) := (cellO g2).trans rfl
 have y1 : W0.cell? ⟨w.heap.size, 1, none⟩ = some (.int .i64 d.n) := (cellO g2).trans rfl
 have y2 : W0.cell? ⟨w.heap.size, 2, none⟩ = some (.string d.name) := (cellO g2).trans rfl
 have y3 : W0.cell? ⟨w.heap.size, 3, none⟩ = some (.int .i64 d.stamp) := (cellO g2).trans rfl
 have y4 : W0.cell? ⟨w.heap.size, 4, none⟩ = some (.int .i64 d.lib) := (cellO g2).trans rfl
 have y5 : W0.cell? ⟨w.heap.size, 5, none⟩ = some (.slice (some ⟨b, o, none⟩) kn cap) := (cellO g2).trans rfl
 clear g1 g2 g3 g4 hW0
 have HY := hidd (must_yes 4)
 have c1 : decide (dp ≤ 12) = true := by simp; omega
 have hdp : dp ≤ 12 := by omega
 have HT := hidd HT0
 have HK := hidd HK0
 have HS := hidd HS0
 have HYY := hidd HYD
 have m1 : (1 : Int) < (kn : Int) := by omega
 clear HT0 HK0 HS0 HYD
 have HR := hidd HR0
 clear HR0
 go_enter Tryz.func130, Tryz.ntmps130
 go_wp2_with fail
 refine (HY.out _).mono ?_
 rintro e wm ⟨rfl, hwm⟩
 rw [hwm]
 clear hwm
 go_wp2_with fail
 refine (HT.out _).mono ?_
 rintro e w1 ⟨hb1, rfl⟩
 obtain ⟨x0, x1⟩ := HX.out w1 hb1
 have HB1 : Hid (Below w.heap.size w w1 ∧ Below W0.heap.size W0 w1) := ⟨HB0.out.1.trans (hb1.mono HB0.out.1.size), hb1⟩
 have z0 : w1.cell? ⟨w.heap.size, 0, none⟩ = some (.int .i64 d.kind) := (cellO x0).trans rfl
 have z1 : w1.cell? ⟨w.heap.size, 1, none⟩ = some (.int .i64 d.n) := (cellO x0).trans rfl
 have z2 : w1.cell? ⟨w.heap.size, 2, none⟩ = some (.string d.name) := (cellO x0).trans rfl
 have z3 : w1.cell? ⟨w.heap.size, 3, none⟩ = some (.int .i64 d.stamp) := (cellO x0).trans rfl
 have z4 : w1.cell? ⟨w.heap.size, 4, none⟩ = some (.int .i64 d.lib) := (cellO x0).trans rfl
 have z5 : w1.cell? ⟨w.heap.size, 5, none⟩ = some (.slice (some ⟨b, o, none⟩) kn cap) := (cellO x0).trans rfl
 clear hb1 x0 x1 y0 y1 y2 y3 y4 y5
 go_wp2_with fail
 refine (HK.out _ HB1.out.1).mono ?_
 rintro e wk ⟨rfl, hwk⟩
 rw [hwk]
 clear hwk
 obtain ⟨u0, u1, u2, u3, u4, u5⟩ := HYY.out w1 HB1.out.1
 go_wp2_with fail
 refine (HS.out _ HB1.out.1).mono ?_
 rintro e w2 ⟨hb2, v, rfl, hv⟩
 obtain ⟨sk, sn, sns, sas, sp, sks⟩ := s
 obtain ⟨sv2, sv3, sv5, rfl, hv2, hv3, hv5⟩ := hv
 have HIN : Hid (SeV (fun k => w1.heap.size ≤ k ∧ k < w2.heap.size) w2 (.mk sk sn sns sas sp sks) (.agg #[.int .i64 sk, .string sn, sv2, sv3, .string sp, sv5])) := ⟨sv2, sv3, sv5, rfl, hv2, hv3, hv5⟩
 obtain ⟨W3, hW3⟩ : ∃ W3, W3 = (w2.alloc (.cells #[.int .i64 sk, .string sn, sv2, sv3, .string sp, sv5] 73)).alloc (.cells #[.int .i64 5, .string ⟨#[]⟩, .slice none 0 0, .slice none 0 0, .string ⟨#[]⟩, .slice (some ⟨w2.heap.size, 0, none⟩) 1 1] 73) := ⟨_, rfl⟩
 have HW3 := hidd hW3
 have b3 : Below w2.heap.size w2 W3 := by rw [hW3]; exact ((Below.refl _ _).alloc (Nat.le_refl _) _).alloc (by simp) _
 have hS3 : W3.heap.size = w2.heap.size + 2 := by rw [hW3]; simp
 have hT3 : W3.heap[w2.heap.size + 1]? = some (.cells #[.int .i64 5, .string ⟨#[]⟩, .slice none 0 0, .slice none 0 0, .string ⟨#[]⟩, .slice (some ⟨w2.heap.size, 0, none⟩) 1 1] 73 (0, 0)) := by
  rw [hW3]
  have := World.alloc_heap_new (w2.alloc (.cells #[.int .i64 sk, .string sn, sv2, sv3, .string sp, sv5] 73)) (.cells #[.int .i64 5, .string ⟨#[]⟩, .slice none 0 0, .slice none 0 0, .string ⟨#[]⟩, .slice (some ⟨w2.heap.size, 0, none⟩) 1 1] 73)
  simpa using this
 have HF3 : Hid (Below w.heap.size w W3 ∧ Below W0.heap.size W0 W3 ∧ W3.heap.size = w2.heap.size + 2 ∧ W3.heap[w2.heap.size + 1]? = some (.cells #[.int .i64 5, .string ⟨#[]⟩, .slice none 0 0, .slice none 0 0, .string ⟨#[]⟩, .slice (some ⟨w2.heap.size, 0, none⟩) 1 1] 73 (0, 0)) ∧ w.heap.size + 2 ≤ w1.heap.size ∧ w1.heap.size ≤ w2.heap.size) := ⟨HB1.out.1.trans ((hb2.trans (b3.mono hb2.size)).mono HB1.out.1.size), HB1.out.2.trans ((hb2.trans (b3.mono hb2.size)).mono HB1.out.2.size), hS3, hT3, by have := HB1.out.2.size; have := HB0.out.2; omega, hb2.size⟩
 have hw3 := hW3.symm
 clear hv2 hv3 hv5 hb2 b3 hS3 hT3 hW3 z0 z1 z2 z3 z4 z5 u0 u1 u2 u3 u4 u5
 go_wp2_with fail
 refine (HR.out _ HF3.out.1).mono ?_
 rintro e w4 ⟨hb4, nv, av, rfl, hnv, hav⟩
 obtain ⟨na, nc, rfl, _⟩ := own_sliceL hnv
 obtain ⟨aa, ac, rfl, _⟩ := own_sliceL hav
 have HV := hidd (StrR.sv hnv)
 have HV2 := hidd (StrR.sv hav)
 clear hnv hav
 have HF4 : Hid (Below W3.heap.size W3 w4 ∧ Below w.heap.size w w4) := ⟨hb4, HF3.out.1.trans (hb4.mono HF3.out.1.size)⟩
 have h4T : w4.heap[w2.heap.size + 1]? = some (.cells #[.int .i64 5, .string ⟨#[]⟩, .slice none 0 0, .slice none 0 0, .string ⟨#[]⟩, .slice (some ⟨w2.heap.size, 0, none⟩) 1 1] 73 (0, 0)) := (hb4.block _ (by have := HF3.out.2.2.1; omega)).trans HF3.out.2.2.2.1
 have h4R := (HX.out w4 (HF3.out.2.1.trans (hb4.mono HF3.out.2.1.size))).2
 have hRT : w.heap.size + 1 ≠ w2.heap.size + 1 := by have := HF3.out.2.2.2.2; omega
 have hTR : w2.heap.size + 1 ≠ w.heap.size + 1 := fun h => hRT h.symm
 have t0 := (cellO (q := 0) h4T).trans rfl
 have f0 := looseO (q := 0) h4T
 have t1 := (cellO (q := 1) h4T).trans rfl
 have f1 := looseO (q := 1) h4T
 have t2 := (cellO (q := 2) h4T).trans rfl
 have f2 := looseO (q := 2) h4T
 have t3 := (cellO (q := 3) h4T).trans rfl
 have f3 := looseO (q := 3) h4T
 have t4 := (cellO (q := 4) h4T).trans rfl
 have f4 := looseO (q := 4) h4T
 have t5 := (cellO (q := 5) h4T).trans rfl
 have f5 := looseO (q := 5) h4T
 have r0 := (cellO (q := 0) h4R).trans rfl
 have s0 := looseO (q := 0) h4R
 have r1 := (cellO (q := 1) h4R).trans rfl
 have s1 := looseO (q := 1) h4R
 have r2 := (cellO (q := 2) h4R).trans rfl
 have s2 := looseO (q := 2) h4R
 have r3 := (cellO (q := 3) h4R).trans rfl
 have s3 := looseO (q := 3) h4R
 have r4 := (cellO (q := 4) h4R).trans rfl
 have s4 := looseO (q := 4) h4R
 have r5 := (cellO (q := 5) h4R).trans rfl
 have s5 := looseO (q := 5) h4R
 have H4 : Hid (w4.heap[w2.heap.size + 1]? = some (.cells #[.int .i64 5, .string ⟨#[]⟩, .slice none 0 0, .slice none 0 0, .string ⟨#[]⟩, .slice (some ⟨w2.heap.size, 0, none⟩) 1 1] 73 (0, 0)) ∧ w4.heap[w.heap.size + 1]? = some (.cells #[.int .i64 0, .string ⟨#[]⟩, .slice none 0 0, .slice none 0 0, .string ⟨#[]⟩, .slice none 0 0] 73 (0, 0))) := ⟨h4T, h4R⟩
 clear hb4 h4T h4R
 go_wp2_with fail
 have hk := set6 (show ((w4.setCell ⟨w2.heap.size + 1, 2, none⟩ (.slice na ns.length nc)).setCell ⟨w2.heap.size + 1, 3, none⟩ (.slice aa as_.length ac)).heap[w.heap.size + 1]? = some (.cells #[.int .i64 0, .string ⟨#[]⟩, .slice none 0 0, .slice none 0 0, .string ⟨#[]⟩, .slice none 0 0] 73 (0, 0)) by rw [Below.heap_setCell _ _ _ _ hRT, Below.heap_setCell _ _ _ _ hRT]; exact H4.out.2) (.int .i64 5) (.string ⟨#[]⟩) (.slice na ns.length nc) (.slice aa as_.length ac) (.string ⟨#[]⟩) (.slice (some ⟨w2.heap.size, 0, none⟩) 1 1)
 have hbF : Below w.heap.size w (((((((((w4.setCell ⟨w2.heap.size + 1, 2, none⟩ (.slice na ns.length nc)).setCell ⟨w2.heap.size + 1, 3, none⟩ (.slice aa as_.length ac)).setCell ⟨w.heap.size + 1, 0, none⟩ (.int .i64 5)).setCell ⟨w.heap.size + 1, 1, none⟩ (.string ⟨#[]⟩)).setCell ⟨w.heap.size + 1, 2, none⟩ (.slice na ns.length nc)).setCell ⟨w.heap.size + 1, 3, none⟩ (.slice aa as_.length ac)).setCell ⟨w.heap.size + 1, 4, none⟩ (.string ⟨#[]⟩)).setCell ⟨w.heap.size + 1, 5, none⟩ (.slice (some ⟨w2.heap.size, 0, none⟩) 1 1))) := (Below.setCell (Below.setCell (Below.setCell (Below.setCell (Below.setCell (Below.setCell (Below.setCell (Below.setCell HF4.out.2 (p := ⟨w2.heap.size + 1, 2, none⟩) (by have := HF3.out.2.2.2.2; show w.heap.size ≤ w2.heap.size + 1; omega) _) (p := ⟨w2.heap.size + 1, 3, none⟩) (by have := HF3.out.2.2.2.2; show w.heap.size ≤ w2.heap.size + 1; omega) _) (p := ⟨w.heap.size + 1, 0, none⟩) (Nat.le_succ _) _) (p := ⟨w.heap.size + 1, 1, none⟩) (Nat.le_succ _) _) (p := ⟨w.heap.size + 1, 2, none⟩) (Nat.le_succ _) _) (p := ⟨w.heap.size + 1, 3, none⟩) (Nat.le_succ _) _) (p := ⟨w.heap.size + 1, 4, none⟩) (Nat.le_succ _) _) (p := ⟨w.heap.size + 1, 5, none⟩) (Nat.le_succ _) _)
 have hfr : ∀ k, k ≠ w.heap.size + 1 → (((((((((w4.setCell ⟨w2.heap.size + 1, 2, none⟩ (.slice na ns.length nc)).setCell ⟨w2.heap.size + 1, 3, none⟩ (.slice aa as_.length ac)).setCell ⟨w.heap.size + 1, 0, none⟩ (.int .i64 5)).setCell ⟨w.heap.size + 1, 1, none⟩ (.string ⟨#[]⟩)).setCell ⟨w.heap.size + 1, 2, none⟩ (.slice na ns.length nc)).setCell ⟨w.heap.size + 1, 3, none⟩ (.slice aa as_.length ac)).setCell ⟨w.heap.size + 1, 4, none⟩ (.string ⟨#[]⟩)).setCell ⟨w.heap.size + 1, 5, none⟩ (.slice (some ⟨w2.heap.size, 0, none⟩) 1 1))).heap[k]? = ((w4.setCell ⟨w2.heap.size + 1, 2, none⟩ (.slice na ns.length nc)).setCell ⟨w2.heap.size + 1, 3, none⟩ (.slice aa as_.length ac)).heap[k]? := fun k hk => six_far hk _ _ _ _ _ _
 have hsz : (((((((((w4.setCell ⟨w2.heap.size + 1, 2, none⟩ (.slice na ns.length nc)).setCell ⟨w2.heap.size + 1, 3, none⟩ (.slice aa as_.length ac)).setCell ⟨w.heap.size + 1, 0, none⟩ (.int .i64 5)).setCell ⟨w.heap.size + 1, 1, none⟩ (.string ⟨#[]⟩)).setCell ⟨w.heap.size + 1, 2, none⟩ (.slice na ns.length nc)).setCell ⟨w.heap.size + 1, 3, none⟩ (.slice aa as_.length ac)).setCell ⟨w.heap.size + 1, 4, none⟩ (.string ⟨#[]⟩)).setCell ⟨w.heap.size + 1, 5, none⟩ (.slice (some ⟨w2.heap.size, 0, none⟩) 1 1))).heap.size = ((w4.setCell ⟨w2.heap.size + 1, 2, none⟩ (.slice na ns.length nc)).setCell ⟨w2.heap.size + 1, 3, none⟩ (.slice aa as_.length ac)).heap.size := by simp
 generalize (((((((((w4.setCell ⟨w2.heap.size + 1, 2, none⟩ (.slice na ns.length nc)).setCell ⟨w2.heap.size + 1, 3, none⟩ (.slice aa as_.length ac)).setCell ⟨w.heap.size + 1, 0, none⟩ (.int .i64 5)).setCell ⟨w.heap.size + 1, 1, none⟩ (.string ⟨#[]⟩)).setCell ⟨w.heap.size + 1, 2, none⟩ (.slice na ns.length nc)).setCell ⟨w.heap.size + 1, 3, none⟩ (.slice aa as_.length ac)).setCell ⟨w.heap.size + 1, 4, none⟩ (.string ⟨#[]⟩)).setCell ⟨w.heap.size + 1, 5, none⟩ (.slice (some ⟨w2.heap.size, 0, none⟩) 1 1))) = Wf at hk hbF hfr hsz ⊢
 have k0 : Wf.cell? ⟨w.heap.size + 1, 0, none⟩ = some (.int .i64 5) := (cellO hk).trans rfl
 have k1 : Wf.cell? ⟨w.heap.size + 1, 1, none⟩ = some (.string ⟨#[]⟩) := (cellO hk).trans rfl
 have k2 : Wf.cell? ⟨w.heap.size + 1, 2, none⟩ = some (.slice na ns.length nc) := (cellO hk).trans rfl
 have k3 : Wf.cell? ⟨w.heap.size + 1, 3, none⟩ = some (.slice aa as_.length ac) := (cellO hk).trans rfl
 have k4 : Wf.cell? ⟨w.heap.size + 1, 4, none⟩ = some (.string ⟨#[]⟩) := (cellO hk).trans rfl
 have k5 : Wf.cell? ⟨w.heap.size + 1, 5, none⟩ = some (.slice (some ⟨w2.heap.size, 0, none⟩) 1 1) := (cellO hk).trans rfl
 refine bodyPost_ret (v := .agg #[.int .i64 5, .string ⟨#[]⟩, .slice na ns.length nc, .slice aa as_.length ac, .string ⟨#[]⟩, .slice (some ⟨w2.heap.size, 0, none⟩) 1 1]) (by simp [results, Tryz.results130, go_sem, k0, k1, k2, k3, k4, k5]) rfl ⟨hbF, _, rfl, set_fin HF3.out.2.2.2.2.1 HF3.out.2.2.2.2.2 HIN.out HW3.out HF4.out.1 (fun k k1 k2 => ((hfr k k1).trans (Below.heap_setCell _ _ _ _ (by simpa using k2))).trans (Below.heap_setCell _ _ _ _ (by simpa using k2))) (by rw [hsz]; simp) HV.out HV2.out⟩
end Go.Proofs.YtonafbennobgdaaGreatDoor
