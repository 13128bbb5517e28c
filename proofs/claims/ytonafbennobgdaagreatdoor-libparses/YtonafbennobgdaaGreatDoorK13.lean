/- Chapter 3: what stands behind import. -/
import Derived.Test.YtonafbennobgdaaGreatDoorK12
namespace Go.Proofs.YtonafbennobgdaaGreatDoor
set_option linter.unusedVariables false
set_option linter.unusedSimpArgs false
open Go.RowKit
set_option maxRecDepth 100000
set_option maxHeartbeats 6400000
def SeT (w : World) (s : Se) (v : Value) (w' : World) : Prop := SeV (fun k => w.heap.size ≤ k ∧ k < w'.heap.size) w' s v
theorem set_boxes (d : Dat) (a : Option Addr) (kn cap : Nat) (w : World) : Below w.heap.size w ((w.alloc (.cells #[.int .i64 d.kind, .int .i64 d.n, .string d.name, .int .i64 d.stamp, .int .i64 d.lib, .slice a kn cap] 26)).alloc (.cells #[.int .i64 0, .string ⟨#[]⟩, .slice none 0 0, .slice none 0 0, .string ⟨#[]⟩, .slice none 0 0] 73)) ∧ ((w.alloc (.cells #[.int .i64 d.kind, .int .i64 d.n, .string d.name, .int .i64 d.stamp, .int .i64 d.lib, .slice a kn cap] 26)).alloc (.cells #[.int .i64 0, .string ⟨#[]⟩, .slice none 0 0, .slice none 0 0, .string ⟨#[]⟩, .slice none 0 0] 73)).heap[w.heap.size]? = some (.cells #[.int .i64 d.kind, .int .i64 d.n, .string d.name, .int .i64 d.stamp, .int .i64 d.lib, .slice a kn cap] 26 (0, 0)) ∧ ((w.alloc (.cells #[.int .i64 d.kind, .int .i64 d.n, .string d.name, .int .i64 d.stamp, .int .i64 d.lib, .slice a kn cap] 26)).alloc (.cells #[.int .i64 0, .string ⟨#[]⟩, .slice none 0 0, .slice none 0 0, .string ⟨#[]⟩, .slice none 0 0] 73)).heap[w.heap.size + 1]? = some (.cells #[.int .i64 0, .string ⟨#[]⟩, .slice none 0 0, .slice none 0 0, .string ⟨#[]⟩, .slice none 0 0] 73 (0, 0)) ∧ ((w.alloc (.cells #[.int .i64 d.kind, .int .i64 d.n, .string d.name, .int .i64 d.stamp, .int .i64 d.lib, .slice a kn cap] 26)).alloc (.cells #[.int .i64 0, .string ⟨#[]⟩, .slice none 0 0, .slice none 0 0, .string ⟨#[]⟩, .slice none 0 0] 73)).heap.size = w.heap.size + 2 := by
 refine ⟨((Below.refl _ _).alloc (Nat.le_refl _) _).alloc (by simp) _, ?_, ?_, by simp⟩
 ·rw [Below.heap_alloc _ _ _ (by simp)]; exact World.alloc_heap_new w _
 have := World.alloc_heap_new (w.alloc (.cells #[.int .i64 d.kind, .int .i64 d.n, .string d.name, .int .i64 d.stamp, .int .i64 d.lib, .slice a kn cap] 26)) (.cells #[.int .i64 0, .string ⟨#[]⟩, .slice none 0 0, .slice none 0 0, .string ⟨#[]⟩, .slice none 0 0] 73)
 simpa using this
theorem e130 (d : Dat) (a : Option Addr) (kn cap : Nat) (w : World) : ∃ W0, (w.alloc (.cells #[.int .i64 d.kind, .int .i64 d.n, .string d.name, .int .i64 d.stamp, .int .i64 d.lib, .slice a kn cap] 26)).alloc (.cells #[.int .i64 0, .string ⟨#[]⟩, .slice none 0 0, .slice none 0 0, .string ⟨#[]⟩, .slice none 0 0] 73) = W0 ∧ Hid (Below w.heap.size w W0 ∧ W0.heap.size = w.heap.size + 2) ∧ Hid (∀ W, Below W0.heap.size W0 W → W.heap[w.heap.size]? = some (.cells #[.int .i64 d.kind, .int .i64 d.n, .string d.name, .int .i64 d.stamp, .int .i64 d.lib, .slice a kn cap] 26 (0, 0)) ∧ W.heap[w.heap.size + 1]? = some (.cells #[.int .i64 0, .string ⟨#[]⟩, .slice none 0 0, .slice none 0 0, .string ⟨#[]⟩, .slice none 0 0] 73 (0, 0))) ∧ W0.cell? ⟨w.heap.size, 0, none⟩ = some (.int .i64 d.kind) ∧ W0.cell? ⟨w.heap.size, 1, none⟩ = some (.int .i64 d.n) ∧ W0.cell? ⟨w.heap.size, 2, none⟩ = some (.string d.name) ∧ W0.cell? ⟨w.heap.size, 3, none⟩ = some (.int .i64 d.stamp) ∧ W0.cell? ⟨w.heap.size, 4, none⟩ = some (.int .i64 d.lib) ∧ W0.cell? ⟨w.heap.size, 5, none⟩ = some (.slice a kn cap) := by
 obtain ⟨W0, hW0⟩ : ∃ W0, W0 = (w.alloc (.cells #[.int .i64 d.kind, .int .i64 d.n, .string d.name, .int .i64 d.stamp, .int .i64 d.lib, .slice a kn cap] 26)).alloc (.cells #[.int .i64 0, .string ⟨#[]⟩, .slice none 0 0, .slice none 0 0, .string ⟨#[]⟩, .slice none 0 0] 73) := ⟨_, rfl⟩
 obtain ⟨g1, g2, g3, g4⟩ := set_boxes d a kn cap w
 rw [← hW0] at g1 g2 g3 g4
 exact ⟨W0, hW0.symm, ⟨g1, g4⟩, fun W hb => ⟨(hb.block _ (by omega)).trans g2, (hb.block _ (by omega)).trans g3⟩, six_at g2⟩
theorem six_far {W : World} {M k : Nat} (hk : k ≠ M) (a0 a1 a2 a3 a4 a5 : Value) : ((((((W.setCell ⟨M, 0, none⟩ a0).setCell ⟨M, 1, none⟩ a1).setCell ⟨M, 2, none⟩ a2).setCell ⟨M, 3, none⟩ a3).setCell ⟨M, 4, none⟩ a4).setCell ⟨M, 5, none⟩ a5).heap[k]? = W.heap[k]? := by
 rw [Below.heap_setCell _ _ _ _ (by simpa using hk), Below.heap_setCell _ _ _ _ (by simpa using hk), Below.heap_setCell _ _ _ _ (by simpa using hk), Below.heap_setCell _ _ _ _ (by simpa using hk), Below.heap_setCell _ _ _ _ (by simpa using hk), Below.heap_setCell _ _ _ _ (by simpa using hk)]
theorem six_done {W : World} {R : Nat} {c0 c1 c2 c3 c4 c5 : Value} {t : TypeId} (h : W.heap[R]? = some (.cells #[c0, c1, c2, c3, c4, c5] t (0, 0))) (v0 v1 v2 v3 v4 v5 : Value) {B : Nat} {w : World} (hb : Below B w W) (hR : B ≤ R) : ∃ Wf, ((((((W.setCell ⟨R, 0, none⟩ v0).setCell ⟨R, 1, none⟩ v1).setCell ⟨R, 2, none⟩ v2).setCell ⟨R, 3, none⟩ v3).setCell ⟨R, 4, none⟩ v4).setCell ⟨R, 5, none⟩ v5) = Wf ∧ Hid (Below B w Wf ∧ (∀ k, k ≠ R → Wf.heap[k]? = W.heap[k]?) ∧ Wf.heap.size = W.heap.size) ∧ Wf.cell? ⟨R, 0, none⟩ = some v0 ∧ Wf.cell? ⟨R, 1, none⟩ = some v1 ∧ Wf.cell? ⟨R, 2, none⟩ = some v2 ∧ Wf.cell? ⟨R, 3, none⟩ = some v3 ∧ Wf.cell? ⟨R, 4, none⟩ = some v4 ∧ Wf.cell? ⟨R, 5, none⟩ = some v5 :=
 ⟨_, rfl, ⟨(((((hb.setCell (p := ⟨R, 0, none⟩) hR _).setCell (p := ⟨R, 1, none⟩) hR _).setCell (p := ⟨R, 2, none⟩) hR _).setCell (p := ⟨R, 3, none⟩) hR _).setCell (p := ⟨R, 4, none⟩) hR _).setCell (p := ⟨R, 5, none⟩) hR _, fun k hk => six_far hk _ _ _ _ _ _, by simp⟩, six_at (set6 h v0 v1 v2 v3 v4 v5)⟩
theorem slice2 (b o kn cap : Nat) (h2 : 2 ≤ kn) (hc : kn ≤ cap) (w : World) : (Instr.slice 24 (.slice (some ⟨b, o, none⟩) kn cap) (some (.int .i64 2)) none none).run Tryz.prog w = .ok (.slice (if cap = 2 then some ⟨b, o, none⟩ else some ⟨b, o + 12, none⟩) (kn - 2) (cap - 2)) w := by
 have q1 : (2 : Int) ≤ (kn : Int) := by omega
 have q2 : (kn : Int) ≤ (cap : Int) := by omega
 simp [Instr.slice, run_underlying Tryz.underlying24, go_sem, h2, hc, q1, q2]
theorem set_fin {w w1 w2 w3 w4 Wf : World} {s : Se} {v0 v1 v2 v3 v4 v5 nv av : Value} {bc : Array Value} {K : Int} {ns as_ : List ByteArray} {p : ByteArray} (hs1 : w.heap.size + 2 ≤ w1.heap.size) (hs2 : w1.heap.size ≤ w2.heap.size) (hin : SeV (fun k => w1.heap.size ≤ k ∧ k < w2.heap.size) w2 s (.agg #[v0, v1, v2, v3, v4, v5]))
 (hw3 : w3 = (w2.alloc (.cells #[v0, v1, v2, v3, v4, v5] 73)).alloc (.cells bc 73)) (hb4 : Below w3.heap.size w3 w4) (hf : ∀ k, k ≠ w.heap.size + 1 → k ≠ w2.heap.size + 1 → Wf.heap[k]? = w4.heap[k]?) (hfs : Wf.heap.size = w4.heap.size) (hn : SV (fun k => w3.heap.size ≤ k ∧ k < w4.heap.size) ns nv w4) (ha : SV (fun k => w3.heap.size ≤ k ∧ k < w4.heap.size) as_ av w4) :
 SeT w (.mk K ⟨#[]⟩ ns as_ p [s]) (.agg #[.int .i64 K, .string ⟨#[]⟩, nv, av, .string p, .slice (some ⟨w2.heap.size, 0, none⟩) 1 1]) Wf := by
 have h3 : w3.heap.size = w2.heap.size + 2 := by rw [hw3]; simp
 have h4 := hb4.size
 have hin' : SeV (fun k => w.heap.size ≤ k ∧ k < Wf.heap.size) Wf s (.agg #[v0, v1, v2, v3, v4, v5]) := hin.stay (fun k hk => by
  rw [hf k (by omega) (by omega), hb4.block k (by omega), hw3, Below.heap_alloc _ _ _ (by simp; omega), Below.heap_alloc _ _ _ (by omega)]) (fun k hk => ⟨by omega, by omega⟩)
 have hS : Wf.heap[w2.heap.size]? = some (.cells #[v0, v1, v2, v3, v4, v5] 73 (0, 0)) := by
  rw [hf _ (by omega) (by omega), hb4.block _ (by omega), hw3, Below.heap_alloc _ _ _ (by simp)]
  exact World.alloc_heap_new w2 _
 have st : ∀ {l : List ByteArray} {v : Value}, SV (fun k => w3.heap.size ≤ k ∧ k < w4.heap.size) l v w4 → SV (fun k => w.heap.size ≤ k ∧ k < Wf.heap.size) l v Wf := fun h => h.stay (fun k hk => hf k (by omega) (by omega)) (fun k hk => ⟨by omega, by omega⟩)
 exact ⟨nv, av, _, rfl, st hn, st ha, SeL.one hin' ⟨by omega, by omega⟩ hS⟩
theorem set_deep (d : Dat) (a : Option Addr) (kn cap : Nat) (dp : Int) (w : World) (hd : 12 < dp) :
 Calls Tryz.prog 130 #[.agg #[.int .i64 d.kind, .int .i64 d.n, .string d.name, .int .i64 d.stamp, .int .i64 d.lib, .slice a kn cap], .int .i64 dp] w fun e w' => Below w.heap.size w w' ∧ e = .panicked (thrownL 4) := by
 obtain ⟨W0, hw0, HB0, HX, y0, y1, y2, y3, y4, y5⟩ := e130 d a kn cap w
 have HN := hidd (must_no 4)
 have c1 : decide (dp ≤ 12) = false := by simp; omega
 go_enter Tryz.func130, Tryz.ntmps130
 go_wp2_with fail
 refine (HN.out _).mono ?_
 rintro e wm ⟨rfl, hwm⟩
 rw [hwm]
 clear hwm
 go_wp2_with fail
 exact ⟨rfl, HB0.out.1, rfl⟩
theorem set_none (d : Dat) (a : Option Addr) (kn cap : Nat) (dp : Int) (w : World) (hd : dp ≤ 12) (HT0 : ∀ W, Calls Tryz.prog 77 #[.agg #[.int .i64 d.kind, .int .i64 d.n, .string d.name, .int .i64 d.stamp, .int .i64 d.lib, .slice a kn cap]] W fun e w' => Below W.heap.size W w' ∧ e = .panicked (thrownL 2)) :
 Calls Tryz.prog 130 #[.agg #[.int .i64 d.kind, .int .i64 d.n, .string d.name, .int .i64 d.stamp, .int .i64 d.lib, .slice a kn cap], .int .i64 dp] w fun e w' => Below w.heap.size w w' ∧ e = .panicked (thrownL 2) := by
 obtain ⟨W0, hw0, HB0, HX, y0, y1, y2, y3, y4, y5⟩ := e130 d a kn cap w
 have HY := hidd (must_yes 4)
 have c1 : decide (dp ≤ 12) = true := by simp; omega
 have HT := hidd HT0
 clear HT0
 go_enter Tryz.func130, Tryz.ntmps130
 go_wp2_with fail
 refine (HY.out _).mono ?_
 rintro e wm ⟨rfl, hwm⟩
 rw [hwm]
 clear hwm
 go_wp2_with fail
 refine (HT.out _).mono ?_
 rintro e w1 ⟨hb1, rfl⟩
 have HB1 : Hid (Below w.heap.size w w1) := HB0.out.1.trans (hb1.mono HB0.out.1.size)
 clear hb1
 go_wp2_with fail
 exact ⟨rfl, HB1.out, rfl⟩
theorem set_lib (d : Dat) (a : Option Addr) (kn cap : Nat) (dp : Int) (w : World) (hd : dp ≤ 12) (HT0 : ∀ W, Calls Tryz.prog 77 #[.agg #[.int .i64 d.kind, .int .i64 d.n, .string d.name, .int .i64 d.stamp, .int .i64 d.lib, .slice a kn cap]] W fun e w' => Below W.heap.size W w' ∧ e = .returned (.slice a kn cap)) (HK0 : ∀ W, Below w.heap.size w W → Calls Tryz.prog 143 #[.slice a kn cap] W fun e w' => e = .returned (.int .i64 1) ∧ w' = W) (er : Er ByteArray) (HC0 : ∀ W, Below w.heap.size w W → Calls Tryz.prog 55 #[.agg #[.int .i64 d.kind, .int .i64 d.n, .string d.name, .int .i64 d.stamp, .int .i64 d.lib, .slice a kn cap]] W (ToldE er (fun s v _ => v = .string s) W)) :
 Calls Tryz.prog 130 #[.agg #[.int .i64 d.kind, .int .i64 d.n, .string d.name, .int .i64 d.stamp, .int .i64 d.lib, .slice a kn cap], .int .i64 dp] w (ToldE (er.bind fun nm => .ok (Se.mk 1 nm [] [] ⟨#[]⟩ [])) (SeT w) w) := by
 obtain ⟨W0, hw0, HB0, HX, y0, y1, y2, y3, y4, y5⟩ := e130 d a kn cap w
 have HY := hidd (must_yes 4)
 have c1 : decide (dp ≤ 12) = true := by simp; omega
 have HT := hidd HT0
 have HK := hidd HK0
 have HC := hidd HC0
 clear HT0 HK0 HC0
 go_enter Tryz.func130, Tryz.ntmps130
 go_wp2_with fail
 refine (HY.out _).mono ?_
 rintro e wm ⟨rfl, hwm⟩
 rw [hwm]
 clear hwm
 go_wp2_with fail
 refine (HT.out _).mono ?_
 rintro e w1 ⟨hb1, rfl⟩
 obtain ⟨x0, x1⟩ := HX.out w1 hb1
 have HB1 : Hid (Below w.heap.size w w1 ∧ Below W0.heap.size W0 w1) := ⟨HB0.out.1.trans (hb1.mono HB0.out.1.size), hb1⟩
 obtain ⟨z0, z1, z2, z3, z4, z5⟩ := six_at x0
 clear hb1 x0 x1 y0 y1 y2 y3 y4 y5
 go_wp2_with fail
 refine (HK.out _ HB1.out.1).mono ?_
 rintro e wk ⟨rfl, hwk⟩
 rw [hwk]
 clear hwk
 go_wp2_with fail
 refine (HC.out _ HB1.out.1).mono ?_
 rintro e w2 ⟨hb2, he⟩
 have HB2 : Hid (Below w.heap.size w w2) := HB1.out.1.trans (hb2.mono HB1.out.1.size)
 obtain ⟨_, x1⟩ := HX.out w2 (HB1.out.2.trans (hb2.mono HB1.out.2.size))
 clear hb2 HC
 cases er with
 | no x =>
  obtain rfl := he
  clear x1
  go_wp2_with fail
  exact ⟨rfl, HB2.out, rfl⟩
 | ok nm =>
  obtain ⟨v, rfl, rfl⟩ := he
  obtain ⟨r0, r1, r2, r3, r4, r5⟩ := six_at x1
  obtain ⟨s0, s1, s2, s3, s4, s5⟩ := six_fz x1
  have HX1 := hidd x1
  clear x1
  go_wp2_with fail
  obtain ⟨Wf, hWf, HWF, k0, k1, k2, k3, k4, k5⟩ := six_done (R := w.heap.size + 1) HX1.out (.int .i64 1) (.string nm) (.slice none 0 0) (.slice none 0 0) (.string ⟨#[]⟩) (.slice none 0 0) HB2.out (Nat.le_succ _)
  rw [hWf]
  clear hWf
  exact bodyPost_ret (v := .agg #[.int .i64 1, .string nm, .slice none 0 0, .slice none 0 0, .string ⟨#[]⟩, .slice none 0 0]) (by simp [results, Tryz.results130, go_sem, k0, k1, k2, k3, k4, k5]) rfl ⟨HWF.out.1, _, rfl, ⟨_, _, _, rfl, SV.nil _ _, SV.nil _ _, SeL.none none 0⟩⟩
theorem set_rest (d y : Dat) (b o kn cap yn yc : Nat) (ya : Option Addr) (dp : Int) (w : World) (K : Int) (hK : ¬ K = 1) (hd0 : 0 ≤ dp) (hd : dp ≤ 12) (hk2 : 2 ≤ kn) (HT0 : ∀ W, Calls Tryz.prog 77 #[.agg #[.int .i64 d.kind, .int .i64 d.n, .string d.name, .int .i64 d.stamp, .int .i64 d.lib, .slice (some ⟨b, o, none⟩) kn cap]] W fun e w' => Below W.heap.size W w' ∧ e = .returned (.slice (some ⟨b, o, none⟩) kn cap)) (HK0 : ∀ W, Below w.heap.size w W → Calls Tryz.prog 143 #[.slice (some ⟨b, o, none⟩) kn cap] W fun e w' => e = .returned (.int .i64 K) ∧ w' = W) (HYD : ∀ W, Below w.heap.size w W → W.cell? ⟨b, o + 6, none⟩ = some (.int .i64 y.kind) ∧ W.cell? ⟨b, o + 6 + 1, none⟩ = some (.int .i64 y.n) ∧ W.cell? ⟨b, o + 6 + 2, none⟩ = some (.string y.name) ∧ W.cell? ⟨b, o + 6 + 3, none⟩ = some (.int .i64 y.stamp) ∧ W.cell? ⟨b, o + 6 + 4, none⟩ = some (.int .i64 y.lib) ∧ W.cell? ⟨b, o + 6 + 5, none⟩ = some (.slice ya yn yc)) (eS : Er Se) (HS0 : ∀ W, Below w.heap.size w W → Calls Tryz.prog 130 #[.agg #[.int .i64 y.kind, .int .i64 y.n, .string y.name, .int .i64 y.stamp, .int .i64 y.lib, .slice ya yn yc], .int .i64 (dp + 1)] W (ToldE eS (SeT W) W)) (ra : Option Addr) (HSL : ∀ u, (Instr.slice 24 (.slice (some ⟨b, o, none⟩) kn cap) (some (.int .i64 2)) none none).run Tryz.prog u = .ok (.slice ra (kn - 2) (cap - 2)) u) (R : Se → Er Se)
 (HQ : ((K = 2 ∨ K = 3) ∧ ∃ eN : Er (List ByteArray), (∀ W, Below w.heap.size w W → Calls Tryz.prog 80 #[.slice ra (kn - 2) (cap - 2)] W (ToldE eN (fun l v w' => StrR W.heap.size l v w') W)) ∧ R = fun s => eN.bind fun ns => .ok (.mk K ⟨#[]⟩ ns [] ⟨#[]⟩ [s]))
  ∨ (K = 4 ∧ ((∃ z, (∀ W, Below w.heap.size w W → Calls Tryz.prog 144 #[.slice ra (kn - 2) (cap - 2)] W fun e w' => Below W.heap.size W w' ∧ e = .panicked (thrownL z)) ∧ R = fun _ => .no z) ∨ ∃ (x : Dat) (xa : Option Addr) (xn xc : Nat) (eP : Er ByteArray), (∀ W, Below w.heap.size w W → Calls Tryz.prog 144 #[.slice ra (kn - 2) (cap - 2)] W fun e w' => Below W.heap.size W w' ∧ e = .returned (.agg #[.int .i64 x.kind, .int .i64 x.n, .string x.name, .int .i64 x.stamp, .int .i64 x.lib, .slice xa xn xc])) ∧ (∀ W, Calls Tryz.prog 78 #[.agg #[.int .i64 x.kind, .int .i64 x.n, .string x.name, .int .i64 x.stamp, .int .i64 x.lib, .slice xa xn xc]] W (ToldE eP (fun p v _ => v = .string p) W)) ∧ R = fun s => eP.bind fun p => .ok (.mk 4 ⟨#[]⟩ [] [] p [s])))
  ∨ (K = 5 ∧ ∃ eR : Er (List ByteArray × List ByteArray), (∀ W, Below w.heap.size w W → Calls Tryz.prog 145 #[.slice ra (kn - 2) (cap - 2)] W (ToldE eR (fun q v w' => ∃ v1 v2, v = .tuple #[v1, v2] ∧ StrR W.heap.size q.1 v1 w' ∧ StrR W.heap.size q.2 v2 w') W)) ∧ R = fun s => eR.bind fun q => .ok (.mk 5 ⟨#[]⟩ q.1 q.2 ⟨#[]⟩ [s]))) :
 Calls Tryz.prog 130 #[.agg #[.int .i64 d.kind, .int .i64 d.n, .string d.name, .int .i64 d.stamp, .int .i64 d.lib, .slice (some ⟨b, o, none⟩) kn cap], .int .i64 dp] w (ToldE (eS.bind R) (SeT w) w) := by
 obtain ⟨W0, hw0, HB0, HX, y0, y1, y2, y3, y4, y5⟩ := e130 d (some ⟨b, o, none⟩) kn cap w
 have HY := hidd (must_yes 4)
 have c1 : decide (dp ≤ 12) = true := by simp; omega
 have HT := hidd HT0
 have HK := hidd HK0
 have HS := hidd HS0
 have HYY := hidd HYD
 have HQQ := hidd HQ
 have m1 : (1 : Int) < (kn : Int) := by omega
 have kk : (K == 1) = false := by simpa using hK
 clear HT0 HK0 HS0 HYD HQ
 go_enter Tryz.func130, Tryz.ntmps130
 go_wp2_with fail
 refine (HY.out _).mono ?_
 rintro e wm ⟨rfl, hwm⟩
 rw [hwm]
 clear hwm
 go_wp2_with fail
 refine (HT.out _).mono ?_
 rintro e w1 ⟨hb1, rfl⟩
 obtain ⟨x0, x1⟩ := HX.out w1 hb1
 have HB1 : Hid (Below w.heap.size w w1 ∧ Below W0.heap.size W0 w1) := ⟨HB0.out.1.trans (hb1.mono HB0.out.1.size), hb1⟩
 obtain ⟨z0, z1, z2, z3, z4, z5⟩ := six_at x0
 clear hb1 x0 x1 y0 y1 y2 y3 y4 y5
 go_wp2_with fail
 refine (HK.out _ HB1.out.1).mono ?_
 rintro e wk ⟨rfl, hwk⟩
 rw [hwk]
 clear hwk
 obtain ⟨u0, u1, u2, u3, u4, u5⟩ := HYY.out w1 HB1.out.1
 go_wp2_with fail
 refine (HS.out _ HB1.out.1).mono ?_
 rintro e w2 ⟨hb2, he⟩
 clear HS HK HYY HT
 cases eS with
 | no x =>
  obtain rfl := he
  have HB2 : Hid (Below w.heap.size w w2) := HB1.out.1.trans (hb2.mono HB1.out.1.size)
  clear hb2
  go_wp2_with fail
  exact ⟨rfl, HB2.out, rfl⟩
 | ok s =>
  obtain ⟨v, rfl, hv⟩ := he
  obtain ⟨sk, sn, sns, sas, sp, sks⟩ := s
  obtain ⟨sv2, sv3, sv5, rfl, hv2, hv3, hv5⟩ := hv
  have HIN : Hid (SeV (fun k => w1.heap.size ≤ k ∧ k < w2.heap.size) w2 (.mk sk sn sns sas sp sks) (.agg #[.int .i64 sk, .string sn, sv2, sv3, .string sp, sv5])) := ⟨sv2, sv3, sv5, rfl, hv2, hv3, hv5⟩
  obtain ⟨W3, hW3⟩ : ∃ W3, W3 = (w2.alloc (.cells #[.int .i64 sk, .string sn, sv2, sv3, .string sp, sv5] 73)).alloc (.cells #[.int .i64 K, .string ⟨#[]⟩, .slice none 0 0, .slice none 0 0, .string ⟨#[]⟩, .slice (some ⟨w2.heap.size, 0, none⟩) 1 1] 73) := ⟨_, rfl⟩
  have b3 : Below w2.heap.size w2 W3 := by rw [hW3]; exact ((Below.refl _ _).alloc (Nat.le_refl _) _).alloc (by simp) _
  have hS3 : W3.heap.size = w2.heap.size + 2 := by rw [hW3]; simp
  have hT3 : W3.heap[w2.heap.size + 1]? = some (.cells #[.int .i64 K, .string ⟨#[]⟩, .slice none 0 0, .slice none 0 0, .string ⟨#[]⟩, .slice (some ⟨w2.heap.size, 0, none⟩) 1 1] 73 (0, 0)) := by
   rw [hW3]
   have := World.alloc_heap_new (w2.alloc (.cells #[.int .i64 sk, .string sn, sv2, sv3, .string sp, sv5] 73)) (.cells #[.int .i64 K, .string ⟨#[]⟩, .slice none 0 0, .slice none 0 0, .string ⟨#[]⟩, .slice (some ⟨w2.heap.size, 0, none⟩) 1 1] 73)
   simpa using this
  have HF3 : Hid (Below w.heap.size w W3) := HB1.out.1.trans ((hb2.trans (b3.mono hb2.size)).mono HB1.out.1.size)
  have HS2 : Hid (w.heap.size + 2 ≤ w1.heap.size ∧ w1.heap.size ≤ w2.heap.size ∧ W3 = (w2.alloc (.cells #[.int .i64 sk, .string sn, sv2, sv3, .string sp, sv5] 73)).alloc (.cells #[.int .i64 K, .string ⟨#[]⟩, .slice none 0 0, .slice none 0 0, .string ⟨#[]⟩, .slice (some ⟨w2.heap.size, 0, none⟩) 1 1] 73)) := ⟨by have := HB1.out.2.size; have := HB0.out.2; omega, hb2.size, hW3⟩
  have HM4 : Hid (∀ w4, Below W3.heap.size W3 w4 → Below w.heap.size w w4 ∧ w4.heap[w2.heap.size + 1]? = some (.cells #[.int .i64 K, .string ⟨#[]⟩, .slice none 0 0, .slice none 0 0, .string ⟨#[]⟩, .slice (some ⟨w2.heap.size, 0, none⟩) 1 1] 73 (0, 0)) ∧ w4.heap[w.heap.size + 1]? = some (.cells #[.int .i64 0, .string ⟨#[]⟩, .slice none 0 0, .slice none 0 0, .string ⟨#[]⟩, .slice none 0 0] 73 (0, 0))) := fun w4 hb4 => ⟨HF3.out.trans (hb4.mono HF3.out.size), (hb4.block _ (by omega)).trans hT3, (HX.out w4 ((HB1.out.2.trans ((hb2.trans (b3.mono hb2.size)).mono HB1.out.2.size)).trans (hb4.mono ((hb2.trans (b3.mono hb2.size)).size |> Nat.le_trans HB1.out.2.size)))).2⟩
  have HRT : Hid (w.heap.size + 1 ≠ w2.heap.size + 1 ∧ w.heap.size ≤ w2.heap.size + 1) := by show _ ∧ _; have := HS2.out.1; have := HS2.out.2.1; omega
  have hw3 := hW3.symm
  clear hv2 hv3 hv5 hb2 b3 hS3 hT3 hW3 z0 z1 z2 z3 z4 z5 u0 u1 u2 u3 u4 u5
  rcases HQQ.out with ⟨hK, eN, HN, rfl⟩ | ⟨rfl, h⟩ | ⟨rfl, eR, HR, rfl⟩
  ·clear HQQ
   replace HN := hidd HN
   rcases hK with rfl | rfl
   all_goals
    go_wp2_with fail
    refine (HN.out _ HF3.out).mono ?_
    rintro e w4 ⟨hb4, he⟩
    clear HN
    cases eN with
    | no z =>
     obtain rfl := he
     have HB4 := hidd (HM4.out w4 hb4).1
     clear hb4
     go_wp2_with fail
     exact ⟨rfl, HB4.out, rfl⟩
    | ok ns =>
     obtain ⟨nv, rfl, hnv⟩ := he
     obtain ⟨na, nc, rfl, _⟩ := own_sliceL hnv
     have HV := hidd (StrR.sv hnv)
     clear hnv
     obtain ⟨q1, q2, q3⟩ := HM4.out w4 hb4
     obtain ⟨t0, t1, t2, t3, t4, t5⟩ := six_at q2
     obtain ⟨f0, f1, f2, f3, f4, f5⟩ := six_fz q2
     obtain ⟨r0, r1, r2, r3, r4, r5⟩ := six_at q3
     obtain ⟨s0, s1, s2, s3, s4, s5⟩ := six_fz q3
     have HB4 := hidd (And.intro hb4 (And.intro q1 q3))
     have hRT := HRT.out.1
     have hTR := hRT.symm
     clear hb4 q1 q2 q3
     go_wp2_with fail
     obtain ⟨Wf, hWf, HWF, k0, k1, k2, k3, k4, k5⟩ := six_done (R := w.heap.size + 1) (W := w4.setCell ⟨w2.heap.size + 1, 2, none⟩ (.slice na ns.length nc)) (by rw [Below.heap_setCell _ _ _ _ HRT.out.1]; exact HB4.out.2.2) (.int .i64 _) (.string ⟨#[]⟩) (.slice na ns.length nc) (.slice none 0 0) (.string ⟨#[]⟩) (.slice (some ⟨w2.heap.size, 0, none⟩) 1 1) (Below.setCell HB4.out.2.1 (p := ⟨w2.heap.size + 1, 2, none⟩) HRT.out.2 _) (Nat.le_succ _)
     rw [hWf]
     clear hWf
     exact bodyPost_ret (v := .agg #[.int .i64 _, .string ⟨#[]⟩, .slice na ns.length nc, .slice none 0 0, .string ⟨#[]⟩, .slice (some ⟨w2.heap.size, 0, none⟩) 1 1]) (by simp [results, Tryz.results130, go_sem, k0, k1, k2, k3, k4, k5]) rfl ⟨HWF.out.1, _, rfl, set_fin HS2.out.1 HS2.out.2.1 HIN.out HS2.out.2.2 HB4.out.1 (fun k k1 k2 => (HWF.out.2.1 k k1).trans (Below.heap_setCell _ _ _ _ (by simpa using k2))) (by rw [HWF.out.2.2]; simp) HV.out (SV.nil _ _)⟩
  ·clear HQQ
   rcases h with ⟨z, HO, rfl⟩ | ⟨x, xa, xn, xc, eP, HO, HM, rfl⟩
   ·replace HO := hidd HO
    go_wp2_with fail
    refine (HO.out _ HF3.out).mono ?_
    rintro e w4 ⟨hb4, rfl⟩
    have HB4 := hidd (HM4.out w4 hb4).1
    clear hb4
    go_wp2_with fail
    exact ⟨rfl, HB4.out, rfl⟩
   replace HO := hidd HO
   replace HM := hidd HM
   go_wp2_with fail
   refine (HO.out _ HF3.out).mono ?_
   rintro e w5 ⟨hb5, rfl⟩
   have HF5 := hidd hb5
   clear hb5
   go_wp2_with fail
   refine (HM.out _).mono ?_
   rintro e w4 ⟨hb4', he⟩
   have hb4 : Below W3.heap.size W3 w4 := HF5.out.trans (hb4'.mono HF5.out.size)
   clear hb4' HM HO
   cases eP with
   | no z =>
    obtain rfl := he
    have HB4 := hidd (HM4.out w4 hb4).1
    clear hb4
    go_wp2_with fail
    exact ⟨rfl, HB4.out, rfl⟩
   | ok p =>
    obtain ⟨_, rfl, rfl⟩ := he
    obtain ⟨q1, q2, q3⟩ := HM4.out w4 hb4
    obtain ⟨t0, t1, t2, t3, t4, t5⟩ := six_at q2
    obtain ⟨f0, f1, f2, f3, f4, f5⟩ := six_fz q2
    obtain ⟨r0, r1, r2, r3, r4, r5⟩ := six_at q3
    obtain ⟨s0, s1, s2, s3, s4, s5⟩ := six_fz q3
    have HB4 := hidd (And.intro hb4 (And.intro q1 q3))
    have hRT := HRT.out.1
    have hTR := hRT.symm
    clear hb4 q1 q2 q3
    go_wp2_with fail
    obtain ⟨Wf, hWf, HWF, k0, k1, k2, k3, k4, k5⟩ := six_done (R := w.heap.size + 1) (W := w4.setCell ⟨w2.heap.size + 1, 4, none⟩ (.string p)) (by rw [Below.heap_setCell _ _ _ _ HRT.out.1]; exact HB4.out.2.2) (.int .i64 4) (.string ⟨#[]⟩) (.slice none 0 0) (.slice none 0 0) (.string p) (.slice (some ⟨w2.heap.size, 0, none⟩) 1 1) (Below.setCell HB4.out.2.1 (p := ⟨w2.heap.size + 1, 4, none⟩) HRT.out.2 _) (Nat.le_succ _)
    rw [hWf]
    clear hWf
    exact bodyPost_ret (v := .agg #[.int .i64 4, .string ⟨#[]⟩, .slice none 0 0, .slice none 0 0, .string p, .slice (some ⟨w2.heap.size, 0, none⟩) 1 1]) (by simp [results, Tryz.results130, go_sem, k0, k1, k2, k3, k4, k5]) rfl ⟨HWF.out.1, _, rfl, set_fin HS2.out.1 HS2.out.2.1 HIN.out HS2.out.2.2 HB4.out.1 (fun k k1 k2 => (HWF.out.2.1 k k1).trans (Below.heap_setCell _ _ _ _ (by simpa using k2))) (by rw [HWF.out.2.2]; simp) (SV.nil _ _) (SV.nil _ _)⟩
  clear HQQ
  replace HR := hidd HR
  go_wp2_with fail
  refine (HR.out _ HF3.out).mono ?_
  rintro e w4 ⟨hb4, he⟩
  clear HR
  cases eR with
  | no z =>
   obtain rfl := he
   have HB4 := hidd (HM4.out w4 hb4).1
   clear hb4
   go_wp2_with fail
   exact ⟨rfl, HB4.out, rfl⟩
  | ok q =>
   obtain ⟨ns, as_⟩ := q
   obtain ⟨_, rfl, nv, av, rfl, hnv, hav⟩ := he
   simp only at hnv hav ⊢
   obtain ⟨na, nc, rfl, _⟩ := own_sliceL hnv
   obtain ⟨aa, ac, rfl, _⟩ := own_sliceL hav
   have HV := hidd (StrR.sv hnv)
   have HV2 := hidd (StrR.sv hav)
   clear hnv hav
   obtain ⟨q1, q2, q3⟩ := HM4.out w4 hb4
   obtain ⟨t0, t1, t2, t3, t4, t5⟩ := six_at q2
   obtain ⟨f0, f1, f2, f3, f4, f5⟩ := six_fz q2
   obtain ⟨r0, r1, r2, r3, r4, r5⟩ := six_at q3
   obtain ⟨s0, s1, s2, s3, s4, s5⟩ := six_fz q3
   have HB4 := hidd (And.intro hb4 (And.intro q1 q3))
   have hRT := HRT.out.1
   have hTR := hRT.symm
   clear hb4 q1 q2 q3
   go_wp2_with fail
   obtain ⟨Wf, hWf, HWF, k0, k1, k2, k3, k4, k5⟩ := six_done (R := w.heap.size + 1) (W := (w4.setCell ⟨w2.heap.size + 1, 2, none⟩ (.slice na ns.length nc)).setCell ⟨w2.heap.size + 1, 3, none⟩ (.slice aa as_.length ac)) (by rw [Below.heap_setCell _ _ _ _ HRT.out.1, Below.heap_setCell _ _ _ _ HRT.out.1]; exact HB4.out.2.2) (.int .i64 5) (.string ⟨#[]⟩) (.slice na ns.length nc) (.slice aa as_.length ac) (.string ⟨#[]⟩) (.slice (some ⟨w2.heap.size, 0, none⟩) 1 1) (Below.setCell (Below.setCell HB4.out.2.1 (p := ⟨w2.heap.size + 1, 2, none⟩) HRT.out.2 _) (p := ⟨w2.heap.size + 1, 3, none⟩) HRT.out.2 _) (Nat.le_succ _)
   rw [hWf]
   clear hWf
   exact bodyPost_ret (v := .agg #[.int .i64 5, .string ⟨#[]⟩, .slice na ns.length nc, .slice aa as_.length ac, .string ⟨#[]⟩, .slice (some ⟨w2.heap.size, 0, none⟩) 1 1]) (by simp [results, Tryz.results130, go_sem, k0, k1, k2, k3, k4, k5]) rfl ⟨HWF.out.1, _, rfl, set_fin HS2.out.1 HS2.out.2.1 HIN.out HS2.out.2.2 HB4.out.1 (fun k k1 k2 => ((HWF.out.2.1 k k1).trans (Below.heap_setCell _ _ _ _ (by simpa using k2))).trans (Below.heap_setCell _ _ _ _ (by simpa using k2))) (by rw [HWF.out.2.2]; simp) HV.out HV2.out⟩
theorem okL_drop : ∀ {l : List Dat} (n : Nat), okL l → okL (l.drop n)
 | l, 0, h => by simpa using h
 | [], n + 1, h => by simp [okL]
 | x :: r, n + 1, h => by
  rw [okL] at h
  simpa using okL_drop n h.2
theorem Dc.drop2 {ok : Nat → Prop} {w : World} {f b o : Nat} {x y : Dat} {r : List Dat} (h : Dc ok w f (some ⟨b, o, none⟩) (x :: y :: r)) : Dc ok w f (some ⟨b, o + 12, none⟩) r := h.tail.tail
theorem Dc.nilAt {ok : Nat → Prop} {w : World} {f : Nat} {a : Option Addr} {ds : List Dat} (h : Dc ok w f a ds) (h0 : ds = []) (a' : Option Addr) : Dc ok w f a' ds := by
 subst h0
 cases f with
 | zero => rfl
 | succ g => exact ⟨Nat.zero_le _, Or.inl rfl⟩
theorem kind_two {l : List Dat} (ho : okL l) (h : ¬ kindF l = 1) : ∃ x y r, l = x :: y :: r ∧ x.kind = 3 ∧ y.kind = 4 ∧ (kindF l = 2 ∨ kindF l = 3 ∨ kindF l = 4 ∨ kindF l = 5) := by
 match l, ho, h with
 | [], _, h => exact absurd rfl h
 | [x], _, h => exact absurd rfl h
 | x :: y :: r, ho, h =>
  by_cases c : x.kind = 3 ∧ y.kind = 4
  ·refine ⟨x, y, r, rfl, c.1, c.2, ?_⟩
   rw [kind_of r c.1 c.2 (okD_sym (okL_mem ho x (by simp)) c.1).2] at h ⊢
   by_cases a2 : x.name = bOnly
   ·rw [if_pos a2]; exact Or.inl rfl
   rw [if_neg a2] at h ⊢
   by_cases a3 : x.name = bExcept
   ·rw [if_pos a3]; exact Or.inr (Or.inl rfl)
   rw [if_neg a3] at h ⊢
   by_cases a4 : x.name = bPrefix
   ·rw [if_pos a4]; exact Or.inr (Or.inr (Or.inl rfl))
   rw [if_neg a4] at h ⊢
   by_cases a5 : x.name = bRename
   ·rw [if_pos a5]; exact Or.inr (Or.inr (Or.inr rfl))
   rw [if_neg a5] at h
   exact absurd rfl h
  refine absurd ?_ h
  show (if x.kind = 3 ∧ y.kind = 4 then (match placeB x.name 0 setWordsB with | some i => (i : Int) | none => 1) else 1) = _
  rw [if_neg c]
theorem one_yes (B : Nat) (x : Dat) (b o cap xc : Nat) (xa : Option Addr) (w : World) (hB : B ≤ w.heap.size) (hA0 : DAt (fun k => k < B) w b o x xa xc) :
 Calls Tryz.prog 144 #[.slice (some ⟨b, o, none⟩) 1 cap] w fun e w' => Below w.heap.size w w' ∧ e = .returned (dv x xa xc) := by
 have HY := hidd (must_yes 2)
 have HB : Hid (Below w.heap.size w (w.alloc (.cells #[.int .i64 0, .int .i64 0, .string ⟨#[]⟩, .int .i64 0, .int .i64 0, .slice none 0 0] 26))) := (Below.refl _ _).alloc (Nat.le_refl _) _
 have hA' := hA0.below (HB.out.mono hB)
 obtain ⟨_, c0, c1, c2, c3, c4, c5, _, hlk⟩ := hA'
 clear hB hA0 hlk
 unfold dv
 generalize x.kids.length = xn at *
 go_enter Tryz.func144, Tryz.ntmps144
 go_wp2_with fail
 refine (HY.out _).mono ?_
 rintro e w1 ⟨rfl, rfl⟩
 go_wp2_with fail
 have hbe : Below w.heap.size w (w.alloc (.cells #[.int .i64 x.kind, .int .i64 x.n, .string x.name, .int .i64 x.stamp, .int .i64 x.lib, .slice xa xn xc] 26)) := (Below.refl _ _).alloc (Nat.le_refl _) _
 exact bodyPost_ret (v := .agg #[.int .i64 x.kind, .int .i64 x.n, .string x.name, .int .i64 x.stamp, .int .i64 x.lib, .slice xa xn xc]) (by simp [results, Tryz.results144, go_sem]) rfl ⟨hbe, rfl⟩
theorem one_not (n : Nat) (a : Option Addr) (cap : Nat) (w : World) (h1 : ¬ n = 1) : Calls Tryz.prog 144 #[.slice a n cap] w fun e w' => Below w.heap.size w w' ∧ e = .panicked (thrownL 2) := by
 have HX := hidd (must_no 2)
 have HB : Hid (Below w.heap.size w (w.alloc (.cells #[.int .i64 0, .int .i64 0, .string ⟨#[]⟩, .int .i64 0, .int .i64 0, .slice none 0 0] 26))) := (Below.refl _ _).alloc (Nat.le_refl _) _
 have c1 : ((n : Int) == 1) = false := by simp; omega
 go_enter Tryz.func144, Tryz.ntmps144
 go_wp2_with fail
 refine (HX.out _).mono ?_
 rintro e w1 ⟨rfl, rfl⟩
 go_wp2_with fail
 exact ⟨rfl, HB.out, rfl⟩
theorem oneF_len {l : List Dat} (h : ¬ l.length = 1) : oneF l = .no 2 := by
 match l, h with
 | [], _ => rfl
 | [x], h => exact absurd rfl h
 | _ :: _ :: _, _ => rfl
theorem set_any (J : JoinOk) : ∀ (n : Nat), n ≤ 12 → ∀ (B f : Nat) (d : Dat) (a : Option Addr) (cap : Nat) (w : World), B ≤ w.heap.size → 0 < B → Dc (fun k => k < B) w f a d.kids → d.kids.length ≤ cap → okD d → TabW w →
 Calls Tryz.prog 130 #[dv d a cap, .int .i64 (13 - (n : Int))] w (ToldE (setF n d) (SeT w) w)
 | 0, _, B, f, d, a, cap, w, hB, hB0, hd, hc, ho, tw => by
  unfold dv
  exact (set_deep d a d.kids.length cap _ w (by simp)).mono (fun e w' h => ⟨h.1, h.2⟩)
 | n + 1, hn, B, f, d, a, cap, w, hB, hB0, hd, hc, ho, tw => by
  have hdp0 : (0 : Int) ≤ 13 - ((n + 1 : Nat) : Int) := by omega
  have hdp : 13 - ((n + 1 : Nat) : Int) ≤ 12 := by omega
  have hT := things_any d a cap
  rw [setF]
  by_cases hk : d.kind = 4 ∧ d.kids ≠ []
  rotate_left
  ·have et : thingsF d = .no 2 := by unfold thingsF; rw [if_neg hk]
   rw [et]
   exact (set_none d a d.kids.length cap _ w hdp (fun W => (hT W).mono (by rintro e w' ⟨h1, h2⟩; rw [et] at h2; exact ⟨h1, h2⟩))).mono (fun e w' h => ⟨h.1, h.2⟩)
  have et : thingsF d = .ok d.kids := by unfold thingsF; rw [if_pos hk]
  rw [et]
  obtain ⟨o1, o2⟩ := okD_list ho hk.1
  have HT : ∀ W, Calls Tryz.prog 77 #[dv d a cap] W fun e w' => Below W.heap.size W w' ∧ e = .returned (.slice a d.kids.length cap) := fun W => (hT W).mono (by
   rintro e w' ⟨h1, h2⟩
   rw [et] at h2
   obtain ⟨v, rfl, rfl, _⟩ := h2
   exact ⟨h1, rfl⟩)
  have HK : ∀ W, Below w.heap.size w W → Calls Tryz.prog 143 #[.slice a d.kids.length cap] W fun e w' => e = .returned (.int .i64 (kindF d.kids)) ∧ w' = W := fun W hb => setKind_any B f d.kids a cap W (hd.below (hb.mono hB)) o2 (tw.below hb (by omega))
  show Calls _ _ _ _ (ToldE (if kindF d.kids = 1 then (calledF d).bind fun nm => .ok (Se.mk 1 nm [] [] ⟨#[]⟩ []) else (setF n (d.kids.getD 1 d)).bind fun k => if kindF d.kids = 2 ∨ kindF d.kids = 3 then (namesF (d.kids.drop 2)).bind fun ns => .ok (Se.mk (kindF d.kids) ⟨#[]⟩ ns [] ⟨#[]⟩ [k]) else if kindF d.kids = 4 then (oneF (d.kids.drop 2)).bind fun x => (nameF x).bind fun p => .ok (Se.mk 4 ⟨#[]⟩ [] [] p [k]) else if kindF d.kids = 5 then (renamesF (d.kids.drop 2)).bind fun q => .ok (Se.mk 5 ⟨#[]⟩ q.1 q.2 ⟨#[]⟩ [k]) else .ok (Se.mk (kindF d.kids) ⟨#[]⟩ [] [] ⟨#[]⟩ [k])) _ w)
  by_cases k1 : kindF d.kids = 1
  ·rw [if_pos k1]
   rw [k1] at HK
   have HC : ∀ W, Below w.heap.size w W → Calls Tryz.prog 55 #[dv d a cap] W (ToldE (calledF d) (fun s v _ => v = .string s) W) := fun W hb => called_any J B f d a cap W (Nat.le_trans hB hb.size) (hd.below (hb.mono hB)) hc ho
   exact set_lib d a d.kids.length cap _ w hdp HT HK _ HC
  rw [if_neg k1]
  obtain ⟨x, y, r, hl, hx3, hy4, h5⟩ := kind_two o2 k1
  obtain ⟨g, b, o, ya, yc, hg, ha, hy, hyk⟩ := hd.at (i := 1) (d := y) (by rw [hl]; rfl)
  subst ha
  rw [Nat.one_mul] at hy
  have e1 : d.kids.getD 1 d = y := by rw [hl]; rfl
  have e2 : d.kids.drop 2 = r := by rw [hl]; rfl
  have hkn : d.kids.length = r.length + 2 := by rw [hl]; simp
  rw [e1, e2]
  have oy := okL_mem o2 y (by rw [hl]; simp)
  have or_ : okL r := by rw [← e2]; exact okL_drop 2 o2
  have HYD : ∀ W, Below w.heap.size w W → W.cell? ⟨b, o + 6, none⟩ = some (.int .i64 y.kind) ∧ W.cell? ⟨b, o + 6 + 1, none⟩ = some (.int .i64 y.n) ∧ W.cell? ⟨b, o + 6 + 2, none⟩ = some (.string y.name) ∧ W.cell? ⟨b, o + 6 + 3, none⟩ = some (.int .i64 y.stamp) ∧ W.cell? ⟨b, o + 6 + 4, none⟩ = some (.int .i64 y.lib) ∧ W.cell? ⟨b, o + 6 + 5, none⟩ = some (.slice ya y.kids.length yc) := fun W hb => by
   have := hy.below (hb.mono hB)
   exact ⟨this.c0, this.c1, this.c2, this.c3, this.c4, this.c5⟩
  have edp : (13 - ((n + 1 : Nat) : Int)) + 1 = 13 - (n : Int) := by omega
  have HS : ∀ W, Below w.heap.size w W → Calls Tryz.prog 130 #[dv y ya yc, .int .i64 ((13 - ((n + 1 : Nat) : Int)) + 1)] W (ToldE (setF n y) (SeT W) W) := fun W hb => by
   rw [edp]
   exact set_any J n (by omega) B g y ya yc W (Nat.le_trans hB hb.size) hB0 (hyk.below (hb.mono hB)) hy.lk oy (tw.below hb (by omega))
  have h2 : 2 ≤ d.kids.length := by omega
  have HSL := slice2 b o d.kids.length cap h2 hc
  have HRd : ∀ W, Below w.heap.size w W → Dc (fun k => k < B) W f (if cap = 2 then some ⟨b, o, none⟩ else some ⟨b, o + 12, none⟩) r := fun W hb => by
   have h := hd.below (hb.mono hB)
   rw [hl] at h
   by_cases hc2 : cap = 2
   ·rw [if_pos hc2]
    exact h.drop2.nilAt (List.eq_nil_of_length_eq_zero (by omega)) _
   rw [if_neg hc2]; exact h.drop2
  generalize (if cap = 2 then some (⟨b, o, none⟩ : Addr) else some ⟨b, o + 12, none⟩) = ra at HSL HRd
  have ern : d.kids.length - 2 = r.length := by omega
  have HN : ∀ W, Below w.heap.size w W → Calls Tryz.prog 80 #[.slice ra (d.kids.length - 2) (cap - 2)] W (ToldE (namesF r) (fun l v w' => StrR W.heap.size l v w') W) := fun W hb => by
   rw [ern]
   exact namesOf_any B f r ra (cap - 2) W (Nat.le_trans hB hb.size) (HRd W hb) (by omega) (by omega) (fun x hx => okD_big (okL_mem or_ x hx))
  refine set_rest d y b o d.kids.length cap y.kids.length yc ya _ w _ k1 hdp0 hdp h2 HT HK HYD _ HS ra HSL _ ?_
  rcases h5 with h | h | h | h
  ·exact Or.inl ⟨Or.inl h, _, HN, by funext s; rw [if_pos (Or.inl h)]⟩
  ·exact Or.inl ⟨Or.inr h, _, HN, by funext s; rw [if_pos (Or.inr h)]⟩
  ·refine Or.inr (Or.inl ⟨h, ?_⟩)
   by_cases hr1 : r.length = 1
   ·obtain ⟨x4, rfl⟩ : ∃ x4, r = [x4] := by
     match r, hr1 with
     | [x4], _ => exact ⟨x4, rfl⟩
    obtain ⟨g4, b4, o4, xa, xc, _, hra, hx4, _⟩ := (HRd w (Below.refl _ _)).at (i := 0) (d := x4) rfl
    subst hra
    rw [Nat.zero_mul, Nat.add_zero] at hx4
    have HO : ∀ W, Below w.heap.size w W → Calls Tryz.prog 144 #[.slice (some ⟨b4, o4, none⟩) (d.kids.length - 2) (cap - 2)] W fun e w' => Below W.heap.size W w' ∧ e = .returned (dv x4 xa xc) := fun W hb => by
     rw [ern]
     exact one_yes B x4 b4 o4 (cap - 2) xc xa W (Nat.le_trans hB hb.size) (hx4.below (hb.mono hB))
    exact Or.inr ⟨x4, xa, _, xc, _, HO, fun W => nameOf_any x4 xa xc W (okD_big (okL_mem or_ x4 (by simp))), by funext s; rw [h, if_neg (by decide), if_pos rfl]; rfl⟩
   exact Or.inl ⟨2, fun W hb => by rw [ern]; exact one_not r.length ra (cap - 2) W hr1, by funext s; rw [h, if_neg (by decide), if_pos rfl, oneF_len hr1]; rfl⟩
  exact Or.inr (Or.inr ⟨h, _, fun W hb => by
   rw [ern]
   exact renames_any B f r ra (cap - 2) W (Nat.le_trans hB hb.size) (HRd W hb) (by omega) (by omega) or_, by funext s; rw [h, if_neg (by decide), if_neg (by decide), if_pos rfl]⟩)
theorem exp_boxes (d : Dat) (a : Option Addr) (kn cap : Nat) (w : World) : Below w.heap.size w ((w.alloc (.cells #[.int .i64 d.kind, .int .i64 d.n, .string d.name, .int .i64 d.stamp, .int .i64 d.lib, .slice a kn cap] 26)).alloc (.cells #[.string ⟨#[]⟩, .string ⟨#[]⟩] 70)) ∧ ((w.alloc (.cells #[.int .i64 d.kind, .int .i64 d.n, .string d.name, .int .i64 d.stamp, .int .i64 d.lib, .slice a kn cap] 26)).alloc (.cells #[.string ⟨#[]⟩, .string ⟨#[]⟩] 70)).heap[w.heap.size]? = some (.cells #[.int .i64 d.kind, .int .i64 d.n, .string d.name, .int .i64 d.stamp, .int .i64 d.lib, .slice a kn cap] 26 (0, 0)) ∧ ((w.alloc (.cells #[.int .i64 d.kind, .int .i64 d.n, .string d.name, .int .i64 d.stamp, .int .i64 d.lib, .slice a kn cap] 26)).alloc (.cells #[.string ⟨#[]⟩, .string ⟨#[]⟩] 70)).heap[w.heap.size + 1]? = some (.cells #[.string ⟨#[]⟩, .string ⟨#[]⟩] 70 (0, 0)) ∧ ((w.alloc (.cells #[.int .i64 d.kind, .int .i64 d.n, .string d.name, .int .i64 d.stamp, .int .i64 d.lib, .slice a kn cap] 26)).alloc (.cells #[.string ⟨#[]⟩, .string ⟨#[]⟩] 70)).heap.size = w.heap.size + 2 := by
 refine ⟨((Below.refl _ _).alloc (Nat.le_refl _) _).alloc (by simp) _, ?_, ?_, by simp⟩
 ·rw [Below.heap_alloc _ _ _ (by simp)]; exact World.alloc_heap_new w _
 have := World.alloc_heap_new (w.alloc (.cells #[.int .i64 d.kind, .int .i64 d.n, .string d.name, .int .i64 d.stamp, .int .i64 d.lib, .slice a kn cap] 26)) (.cells #[.string ⟨#[]⟩, .string ⟨#[]⟩] 70)
 simpa using this
theorem export_sym (d : Dat) (a : Option Addr) (cap : Nat) (w : World) (hk : d.kind = 3) (hs : d.name.size ≤ 281474976710656) : Calls Tryz.prog 127 #[dv d a cap] w fun e w' => Below w.heap.size w w' ∧ e = .returned (.agg #[.string d.name, .string d.name]) := by
 have HNM : Hid (∀ w, Calls Tryz.prog 78 #[dv d a cap] w fun e w' => Below w.heap.size w w' ∧ e = .returned (.string d.name)) := fun w => (nameOf_any d a cap w (fun _ => hs)).mono (by
  rintro e w' ⟨h1, h2⟩
  unfold nameF at h2
  rw [if_pos hk] at h2
  obtain ⟨v, rfl, rfl⟩ := h2
  exact ⟨h1, rfl⟩)
 have c1 : (d.kind == 3) = true := by simpa using hk
 clear hs hk
 unfold dv at *
 generalize d.kids.length = kn at *
 obtain ⟨g1, g2, g3, g4⟩ := exp_boxes d a kn cap w
 go_enter Tryz.func127, Tryz.ntmps127
 go_upto_region 2 with fail
 generalize ((w.alloc (.cells #[.int .i64 d.kind, .int .i64 d.n, .string d.name, .int .i64 d.stamp, .int .i64 d.lib, .slice a kn cap] 26)).alloc (.cells #[.string ⟨#[]⟩, .string ⟨#[]⟩] 70)) = W0 at g1 g2 g3 g4 ⊢
 have HB0 := hidd g1
 have KQ : Hid (∀ W, Below (w.heap.size + 2) W0 W → W.cell? ⟨w.heap.size, 0, none⟩ = some (.int .i64 d.kind) ∧ W.cell? ⟨w.heap.size, 1, none⟩ = some (.int .i64 d.n) ∧ W.cell? ⟨w.heap.size, 2, none⟩ = some (.string d.name) ∧ W.cell? ⟨w.heap.size, 3, none⟩ = some (.int .i64 d.stamp) ∧ W.cell? ⟨w.heap.size, 4, none⟩ = some (.int .i64 d.lib) ∧ W.cell? ⟨w.heap.size, 5, none⟩ = some (.slice a kn cap)) := fun W hb => by
  have h := (hb.block w.heap.size (by omega)).trans g2
  exact ⟨(cellO h).trans rfl, (cellO h).trans rfl, (cellO h).trans rfl, (cellO h).trans rfl, (cellO h).trans rfl, (cellO h).trans rfl⟩
 have KR : Hid (∀ W, Below (w.heap.size + 2) W0 W → W.heap[w.heap.size + 1]? = some (.cells #[.string ⟨#[]⟩, .string ⟨#[]⟩] 70 (0, 0))) := fun W hb => (hb.block _ (by omega)).trans g3
 have CL : Hid (∀ W, Below (w.heap.size + 2) W0 W → Calls Tryz.prog 78 #[.agg #[.int .i64 d.kind, .int .i64 d.n, .string d.name, .int .i64 d.stamp, .int .i64 d.lib, .slice a kn cap]] W fun e w' => e = .returned (.string d.name) ∧ Below (w.heap.size + 2) W0 w') := fun W hb => (HNM.out W).mono fun e w' ⟨h, he⟩ => ⟨he, hb.trans (h.mono (by rw [← g4]; exact (show W0.heap.size ≤ W.heap.size from hb.size)))⟩
 have KS : Hid (∀ W v0 v1, Below (w.heap.size + 2) W0 W → ((W.setCell ⟨w.heap.size + 1, 0, none⟩ v0).setCell ⟨w.heap.size + 1, 1, none⟩ v1).cell? ⟨w.heap.size, 0, none⟩ = some (.int .i64 d.kind) ∧ ((W.setCell ⟨w.heap.size + 1, 0, none⟩ v0).setCell ⟨w.heap.size + 1, 1, none⟩ v1).cell? ⟨w.heap.size, 1, none⟩ = some (.int .i64 d.n) ∧ ((W.setCell ⟨w.heap.size + 1, 0, none⟩ v0).setCell ⟨w.heap.size + 1, 1, none⟩ v1).cell? ⟨w.heap.size, 2, none⟩ = some (.string d.name) ∧ ((W.setCell ⟨w.heap.size + 1, 0, none⟩ v0).setCell ⟨w.heap.size + 1, 1, none⟩ v1).cell? ⟨w.heap.size, 3, none⟩ = some (.int .i64 d.stamp) ∧ ((W.setCell ⟨w.heap.size + 1, 0, none⟩ v0).setCell ⟨w.heap.size + 1, 1, none⟩ v1).cell? ⟨w.heap.size, 4, none⟩ = some (.int .i64 d.lib) ∧ ((W.setCell ⟨w.heap.size + 1, 0, none⟩ v0).setCell ⟨w.heap.size + 1, 1, none⟩ v1).cell? ⟨w.heap.size, 5, none⟩ = some (.slice a kn cap)) := fun W v0 v1 hb => by
  have e : ∀ q, ((W.setCell ⟨w.heap.size + 1, 0, none⟩ v0).setCell ⟨w.heap.size + 1, 1, none⟩ v1).cell? ⟨w.heap.size, q, none⟩ = W.cell? ⟨w.heap.size, q, none⟩ := fun q => World.cell?_of_block (a := ⟨w.heap.size, q, none⟩) (by rw [Below.heap_setCell _ _ _ _ (show w.heap.size ≠ w.heap.size + 1 by omega), Below.heap_setCell _ _ _ _ (show w.heap.size ≠ w.heap.size + 1 by omega)])
  obtain ⟨k0, k1, k2, k3, k4, k5⟩ := KQ.out W hb
  exact ⟨(e 0).trans k0, (e 1).trans k1, (e 2).trans k2, (e 3).trans k3, (e 4).trans k4, (e 5).trans k5⟩
 have HB : Hid (Below (w.heap.size + 2) W0 W0) := Below.refl _ _
 clear g1 g2 g3 g4 HNM
 go_region_held3 (fun w' => w'.cell? ⟨w.heap.size, 0, none⟩ = some (.int .i64 d.kind) ∧ w'.cell? ⟨w.heap.size, 1, none⟩ = some (.int .i64 d.n) ∧ w'.cell? ⟨w.heap.size, 2, none⟩ = some (.string d.name) ∧ w'.cell? ⟨w.heap.size, 3, none⟩ = some (.int .i64 d.stamp) ∧ w'.cell? ⟨w.heap.size, 4, none⟩ = some (.int .i64 d.lib) ∧ w'.cell? ⟨w.heap.size, 5, none⟩ = some (.slice a kn cap))
  (first | exact KQ.out _ HB.out | exact KQ.out _ HB.out.drew | exact KQ.out _ HB.out.drew.drew | exact KS.out _ _ _ HB.out)
  (first | (go_at_call 78; refine (CL.out _ ?_).mono ?_; (first | exact HB.out | exact HB.out.drew | exact HB.out.drew.drew); rintro e w1 ⟨rfl, hb1⟩; have HB : Hid (Below (w.heap.size + 2) W0 w1) := hb1; have h1 := KR.out _ hb1; have r0 := (cellO (q := 0) h1).trans rfl; have r1 := (cellO (q := 1) h1).trans rfl; have s0 := looseO (q := 0) h1; have s1 := looseO (q := 1) h1; clear hb1 h1))
 all_goals
  go_wp2_with fail
  refine bodyPost_ret (v := .agg #[.string d.name, .string d.name]) (by simp [results, Tryz.results127, go_sem, r0, r1]) rfl ⟨?_, rfl⟩
  exact ((HB0.out.trans (HB.out.mono (by omega))).setCell (p := ⟨w.heap.size + 1, 0, none⟩) (Nat.le_succ _) _).setCell (p := ⟨w.heap.size + 1, 1, none⟩) (Nat.le_succ _) _
theorem export_no (d : Dat) (a : Option Addr) (kn cap : Nat) (w : World) (hk : ¬ d.kind = 3) (x : Int) (HJ0 : ∀ W, Below w.heap.size w W → Calls Tryz.prog 141 #[.agg #[.int .i64 d.kind, .int .i64 d.n, .string d.name, .int .i64 d.stamp, .int .i64 d.lib, .slice a kn cap], .int .i64 3] W fun e w' => Below W.heap.size W w' ∧ e = .panicked (thrownL x)) : Calls Tryz.prog 127 #[.agg #[.int .i64 d.kind, .int .i64 d.n, .string d.name, .int .i64 d.stamp, .int .i64 d.lib, .slice a kn cap]] w fun e w' => Below w.heap.size w w' ∧ e = .panicked (thrownL x) := by
 have c1 : (d.kind == 3) = false := by simpa using hk
 have HJ := hidd HJ0
 clear HJ0 hk
 obtain ⟨g1, g2, g3, g4⟩ := exp_boxes d a kn cap w
 obtain ⟨W0, hW0⟩ : ∃ W0, W0 = ((w.alloc (.cells #[.int .i64 d.kind, .int .i64 d.n, .string d.name, .int .i64 d.stamp, .int .i64 d.lib, .slice a kn cap] 26)).alloc (.cells #[.string ⟨#[]⟩, .string ⟨#[]⟩] 70)) := ⟨_, rfl⟩
 rw [← hW0] at g1 g2 g3 g4
 have HB0 : Hid (Below w.heap.size w W0) := g1
 have HX : Hid (∀ W, Below W0.heap.size W0 W → W.heap[w.heap.size + 1]? = some (.cells #[.string ⟨#[]⟩, .string ⟨#[]⟩] 70 (0, 0))) := fun W hb => (hb.block _ (by omega)).trans g3
 have hw0 := hW0.symm
 have y0 : W0.cell? ⟨w.heap.size, 0, none⟩ = some (.int .i64 d.kind) := (cellO g2).trans rfl
 have y1 : W0.cell? ⟨w.heap.size, 1, none⟩ = some (.int .i64 d.n) := (cellO g2).trans rfl
 have y2 : W0.cell? ⟨w.heap.size, 2, none⟩ = some (.string d.name) := (cellO g2).trans rfl
 have y3 : W0.cell? ⟨w.heap.size, 3, none⟩ = some (.int .i64 d.stamp) := (cellO g2).trans rfl
 have y4 : W0.cell? ⟨w.heap.size, 4, none⟩ = some (.int .i64 d.lib) := (cellO g2).trans rfl
 have y5 : W0.cell? ⟨w.heap.size, 5, none⟩ = some (.slice a kn cap) := (cellO g2).trans rfl
 clear g1 g2 g3 g4 hW0
 go_enter Tryz.func127, Tryz.ntmps127
 go_wp2_with fail
 refine (HJ.out W0 HB0.out).mono ?_
 rintro e w1 ⟨hb1, rfl⟩
 have HB1 : Hid (Below w.heap.size w w1) := HB0.out.trans (hb1.mono HB0.out.size)
 clear hb1
 go_wp2_with fail
 exact ⟨rfl, HB1.out, rfl⟩
theorem export_bad (d : Dat) (a : Option Addr) (kn cap : Nat) (w : World) (hk : ¬ d.kind = 3) (x y z : ByteArray) (hx : ¬ x = bRename) (HJ0 : ∀ W, Below w.heap.size w W → Calls Tryz.prog 141 #[.agg #[.int .i64 d.kind, .int .i64 d.n, .string d.name, .int .i64 d.stamp, .int .i64 d.lib, .slice a kn cap], .int .i64 3] W fun e w' => Below W.heap.size W w' ∧ ∃ v, e = .returned v ∧ StrR (W.heap.size + 1) [x, y, z] v w') : Calls Tryz.prog 127 #[.agg #[.int .i64 d.kind, .int .i64 d.n, .string d.name, .int .i64 d.stamp, .int .i64 d.lib, .slice a kn cap]] w fun e w' => Below w.heap.size w w' ∧ e = .panicked (thrownL 2) := by
 have c1 : (d.kind == 3) = false := by simpa using hk
 have c2 : (x.toList == bRename.toList) = false := beqS_ne hx
 unfold bRename at c2
 have c3 : (x.toList == [114, 101, 110, 97, 109, 101]) = false := by simpa using c2
 have HJ := hidd HJ0
 have HN := hidd (must_no 2)
 clear HJ0 hk hx
 obtain ⟨g1, g2, g3, g4⟩ := exp_boxes d a kn cap w
 obtain ⟨W0, hW0⟩ : ∃ W0, W0 = ((w.alloc (.cells #[.int .i64 d.kind, .int .i64 d.n, .string d.name, .int .i64 d.stamp, .int .i64 d.lib, .slice a kn cap] 26)).alloc (.cells #[.string ⟨#[]⟩, .string ⟨#[]⟩] 70)) := ⟨_, rfl⟩
 rw [← hW0] at g1 g2 g3 g4
 have HB0 : Hid (Below w.heap.size w W0) := g1
 have HX : Hid (∀ W, Below W0.heap.size W0 W → W.heap[w.heap.size + 1]? = some (.cells #[.string ⟨#[]⟩, .string ⟨#[]⟩] 70 (0, 0))) := fun W hb => (hb.block _ (by omega)).trans g3
 have hw0 := hW0.symm
 have y0 : W0.cell? ⟨w.heap.size, 0, none⟩ = some (.int .i64 d.kind) := (cellO g2).trans rfl
 have y1 : W0.cell? ⟨w.heap.size, 1, none⟩ = some (.int .i64 d.n) := (cellO g2).trans rfl
 have y2 : W0.cell? ⟨w.heap.size, 2, none⟩ = some (.string d.name) := (cellO g2).trans rfl
 have y3 : W0.cell? ⟨w.heap.size, 3, none⟩ = some (.int .i64 d.stamp) := (cellO g2).trans rfl
 have y4 : W0.cell? ⟨w.heap.size, 4, none⟩ = some (.int .i64 d.lib) := (cellO g2).trans rfl
 have y5 : W0.cell? ⟨w.heap.size, 5, none⟩ = some (.slice a kn cap) := (cellO g2).trans rfl
 clear g1 g2 g3 g4 hW0
 go_enter Tryz.func127, Tryz.ntmps127
 go_wp2_with fail
 refine (HJ.out W0 HB0.out).mono ?_
 rintro e w1 ⟨hb1, v, rfl, hv⟩
 obtain ⟨g, gc, rfl, _, _, _, _, hcell⟩ := StrR.at hv (by simp)
 have q0 := hcell 0 x rfl
 have HB1 : Hid (Below w.heap.size w w1) := HB0.out.trans (hb1.mono HB0.out.size)
 simp only [List.length_cons, List.length_nil]
 clear hb1 hv hcell
 go_wp2_with fail
 refine (HN.out _).mono ?_
 rintro e w2 ⟨rfl, hw2⟩
 rw [hw2]
 clear hw2
 go_wp2_with fail
 exact ⟨rfl, HB1.out, rfl⟩
theorem export_ok (d : Dat) (a : Option Addr) (kn cap : Nat) (w : World) (hk : ¬ d.kind = 3) (y z : ByteArray) (HJ0 : ∀ W, Below w.heap.size w W → Calls Tryz.prog 141 #[.agg #[.int .i64 d.kind, .int .i64 d.n, .string d.name, .int .i64 d.stamp, .int .i64 d.lib, .slice a kn cap], .int .i64 3] W fun e w' => Below W.heap.size W w' ∧ ∃ v, e = .returned v ∧ StrR (W.heap.size + 1) [bRename, y, z] v w') : Calls Tryz.prog 127 #[.agg #[.int .i64 d.kind, .int .i64 d.n, .string d.name, .int .i64 d.stamp, .int .i64 d.lib, .slice a kn cap]] w fun e w' => Below w.heap.size w w' ∧ e = .returned (.agg #[.string z, .string y]) := by
 have c1 : (d.kind == 3) = false := by simpa using hk
 have c2 : (bRename.toList == bRename.toList) = true := by simp
 have HJ := hidd HJ0
 have HY := hidd (must_yes 2)
 clear HJ0 hk
 unfold bRename at *
 obtain ⟨g1, g2, g3, g4⟩ := exp_boxes d a kn cap w
 obtain ⟨W0, hW0⟩ : ∃ W0, W0 = ((w.alloc (.cells #[.int .i64 d.kind, .int .i64 d.n, .string d.name, .int .i64 d.stamp, .int .i64 d.lib, .slice a kn cap] 26)).alloc (.cells #[.string ⟨#[]⟩, .string ⟨#[]⟩] 70)) := ⟨_, rfl⟩
 rw [← hW0] at g1 g2 g3 g4
 have HB0 : Hid (Below w.heap.size w W0) := g1
 have HX : Hid (∀ W, Below W0.heap.size W0 W → W.heap[w.heap.size + 1]? = some (.cells #[.string ⟨#[]⟩, .string ⟨#[]⟩] 70 (0, 0))) := fun W hb => (hb.block _ (by omega)).trans g3
 have hw0 := hW0.symm
 have y0 : W0.cell? ⟨w.heap.size, 0, none⟩ = some (.int .i64 d.kind) := (cellO g2).trans rfl
 have y1 : W0.cell? ⟨w.heap.size, 1, none⟩ = some (.int .i64 d.n) := (cellO g2).trans rfl
 have y2 : W0.cell? ⟨w.heap.size, 2, none⟩ = some (.string d.name) := (cellO g2).trans rfl
 have y3 : W0.cell? ⟨w.heap.size, 3, none⟩ = some (.int .i64 d.stamp) := (cellO g2).trans rfl
 have y4 : W0.cell? ⟨w.heap.size, 4, none⟩ = some (.int .i64 d.lib) := (cellO g2).trans rfl
 have y5 : W0.cell? ⟨w.heap.size, 5, none⟩ = some (.slice a kn cap) := (cellO g2).trans rfl
 clear g1 g2 g3 g4 hW0
 go_enter Tryz.func127, Tryz.ntmps127
 go_wp2_with fail
 refine (HJ.out W0 HB0.out).mono ?_
 rintro e w1 ⟨hb1, v, rfl, hv⟩
 obtain ⟨g, gc, rfl, _, _, _, _, hcell⟩ := StrR.at hv (by simp)
 have q0 := hcell 0 _ rfl
 have q1 := hcell 1 y rfl
 have q2 := hcell 2 z rfl
 have x1 := HX.out w1 hb1
 have r0 := (cellO (q := 0) x1).trans rfl
 have r1 := (cellO (q := 1) x1).trans rfl
 have s0 := looseO (q := 0) x1
 have s1 := looseO (q := 1) x1
 have HB1 : Hid (Below w.heap.size w w1) := HB0.out.trans (hb1.mono HB0.out.size)
 simp only [List.length_cons, List.length_nil]
 clear hb1 hv hcell x1
 go_wp2_with fail
 refine (HY.out _).mono ?_
 rintro e w2 ⟨rfl, hw2⟩
 rw [hw2]
 clear hw2
 go_wp2_with fail
 go_region
 all_goals
  go_wp2_with fail
  refine bodyPost_ret (v := .agg #[.string z, .string y]) (by simp [results, Tryz.results127, go_sem, r0, r1]) rfl ⟨?_, rfl⟩
  first
   | exact ((HB1.out.drew).setCell (p := ⟨w.heap.size + 1, 0, none⟩) (Nat.le_succ _) _).setCell (p := ⟨w.heap.size + 1, 1, none⟩) (Nat.le_succ _) _
   | exact (((HB1.out).setCell (p := ⟨w.heap.size + 1, 0, none⟩) (Nat.le_succ _) _).setCell (p := ⟨w.heap.size + 1, 1, none⟩) (Nat.le_succ _) _).drew
theorem export_any (B f : Nat) (d : Dat) (a : Option Addr) (cap : Nat) (w : World) (hB : B ≤ w.heap.size) (hd : Dc (fun k => k < B) w f a d.kids) (hc : d.kids.length ≤ cap) (ho : okD d) :
 Calls Tryz.prog 127 #[dv d a cap] w (ToldE (exportF d) (fun p v _ => v = .agg #[.string p.1, .string p.2]) w) := by
 unfold exportF
 by_cases hk : d.kind = 3
 ·rw [if_pos hk]
  exact (export_sym d a cap w hk (okD_big ho hk)).mono (by rintro e w' ⟨h1, rfl⟩; exact ⟨h1, _, rfl, rfl⟩)
 rw [if_neg hk]
 have HJ : ∀ W, Below w.heap.size w W → Calls Tryz.prog 141 #[dv d a cap, .int .i64 3] W (ToldE (justF d 3) (fun l v w' => StrR (W.heap.size + 1) l v w') W) := fun W hb => just_any 3 (by omega) B f d a cap W (Nat.le_trans hB hb.size) (hd.below (hb.mono hB)) hc ho
 cases hJ : justF d 3 with
 | no x =>
  rw [hJ] at HJ
  exact (export_no d a d.kids.length cap w hk x (fun W hb => (HJ W hb).mono (fun e w' h => ⟨h.1, h.2⟩))).mono (fun e w' h => ⟨h.1, h.2⟩)
 | ok l =>
  rw [hJ] at HJ
  obtain ⟨hl, _⟩ := just_len ho hJ
  obtain ⟨x, y, z, rfl⟩ : ∃ x y z, l = [x, y, z] := by
   match l, hl with
   | [x, y, z], _ => exact ⟨x, y, z, rfl⟩
  have HJ' : ∀ W, Below w.heap.size w W → Calls Tryz.prog 141 #[dv d a cap, .int .i64 3] W fun e w' => Below W.heap.size W w' ∧ ∃ v, e = .returned v ∧ StrR (W.heap.size + 1) [x, y, z] v w' := fun W hb => (HJ W hb).mono (fun e w' h => ⟨h.1, h.2⟩)
  show Calls _ _ _ _ (ToldE (if x = bRename then .ok (z, y) else .no 2) _ w)
  by_cases hx : x = bRename
  ·rw [if_pos hx]
   subst hx
   exact (export_ok d a d.kids.length cap w hk y z HJ').mono (by rintro e w' ⟨h1, rfl⟩; exact ⟨h1, _, rfl, rfl⟩)
  rw [if_neg hx]
  exact (export_bad d a d.kids.length cap w hk x y z hx HJ').mono (fun e w' h => ⟨h.1, h.2⟩)
theorem bareQL_map : ∀ (l : List Dat), bareQL l = l.map bareQ
 | [] => by rw [bareQL]; rfl
 | d :: r => by rw [bareQL, bareQL_map r]; rfl
def CopT (d : Dat) (W : World) (e : Ending) (w' : World) : Prop := Below W.heap.size W w' ∧ ∃ a2 c2 g, e = .returned (dv (bareQ d) a2 c2) ∧ (bareQ d).kids.length ≤ c2 ∧ Dc (New W w') w' g a2 (bareQ d).kids
theorem bare_name (d : Dat) (h : d.name.size ≤ maxLen) : (bareQ d).name.size ≤ maxLen := by
 cases d with
 | mk k n nm st lb ks =>
  rw [bareQ]
  show (if k = 3 then nm else ⟨#[]⟩).size ≤ maxLen
  by_cases hk : k = 3
  ·rw [if_pos hk]; exact h
  rw [if_neg hk]; exact Nat.zero_le _
theorem news6 (w : World) (v0 v1 v2 v3 v4 v5 : Value) (t : TypeId) : ∀ j u, [v0, v1, v2, v3, v4, v5][j]? = some u → (w.alloc (.cells #[v0, v1, v2, v3, v4, v5] t)).cell? ((⟨w.heap.size, 0, none⟩ : Addr).add j) = some u := by
 intro j u hj
 rw [addr_add, cellO (World.alloc_heap_new w _)]
 simpa using hj
theorem infoDatL : (Tryz.prog.info? 26).map (fun i => (i.zero, i.size, i.bytes)) = some (some (.agg #[.int .i64 0, .int .i64 0, .string ⟨#[]⟩, .int .i64 0, .int .i64 0, .slice none 0 0]), 6, 72) := by kernel_rfl
set_option maxRecDepth 100000 in
set_option maxHeartbeats 6400000 in
theorem copied_over (B f : Nat) (ds : List Dat) (a : Option Addr) (cap : Nat) (w : World) (hB : B ≤ w.heap.size) (hd : Dc (fun k => k < B) w f a ds) (hn : ds.length ≤ 2000) (hc : ds.length ≤ cap)
 (HCO0 : ∀ d ∈ ds, ∀ g a' cap' W, Below w.heap.size w W → f = g + 1 → d.kids.length ≤ cap' → Dc (fun k => k < B) W g a' d.kids → Calls Tryz.prog 118 #[dv d a' cap'] W (CopT d W)) :
 Calls Tryz.prog 88 #[.slice a ds.length cap] w fun e w' => Below w.heap.size w w' ∧ ∃ v es, e = .returned v ∧ es.map (·.1) = bareQL ds ∧ RowC w.heap.size v es w' := by
 have HD : Hid (∀ W j d, Below w.heap.size w W → ds[j]? = some d → ∃ b o a' cap' g, a = some ⟨b, o, none⟩ ∧ f = g + 1 ∧ DAt (fun k => k < B) W b (o + j * 6) d a' cap' ∧ Dc (fun k => k < B) W g a' d.kids) := fun W j d hb hj => by
  obtain ⟨g, b, o, a', cap', h0, h1, h2, h3⟩ := hd.at hj
  exact ⟨b, o, a', cap', g, h1, h0, h2.below (hb.mono hB), h3.below (hb.mono hB)⟩
 have HCO := hidd HCO0
 have HL : Hid (∀ j, j < ds.length → ∃ d, ds[j]? = some d) := fun j hj => ⟨_, List.getElem?_eq_getElem hj⟩
 obtain ⟨i0, hinf, hz0, hz1, hz2⟩ := info_partsL infoDatL
 obtain ⟨n, hn'⟩ : ∃ n, n = ds.length := ⟨_, rfl⟩
 have HN := hidd hn'
 rw [← hn'] at hn hc HL ⊢
 clear hd HCO0 hn'
 go_enter Tryz.func88, Tryz.ntmps88
 go_wp2_with fail
 go_loopw [3, 5, 8] (fun v _ ix wr => ∃ (j : Nat) (es : List (Dat × Option Addr × Nat)), j ≤ n ∧ ix = .int .i64 j ∧ Hid (es.length = j) ∧ Hid (Below w.heap.size w wr ∧ RowC w.heap.size v es wr ∧ es.map (·.1) = bareQL (ds.take j))) (fun _ _ ix _ => n - (intOf ix).toNat)
 case atStart => exact ⟨0, [], Nat.zero_le _, rfl, rfl, Below.refl _ _, RowC.nil _ _, by simp [bareQL]⟩
 obtain ⟨j, es, hj, rfl, HJ, HR⟩ := hrel
 obtain ⟨va, vc, rfl, hvc⟩ := own_sliceL HR.out.2.1.own
 have hl : es.length ≤ 100000 := by have := HJ.out; omega
 by_cases hlt : j < n
 rotate_left
 ·obtain rfl : j = n := by omega
  have HE : Hid (es.map (·.1) = bareQL ds) := by
   show _ = _
   rw [HR.out.2.2, HN.out, List.take_length]
  go_wp2_with fail
  go_ret
  exact ⟨HR.out.1, _, es, rfl, HE.out, HR.out.2.1⟩
 obtain ⟨d, hdj⟩ := HL.out j hlt
 obtain ⟨b, o, a', cap', g0, rfl, hf0, hA, hK⟩ := HD.out wr j d HR.out.1 hdj
 obtain ⟨_, c0, c1, c2, c3, c4, c5, hnm, hlk⟩ := hA
 have i1 : (0 : Int) ≤ (j : Int) := by omega
 have i2 : (j : Int) < (n : Int) := by omega
 have HB1 : Hid (Below wr.heap.size wr (wr.alloc (.cells #[.int .i64 d.kind, .int .i64 d.n, .string d.name, .int .i64 d.stamp, .int .i64 d.lib, .slice a' d.kids.length cap'] 26))) := (Below.refl _ _).alloc (Nat.le_refl _) _
 have CO := hidd (HCO.out d (List.mem_of_getElem? hdj) g0 a' cap' (wr.alloc (.cells #[.int .i64 d.kind, .int .i64 d.n, .string d.name, .int .i64 d.stamp, .int .i64 d.lib, .slice a' d.kids.length cap'] 26)) (HR.out.1.trans (HB1.out.mono HR.out.1.size)) hf0 hlk (hK.below (HB1.out.mono (Nat.le_trans hB HR.out.1.size))))
 have HST : Hid (bareQL (ds.take (j + 1)) = bareQL (ds.take j) ++ [bareQ d]) := by
  show _ = _
  obtain ⟨hi, e⟩ := List.getElem?_eq_some_iff.1 hdj
  rw [bareQL_map, bareQL_map, List.take_add_one, List.map_append, hdj]
  rfl
 have HNM := hidd (bare_name d hnm)
 unfold CopT dv at CO
 generalize bareQ d = rk at *
 clear hdj hK hf0
 generalize d.kids.length = kn at *
 go_wp2_with fail
 refine CO.out.mono ?_
 rintro e w2 ⟨hb2, a2, cp2, g2, rfl, hcp, hdc⟩
 obtain ⟨W1, hW1⟩ : ∃ W1, W1 = wr.alloc (.cells #[.int .i64 d.kind, .int .i64 d.n, .string d.name, .int .i64 d.stamp, .int .i64 d.lib, .slice a' kn cap'] 26) := ⟨_, rfl⟩
 rw [← hW1] at hb2 hdc HB1
 have HS1 : Hid (W1.heap.size = wr.heap.size + 1) := by show _ = _; rw [hW1]; simp
 have HB2 : Hid (Below wr.heap.size wr w2 ∧ Below W1.heap.size W1 w2) := ⟨HB1.out.trans (hb2.mono HB1.out.size), hb2⟩
 have HDC : Hid (rk.kids.length ≤ cp2 ∧ Dc (New W1 w2) w2 g2 a2 rk.kids) := ⟨hcp, hdc⟩
 have HRO : Hid (RowC w.heap.size (.slice va es.length vc) es w2) := HR.out.2.1.below HB2.out.1
 have HO2 : Hid ((w2.alloc (.cells #[.int .i64 rk.kind, .int .i64 rk.n, .string rk.name, .int .i64 rk.stamp, .int .i64 rk.lib, .slice a2 rk.kids.length cp2] 26)).ownsRow w.heap.size 26 6 (.slice va es.length vc) es.length (flat es)) := HRO.out.own.alloc _
 have hw2 : w.heap.size ≤ w2.heap.size := Nat.le_trans HR.out.1.size HB2.out.1.size
 clear hb2 CO hcp hdc hW1
 go_wp2_with (at_builtin; refine wpList_append_lies _ rfl _ _ 24 rfl w.heap.size 26 i0 _ 6 72 Tryz.underlying24 hinf hz0 hz1 hz2 rfl (by decide) (.slice va es.length vc) es.length (flat es) rfl (by exact HO2.out) ⟨w2.heap.size, 0, none⟩ 1 1 [.int .i64 rk.kind, .int .i64 rk.n, .string rk.name, .int .i64 rk.stamp, .int .i64 rk.lib, .slice a2 rk.kids.length cp2] rfl rfl (by exact news6 w2 _ _ _ _ _ _ 26) (by intro u hu; simp at hu; rcases hu with rfl | rfl | rfl | rfl | rfl | rfl <;> rfl) (by decide) (by unfold maxLen; omega) (by omega) (by simp; omega) (w2.heap.size + 1) (by simp) ?_; intro g cp w4 hown hgrow hat hlt4; have HX : Hid (Below w.heap.size w w4 ∧ RowC w.heap.size (.slice (some ⟨g, 0, none⟩) (es.length + 1) cp) (es ++ [(rk, a2, cp2)]) w4) := ⟨(HR.out.1.trans (HB2.out.1.mono HR.out.1.size)).trans (((Below.refl _ _).alloc hw2 _).trans (grown_below hgrow (by simp; omega) (fun q hq => (own_typeL HO2.out q hq).1))), RowC.push (f := g2) (wr := W1) (w := w2) _ HRO.out (by have := HS1.out; have := HR.out.1.size; omega) (fun k hk => by have := (own_typeL HR.out.2.1.own k hk).2.1; have := HS1.out; omega) HDC.out.2 HNM.out HDC.out.1 hown hgrow (by rcases hat with h | h; exact Or.inl h.symm; exact Or.inr (congrArg some h))⟩; clear hown hgrow hat hlt4)
 go_roundw
 case rel => exact ⟨j + 1, es ++ [(rk, a2, cp2)], hlt, by go_num, by show _ = _; have := HJ.out; simp; omega, HX.out.1, HX.out.2, by rw [List.map_append, HR.out.2.2, HST.out]; rfl⟩
 case measure => simp [intOf]; omega
end Go.Proofs.YtonafbennobgdaaGreatDoor
