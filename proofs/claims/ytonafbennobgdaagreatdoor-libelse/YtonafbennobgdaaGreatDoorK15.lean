/- Chapter 3: what is brought out. Chapter 3: data copied. -/
import Derived.Test.YtonafbennobgdaaGreatDoorK14
namespace Go.Proofs.YtonafbennobgdaaGreatDoor
section
set_option linter.unusedVariables false
set_option linter.unusedSimpArgs false
open Go.RowKit

theorem exp_boxes (d : Dat) (a : Option Addr) (kn cap : Nat) (w : World) : Below w.heap.size w ((w.alloc (.cells #[.int .i64 d.kind, .int .i64 d.n, .string d.name, .int .i64 d.stamp, .int .i64 d.lib, .slice a kn cap] 26)).alloc (.cells #[.string ⟨#[]⟩, .string ⟨#[]⟩] 70)) ∧ ((w.alloc (.cells #[.int .i64 d.kind, .int .i64 d.n, .string d.name, .int .i64 d.stamp, .int .i64 d.lib, .slice a kn cap] 26)).alloc (.cells #[.string ⟨#[]⟩, .string ⟨#[]⟩] 70)).heap[w.heap.size]? = some (.cells #[.int .i64 d.kind, .int .i64 d.n, .string d.name, .int .i64 d.stamp, .int .i64 d.lib, .slice a kn cap] 26 (0, 0)) ∧ ((w.alloc (.cells #[.int .i64 d.kind, .int .i64 d.n, .string d.name, .int .i64 d.stamp, .int .i64 d.lib, .slice a kn cap] 26)).alloc (.cells #[.string ⟨#[]⟩, .string ⟨#[]⟩] 70)).heap[w.heap.size + 1]? = some (.cells #[.string ⟨#[]⟩, .string ⟨#[]⟩] 70 (0, 0)) ∧ ((w.alloc (.cells #[.int .i64 d.kind, .int .i64 d.n, .string d.name, .int .i64 d.stamp, .int .i64 d.lib, .slice a kn cap] 26)).alloc (.cells #[.string ⟨#[]⟩, .string ⟨#[]⟩] 70)).heap.size = w.heap.size + 2 := by
  refine ⟨((Below.refl _ _).alloc (Nat.le_refl _) _).alloc (by simp) _, ?_, ?_, by simp⟩
  · rw [Below.heap_alloc _ _ _ (by simp)]; exact World.alloc_heap_new w _
  · have := World.alloc_heap_new (w.alloc (.cells #[.int .i64 d.kind, .int .i64 d.n, .string d.name, .int .i64 d.stamp, .int .i64 d.lib, .slice a kn cap] 26)) (.cells #[.string ⟨#[]⟩, .string ⟨#[]⟩] 70)
    simpa using this
set_option maxRecDepth 100000 in
set_option maxHeartbeats 6400000 in
theorem export_sym (d : Dat) (a : Option Addr) (cap : Nat) (w : World) (hk : d.kind = 3) (hs : d.name.size ≤ 281474976710656) : Calls Tryz.prog 127 #[dv d a cap] w fun e w' => Below w.heap.size w w' ∧ e = .returned (.agg #[.string d.name, .string d.name]) := by
  have HNM : Hid (∀ w, Calls Tryz.prog 78 #[dv d a cap] w fun e w' => Below w.heap.size w w' ∧ e = .returned (.string d.name)) := fun w => (nameOf_any d a cap w (fun _ => hs)).mono (by
    rintro e w' ⟨h1, h2⟩
    unfold nameF at h2
    rw [if_pos hk] at h2
    obtain ⟨v, rfl, rfl⟩ := h2
    exact ⟨h1, rfl⟩)
  have c1 : (d.kind == 3) = true := by simpa using hk
  clear hs hk
  unfold dv at *
  generalize d.kids.length = kn at *
  obtain ⟨g1, g2, g3, g4⟩ := exp_boxes d a kn cap w
  go_enter Tryz.func127, Tryz.ntmps127
  go_upto_region 2 with fail
  generalize ((w.alloc (.cells #[.int .i64 d.kind, .int .i64 d.n, .string d.name, .int .i64 d.stamp, .int .i64 d.lib, .slice a kn cap] 26)).alloc (.cells #[.string ⟨#[]⟩, .string ⟨#[]⟩] 70)) = W0 at g1 g2 g3 g4 ⊢
  have HB0 := hidd g1
  have KQ : Hid (∀ W, Below (w.heap.size + 2) W0 W → W.cell? ⟨w.heap.size, 0, none⟩ = some (.int .i64 d.kind) ∧ W.cell? ⟨w.heap.size, 1, none⟩ = some (.int .i64 d.n) ∧ W.cell? ⟨w.heap.size, 2, none⟩ = some (.string d.name) ∧ W.cell? ⟨w.heap.size, 3, none⟩ = some (.int .i64 d.stamp) ∧ W.cell? ⟨w.heap.size, 4, none⟩ = some (.int .i64 d.lib) ∧ W.cell? ⟨w.heap.size, 5, none⟩ = some (.slice a kn cap)) := fun W hb => by
    have h := (hb.block w.heap.size (by omega)).trans g2
    exact ⟨(cellO h).trans rfl, (cellO h).trans rfl, (cellO h).trans rfl, (cellO h).trans rfl, (cellO h).trans rfl, (cellO h).trans rfl⟩
  have KR : Hid (∀ W, Below (w.heap.size + 2) W0 W → W.heap[w.heap.size + 1]? = some (.cells #[.string ⟨#[]⟩, .string ⟨#[]⟩] 70 (0, 0))) := fun W hb => (hb.block _ (by omega)).trans g3
  have CL : Hid (∀ W, Below (w.heap.size + 2) W0 W → Calls Tryz.prog 78 #[.agg #[.int .i64 d.kind, .int .i64 d.n, .string d.name, .int .i64 d.stamp, .int .i64 d.lib, .slice a kn cap]] W fun e w' => e = .returned (.string d.name) ∧ Below (w.heap.size + 2) W0 w') := fun W hb => (HNM.out W).mono fun e w' ⟨h, he⟩ => ⟨he, hb.trans (h.mono (by rw [← g4]; exact (show W0.heap.size ≤ W.heap.size from hb.size)))⟩
  have KS : Hid (∀ W v0 v1, Below (w.heap.size + 2) W0 W → ((W.setCell ⟨w.heap.size + 1, 0, none⟩ v0).setCell ⟨w.heap.size + 1, 1, none⟩ v1).cell? ⟨w.heap.size, 0, none⟩ = some (.int .i64 d.kind) ∧ ((W.setCell ⟨w.heap.size + 1, 0, none⟩ v0).setCell ⟨w.heap.size + 1, 1, none⟩ v1).cell? ⟨w.heap.size, 1, none⟩ = some (.int .i64 d.n) ∧ ((W.setCell ⟨w.heap.size + 1, 0, none⟩ v0).setCell ⟨w.heap.size + 1, 1, none⟩ v1).cell? ⟨w.heap.size, 2, none⟩ = some (.string d.name) ∧ ((W.setCell ⟨w.heap.size + 1, 0, none⟩ v0).setCell ⟨w.heap.size + 1, 1, none⟩ v1).cell? ⟨w.heap.size, 3, none⟩ = some (.int .i64 d.stamp) ∧ ((W.setCell ⟨w.heap.size + 1, 0, none⟩ v0).setCell ⟨w.heap.size + 1, 1, none⟩ v1).cell? ⟨w.heap.size, 4, none⟩ = some (.int .i64 d.lib) ∧ ((W.setCell ⟨w.heap.size + 1, 0, none⟩ v0).setCell ⟨w.heap.size + 1, 1, none⟩ v1).cell? ⟨w.heap.size, 5, none⟩ = some (.slice a kn cap)) := fun W v0 v1 hb => by
    have e : ∀ q, ((W.setCell ⟨w.heap.size + 1, 0, none⟩ v0).setCell ⟨w.heap.size + 1, 1, none⟩ v1).cell? ⟨w.heap.size, q, none⟩ = W.cell? ⟨w.heap.size, q, none⟩ := fun q => World.cell?_of_block (a := ⟨w.heap.size, q, none⟩) (by rw [Below.heap_setCell _ _ _ _ (show w.heap.size ≠ w.heap.size + 1 by omega), Below.heap_setCell _ _ _ _ (show w.heap.size ≠ w.heap.size + 1 by omega)])
    obtain ⟨k0, k1, k2, k3, k4, k5⟩ := KQ.out W hb
    exact ⟨(e 0).trans k0, (e 1).trans k1, (e 2).trans k2, (e 3).trans k3, (e 4).trans k4, (e 5).trans k5⟩
  have HB : Hid (Below (w.heap.size + 2) W0 W0) := Below.refl _ _
  clear g1 g2 g3 g4 HNM
  go_region_held3 (fun w' => w'.cell? ⟨w.heap.size, 0, none⟩ = some (.int .i64 d.kind) ∧ w'.cell? ⟨w.heap.size, 1, none⟩ = some (.int .i64 d.n) ∧ w'.cell? ⟨w.heap.size, 2, none⟩ = some (.string d.name) ∧ w'.cell? ⟨w.heap.size, 3, none⟩ = some (.int .i64 d.stamp) ∧ w'.cell? ⟨w.heap.size, 4, none⟩ = some (.int .i64 d.lib) ∧ w'.cell? ⟨w.heap.size, 5, none⟩ = some (.slice a kn cap))
    (first | exact KQ.out _ HB.out | exact KQ.out _ HB.out.drew | exact KQ.out _ HB.out.drew.drew | exact KS.out _ _ _ HB.out)
    (first | (go_at_call 78; refine (CL.out _ ?_).mono ?_; (first | exact HB.out | exact HB.out.drew | exact HB.out.drew.drew); rintro e w1 ⟨rfl, hb1⟩; have HB : Hid (Below (w.heap.size + 2) W0 w1) := hb1; have h1 := KR.out _ hb1; have r0 := (cellO (q := 0) h1).trans rfl; have r1 := (cellO (q := 1) h1).trans rfl; have s0 := looseO (q := 0) h1; have s1 := looseO (q := 1) h1; clear hb1 h1))
  all_goals
    go_wp2_with fail
    refine bodyPost_ret (v := .agg #[.string d.name, .string d.name]) (by simp [results, Tryz.results127, go_sem, r0, r1]) rfl ⟨?_, rfl⟩
    exact ((HB0.out.trans (HB.out.mono (by omega))).setCell (p := ⟨w.heap.size + 1, 0, none⟩) (Nat.le_succ _) _).setCell (p := ⟨w.heap.size + 1, 1, none⟩) (Nat.le_succ _) _
set_option maxRecDepth 100000 in
set_option maxHeartbeats 6400000 in
theorem export_no (d : Dat) (a : Option Addr) (kn cap : Nat) (w : World) (hk : ¬ d.kind = 3) (x : Int) (HJ0 : ∀ W, Below w.heap.size w W → Calls Tryz.prog 141 #[.agg #[.int .i64 d.kind, .int .i64 d.n, .string d.name, .int .i64 d.stamp, .int .i64 d.lib, .slice a kn cap], .int .i64 3] W fun e w' => Below W.heap.size W w' ∧ e = .panicked (thrownL x)) : Calls Tryz.prog 127 #[.agg #[.int .i64 d.kind, .int .i64 d.n, .string d.name, .int .i64 d.stamp, .int .i64 d.lib, .slice a kn cap]] w fun e w' => Below w.heap.size w w' ∧ e = .panicked (thrownL x) := by
  have c1 : (d.kind == 3) = false := by simpa using hk
  have HJ := hidd HJ0
  clear HJ0 hk
  obtain ⟨g1, g2, g3, g4⟩ := exp_boxes d a kn cap w
  obtain ⟨W0, hW0⟩ : ∃ W0, W0 = ((w.alloc (.cells #[.int .i64 d.kind, .int .i64 d.n, .string d.name, .int .i64 d.stamp, .int .i64 d.lib, .slice a kn cap] 26)).alloc (.cells #[.string ⟨#[]⟩, .string ⟨#[]⟩] 70)) := ⟨_, rfl⟩
  rw [← hW0] at g1 g2 g3 g4
  have HB0 : Hid (Below w.heap.size w W0) := g1
  have HX : Hid (∀ W, Below W0.heap.size W0 W → W.heap[w.heap.size + 1]? = some (.cells #[.string ⟨#[]⟩, .string ⟨#[]⟩] 70 (0, 0))) := fun W hb => (hb.block _ (by omega)).trans g3
  have hw0 := hW0.symm
  have y0 : W0.cell? ⟨w.heap.size, 0, none⟩ = some (.int .i64 d.kind) := (cellO g2).trans rfl
  have y1 : W0.cell? ⟨w.heap.size, 1, none⟩ = some (.int .i64 d.n) := (cellO g2).trans rfl
  have y2 : W0.cell? ⟨w.heap.size, 2, none⟩ = some (.string d.name) := (cellO g2).trans rfl
  have y3 : W0.cell? ⟨w.heap.size, 3, none⟩ = some (.int .i64 d.stamp) := (cellO g2).trans rfl
  have y4 : W0.cell? ⟨w.heap.size, 4, none⟩ = some (.int .i64 d.lib) := (cellO g2).trans rfl
  have y5 : W0.cell? ⟨w.heap.size, 5, none⟩ = some (.slice a kn cap) := (cellO g2).trans rfl
  clear g1 g2 g3 g4 hW0
  go_enter Tryz.func127, Tryz.ntmps127
  go_wp2_with fail
  refine (HJ.out W0 HB0.out).mono ?_
  rintro e w1 ⟨hb1, rfl⟩
  have HB1 : Hid (Below w.heap.size w w1) := HB0.out.trans (hb1.mono HB0.out.size)
  clear hb1
  go_wp2_with fail
  exact ⟨rfl, HB1.out, rfl⟩
set_option maxRecDepth 100000 in
set_option maxHeartbeats 6400000 in
theorem export_bad (d : Dat) (a : Option Addr) (kn cap : Nat) (w : World) (hk : ¬ d.kind = 3) (x y z : ByteArray) (hx : ¬ x = bRename) (HJ0 : ∀ W, Below w.heap.size w W → Calls Tryz.prog 141 #[.agg #[.int .i64 d.kind, .int .i64 d.n, .string d.name, .int .i64 d.stamp, .int .i64 d.lib, .slice a kn cap], .int .i64 3] W fun e w' => Below W.heap.size W w' ∧ ∃ v, e = .returned v ∧ StrR (W.heap.size + 1) [x, y, z] v w') : Calls Tryz.prog 127 #[.agg #[.int .i64 d.kind, .int .i64 d.n, .string d.name, .int .i64 d.stamp, .int .i64 d.lib, .slice a kn cap]] w fun e w' => Below w.heap.size w w' ∧ e = .panicked (thrownL 2) := by
  have c1 : (d.kind == 3) = false := by simpa using hk
  have c2 : (x.toList == bRename.toList) = false := beqS_ne hx
  unfold bRename at c2
  have c3 : (x.toList == [114, 101, 110, 97, 109, 101]) = false := by simpa using c2
  have HJ := hidd HJ0
  have HN := hidd (must_no 2)
  clear HJ0 hk hx
  obtain ⟨g1, g2, g3, g4⟩ := exp_boxes d a kn cap w
  obtain ⟨W0, hW0⟩ : ∃ W0, W0 = ((w.alloc (.cells #[.int .i64 d.kind, .int .i64 d.n, .string d.name, .int .i64 d.stamp, .int .i64 d.lib, .slice a kn cap] 26)).alloc (.cells #[.string ⟨#[]⟩, .string ⟨#[]⟩] 70)) := ⟨_, rfl⟩
  rw [← hW0] at g1 g2 g3 g4
  have HB0 : Hid (Below w.heap.size w W0) := g1
  have HX : Hid (∀ W, Below W0.heap.size W0 W → W.heap[w.heap.size + 1]? = some (.cells #[.string ⟨#[]⟩, .string ⟨#[]⟩] 70 (0, 0))) := fun W hb => (hb.block _ (by omega)).trans g3
  have hw0 := hW0.symm
  have y0 : W0.cell? ⟨w.heap.size, 0, none⟩ = some (.int .i64 d.kind) := (cellO g2).trans rfl
  have y1 : W0.cell? ⟨w.heap.size, 1, none⟩ = some (.int .i64 d.n) := (cellO g2).trans rfl
  have y2 : W0.cell? ⟨w.heap.size, 2, none⟩ = some (.string d.name) := (cellO g2).trans rfl
  have y3 : W0.cell? ⟨w.heap.size, 3, none⟩ = some (.int .i64 d.stamp) := (cellO g2).trans rfl
  have y4 : W0.cell? ⟨w.heap.size, 4, none⟩ = some (.int .i64 d.lib) := (cellO g2).trans rfl
  have y5 : W0.cell? ⟨w.heap.size, 5, none⟩ = some (.slice a kn cap) := (cellO g2).trans rfl
  clear g1 g2 g3 g4 hW0
  go_enter Tryz.func127, Tryz.ntmps127
  go_wp2_with fail
  refine (HJ.out W0 HB0.out).mono ?_
  rintro e w1 ⟨hb1, v, rfl, hv⟩
  obtain ⟨g, gc, rfl, _, _, _, _, hcell⟩ := StrR.at hv (by simp)
  have q0 := hcell 0 x rfl
  have HB1 : Hid (Below w.heap.size w w1) := HB0.out.trans (hb1.mono HB0.out.size)
  simp only [List.length_cons, List.length_nil]
  clear hb1 hv hcell
  go_wp2_with fail
  refine (HN.out _).mono ?_
  rintro e w2 ⟨rfl, hw2⟩
  rw [hw2]
  clear hw2
  go_wp2_with fail
  exact ⟨rfl, HB1.out, rfl⟩
set_option maxRecDepth 100000 in
set_option maxHeartbeats 6400000 in
theorem export_ok (d : Dat) (a : Option Addr) (kn cap : Nat) (w : World) (hk : ¬ d.kind = 3) (y z : ByteArray) (HJ0 : ∀ W, Below w.heap.size w W → Calls Tryz.prog 141 #[.agg #[.int .i64 d.kind, .int .i64 d.n, .string d.name, .int .i64 d.stamp, .int .i64 d.lib, .slice a kn cap], .int .i64 3] W fun e w' => Below W.heap.size W w' ∧ ∃ v, e = .returned v ∧ StrR (W.heap.size + 1) [bRename, y, z] v w') : Calls Tryz.prog 127 #[.agg #[.int .i64 d.kind, .int .i64 d.n, .string d.name, .int .i64 d.stamp, .int .i64 d.lib, .slice a kn cap]] w fun e w' => Below w.heap.size w w' ∧ e = .returned (.agg #[.string z, .string y]) := by
  have c1 : (d.kind == 3) = false := by simpa using hk
  have c2 : (bRename.toList == bRename.toList) = true := by simp
  have HJ := hidd HJ0
  have HY := hidd (must_yes 2)
  clear HJ0 hk
  unfold bRename at *
  obtain ⟨g1, g2, g3, g4⟩ := exp_boxes d a kn cap w
  obtain ⟨W0, hW0⟩ : ∃ W0, W0 = ((w.alloc (.cells #[.int .i64 d.kind, .int .i64 d.n, .string d.name, .int .i64 d.stamp, .int .i64 d.lib, .slice a kn cap] 26)).alloc (.cells #[.string ⟨#[]⟩, .string ⟨#[]⟩] 70)) := ⟨_, rfl⟩
  rw [← hW0] at g1 g2 g3 g4
  have HB0 : Hid (Below w.heap.size w W0) := g1
  have HX : Hid (∀ W, Below W0.heap.size W0 W → W.heap[w.heap.size + 1]? = some (.cells #[.string ⟨#[]⟩, .string ⟨#[]⟩] 70 (0, 0))) := fun W hb => (hb.block _ (by omega)).trans g3
  have hw0 := hW0.symm
  have y0 : W0.cell? ⟨w.heap.size, 0, none⟩ = some (.int .i64 d.kind) := (cellO g2).trans rfl
  have y1 : W0.cell? ⟨w.heap.size, 1, none⟩ = some (.int .i64 d.n) := (cellO g2).trans rfl
  have y2 : W0.cell? ⟨w.heap.size, 2, none⟩ = some (.string d.name) := (cellO g2).trans rfl
  have y3 : W0.cell? ⟨w.heap.size, 3, none⟩ = some (.int .i64 d.stamp) := (cellO g2).trans rfl
  have y4 : W0.cell? ⟨w.heap.size, 4, none⟩ = some (.int .i64 d.lib) := (cellO g2).trans rfl
  have y5 : W0.cell? ⟨w.heap.size, 5, none⟩ = some (.slice a kn cap) := (cellO g2).trans rfl
  clear g1 g2 g3 g4 hW0
  go_enter Tryz.func127, Tryz.ntmps127
  go_wp2_with fail
  refine (HJ.out W0 HB0.out).mono ?_
  rintro e w1 ⟨hb1, v, rfl, hv⟩
  obtain ⟨g, gc, rfl, _, _, _, _, hcell⟩ := StrR.at hv (by simp)
  have q0 := hcell 0 _ rfl
  have q1 := hcell 1 y rfl
  have q2 := hcell 2 z rfl
  have x1 := HX.out w1 hb1
  have r0 := (cellO (q := 0) x1).trans rfl
  have r1 := (cellO (q := 1) x1).trans rfl
  have s0 := looseO (q := 0) x1
  have s1 := looseO (q := 1) x1
  have HB1 : Hid (Below w.heap.size w w1) := HB0.out.trans (hb1.mono HB0.out.size)
  simp only [List.length_cons, List.length_nil]
  clear hb1 hv hcell x1
  go_wp2_with fail
  refine (HY.out _).mono ?_
  rintro e w2 ⟨rfl, hw2⟩
  rw [hw2]
  clear hw2
  go_wp2_with fail
  go_region
  all_goals
    go_wp2_with fail
    refine bodyPost_ret (v := .agg #[.string z, .string y]) (by simp [results, Tryz.results127, go_sem, r0, r1]) rfl ⟨?_, rfl⟩
    first
      | exact ((HB1.out.drew).setCell (p := ⟨w.heap.size + 1, 0, none⟩) (Nat.le_succ _) _).setCell (p := ⟨w.heap.size + 1, 1, none⟩) (Nat.le_succ _) _
      | exact (((HB1.out).setCell (p := ⟨w.heap.size + 1, 0, none⟩) (Nat.le_succ _) _).setCell (p := ⟨w.heap.size + 1, 1, none⟩) (Nat.le_succ _) _).drew
theorem export_any (B f : Nat) (d : Dat) (a : Option Addr) (cap : Nat) (w : World) (hB : B ≤ w.heap.size) (hd : Dc (fun k => k < B) w f a d.kids) (hc : d.kids.length ≤ cap) (ho : okD d) :
    Calls Tryz.prog 127 #[dv d a cap] w (ToldE (exportF d) (fun p v _ => v = .agg #[.string p.1, .string p.2]) w) := by
  unfold exportF
  by_cases hk : d.kind = 3
  · rw [if_pos hk]
    exact (export_sym d a cap w hk (okD_big ho hk)).mono (by rintro e w' ⟨h1, rfl⟩; exact ⟨h1, _, rfl, rfl⟩)
  · rw [if_neg hk]
    have HJ : ∀ W, Below w.heap.size w W → Calls Tryz.prog 141 #[dv d a cap, .int .i64 3] W (ToldE (justF d 3) (fun l v w' => StrR (W.heap.size + 1) l v w') W) := fun W hb => just_any 3 (by omega) B f d a cap W (Nat.le_trans hB hb.size) (hd.below (hb.mono hB)) hc ho
    cases hJ : justF d 3 with
    | no x =>
      rw [hJ] at HJ
      exact (export_no d a d.kids.length cap w hk x (fun W hb => (HJ W hb).mono (fun e w' h => ⟨h.1, h.2⟩))).mono (fun e w' h => ⟨h.1, h.2⟩)
    | ok l =>
      rw [hJ] at HJ
      obtain ⟨hl, _⟩ := just_len ho hJ
      obtain ⟨x, y, z, rfl⟩ : ∃ x y z, l = [x, y, z] := by
        match l, hl with
        | [x, y, z], _ => exact ⟨x, y, z, rfl⟩
      have HJ' : ∀ W, Below w.heap.size w W → Calls Tryz.prog 141 #[dv d a cap, .int .i64 3] W fun e w' => Below W.heap.size W w' ∧ ∃ v, e = .returned v ∧ StrR (W.heap.size + 1) [x, y, z] v w' := fun W hb => (HJ W hb).mono (fun e w' h => ⟨h.1, h.2⟩)
      show Calls _ _ _ _ (ToldE (if x = bRename then .ok (z, y) else .no 2) _ w)
      by_cases hx : x = bRename
      · rw [if_pos hx]
        subst hx
        exact (export_ok d a d.kids.length cap w hk y z HJ').mono (by rintro e w' ⟨h1, rfl⟩; exact ⟨h1, _, rfl, rfl⟩)
      · rw [if_neg hx]
        exact (export_bad d a d.kids.length cap w hk x y z hx HJ').mono (fun e w' h => ⟨h.1, h.2⟩)
end
section
set_option linter.unusedVariables false
set_option linter.unusedSimpArgs false
open Go.RowKit

theorem bareQL_map : ∀ (l : List Dat), bareQL l = l.map bareQ
  | [] => by rw [bareQL]; rfl
  | d :: r => by rw [bareQL, bareQL_map r]; rfl
def CopT (d : Dat) (W : World) (e : Ending) (w' : World) : Prop := Below W.heap.size W w' ∧ ∃ a2 c2 g, e = .returned (dv (bareQ d) a2 c2) ∧ (bareQ d).kids.length ≤ c2 ∧ Dc (New W w') w' g a2 (bareQ d).kids
theorem bare_name (d : Dat) (h : d.name.size ≤ maxLen) : (bareQ d).name.size ≤ maxLen := by
  cases d with
  | mk k n nm st lb ks =>
    rw [bareQ]
    show (if k = 3 then nm else ⟨#[]⟩).size ≤ maxLen
    by_cases hk : k = 3
    · rw [if_pos hk]; exact h
    · rw [if_neg hk]; exact Nat.zero_le _
theorem news6 (w : World) (v0 v1 v2 v3 v4 v5 : Value) (t : TypeId) : ∀ j u, [v0, v1, v2, v3, v4, v5][j]? = some u → (w.alloc (.cells #[v0, v1, v2, v3, v4, v5] t)).cell? ((⟨w.heap.size, 0, none⟩ : Addr).add j) = some u := by
  intro j u hj
  rw [addr_add, cellO (World.alloc_heap_new w _)]
  simpa using hj
theorem infoDatL : (Tryz.prog.info? 26).map (fun i => (i.zero, i.size, i.bytes)) = some (some (.agg #[.int .i64 0, .int .i64 0, .string ⟨#[]⟩, .int .i64 0, .int .i64 0, .slice none 0 0]), 6, 72) := by kernel_rfl
set_option maxRecDepth 100000 in
set_option maxHeartbeats 6400000 in
theorem copied_over (B f : Nat) (ds : List Dat) (a : Option Addr) (cap : Nat) (w : World) (hB : B ≤ w.heap.size) (hd : Dc (fun k => k < B) w f a ds) (hn : ds.length ≤ 2000) (hc : ds.length ≤ cap)
    (HCO0 : ∀ d ∈ ds, ∀ g a' cap' W, Below w.heap.size w W → f = g + 1 → d.kids.length ≤ cap' → Dc (fun k => k < B) W g a' d.kids → Calls Tryz.prog 118 #[dv d a' cap'] W (CopT d W)) :
    Calls Tryz.prog 88 #[.slice a ds.length cap] w fun e w' => Below w.heap.size w w' ∧ ∃ v es, e = .returned v ∧ es.map (·.1) = bareQL ds ∧ RowC w.heap.size v es w' := by
  have HD : Hid (∀ W j d, Below w.heap.size w W → ds[j]? = some d → ∃ b o a' cap' g, a = some ⟨b, o, none⟩ ∧ f = g + 1 ∧ DAt (fun k => k < B) W b (o + j * 6) d a' cap' ∧ Dc (fun k => k < B) W g a' d.kids) := fun W j d hb hj => by
    obtain ⟨g, b, o, a', cap', h0, h1, h2, h3⟩ := hd.at hj
    exact ⟨b, o, a', cap', g, h1, h0, h2.below (hb.mono hB), h3.below (hb.mono hB)⟩
  have HCO := hidd HCO0
  have HL : Hid (∀ j, j < ds.length → ∃ d, ds[j]? = some d) := fun j hj => ⟨_, List.getElem?_eq_getElem hj⟩
  obtain ⟨i0, hinf, hz0, hz1, hz2⟩ := info_partsL infoDatL
  obtain ⟨n, hn'⟩ : ∃ n, n = ds.length := ⟨_, rfl⟩
  have HN := hidd hn'
  rw [← hn'] at hn hc HL ⊢
  clear hd HCO0 hn'
  go_enter Tryz.func88, Tryz.ntmps88
  go_wp2_with fail
  go_loopw [3, 5, 8] (fun v _ ix wr => ∃ (j : Nat) (es : List (Dat × Option Addr × Nat)), j ≤ n ∧ ix = .int .i64 j ∧ Hid (es.length = j) ∧ Hid (Below w.heap.size w wr ∧ RowC w.heap.size v es wr ∧ es.map (·.1) = bareQL (ds.take j))) (fun _ _ ix _ => n - (intOf ix).toNat)
  case atStart => exact ⟨0, [], Nat.zero_le _, rfl, rfl, Below.refl _ _, RowC.nil _ _, by simp [bareQL]⟩
  case round =>
    obtain ⟨j, es, hj, rfl, HJ, HR⟩ := hrel
    obtain ⟨va, vc, rfl, hvc⟩ := own_sliceL HR.out.2.1.own
    have hl : es.length ≤ 100000 := by have := HJ.out; omega
    by_cases hlt : j < n
    · obtain ⟨d, hdj⟩ := HL.out j hlt
      obtain ⟨b, o, a', cap', g0, rfl, hf0, hA, hK⟩ := HD.out wr j d HR.out.1 hdj
      obtain ⟨_, c0, c1, c2, c3, c4, c5, hnm, hlk⟩ := hA
      have i1 : (0 : Int) ≤ (j : Int) := by omega
      have i2 : (j : Int) < (n : Int) := by omega
      have HB1 : Hid (Below wr.heap.size wr (wr.alloc (.cells #[.int .i64 d.kind, .int .i64 d.n, .string d.name, .int .i64 d.stamp, .int .i64 d.lib, .slice a' d.kids.length cap'] 26))) := (Below.refl _ _).alloc (Nat.le_refl _) _
      have CO := hidd (HCO.out d (List.mem_of_getElem? hdj) g0 a' cap' (wr.alloc (.cells #[.int .i64 d.kind, .int .i64 d.n, .string d.name, .int .i64 d.stamp, .int .i64 d.lib, .slice a' d.kids.length cap'] 26)) (HR.out.1.trans (HB1.out.mono HR.out.1.size)) hf0 hlk (hK.below (HB1.out.mono (Nat.le_trans hB HR.out.1.size))))
      have HST : Hid (bareQL (ds.take (j + 1)) = bareQL (ds.take j) ++ [bareQ d]) := by
        show _ = _
        obtain ⟨hi, e⟩ := List.getElem?_eq_some_iff.1 hdj
        rw [bareQL_map, bareQL_map, List.take_add_one, List.map_append, hdj]
        rfl
      have HNM := hidd (bare_name d hnm)
      unfold CopT dv at CO
      generalize bareQ d = rk at *
      clear hdj hK hf0
      generalize d.kids.length = kn at *
      go_wp2_with fail
      refine CO.out.mono ?_
      rintro e w2 ⟨hb2, a2, cp2, g2, rfl, hcp, hdc⟩
      obtain ⟨W1, hW1⟩ : ∃ W1, W1 = wr.alloc (.cells #[.int .i64 d.kind, .int .i64 d.n, .string d.name, .int .i64 d.stamp, .int .i64 d.lib, .slice a' kn cap'] 26) := ⟨_, rfl⟩
      rw [← hW1] at hb2 hdc HB1
      have HS1 : Hid (W1.heap.size = wr.heap.size + 1) := by show _ = _; rw [hW1]; simp
      have HB2 : Hid (Below wr.heap.size wr w2 ∧ Below W1.heap.size W1 w2) := ⟨HB1.out.trans (hb2.mono HB1.out.size), hb2⟩
      have HDC : Hid (rk.kids.length ≤ cp2 ∧ Dc (New W1 w2) w2 g2 a2 rk.kids) := ⟨hcp, hdc⟩
      have HRO : Hid (RowC w.heap.size (.slice va es.length vc) es w2) := HR.out.2.1.below HB2.out.1
      have HO2 : Hid ((w2.alloc (.cells #[.int .i64 rk.kind, .int .i64 rk.n, .string rk.name, .int .i64 rk.stamp, .int .i64 rk.lib, .slice a2 rk.kids.length cp2] 26)).ownsRow w.heap.size 26 6 (.slice va es.length vc) es.length (flat es)) := HRO.out.own.alloc _
      have hw2 : w.heap.size ≤ w2.heap.size := Nat.le_trans HR.out.1.size HB2.out.1.size
      clear hb2 CO hcp hdc hW1
      go_wp2_with (at_builtin; refine wpList_append_lies _ rfl _ _ 24 rfl w.heap.size 26 i0 _ 6 72 Tryz.underlying24 hinf hz0 hz1 hz2 rfl (by decide) (.slice va es.length vc) es.length (flat es) rfl (by exact HO2.out) ⟨w2.heap.size, 0, none⟩ 1 1 [.int .i64 rk.kind, .int .i64 rk.n, .string rk.name, .int .i64 rk.stamp, .int .i64 rk.lib, .slice a2 rk.kids.length cp2] rfl rfl (by exact news6 w2 _ _ _ _ _ _ 26) (by intro u hu; simp at hu; rcases hu with rfl | rfl | rfl | rfl | rfl | rfl <;> rfl) (by decide) (by unfold maxLen; omega) (by omega) (by simp; omega) (w2.heap.size + 1) (by simp) ?_; intro g cp w4 hown hgrow hat hlt4; have HX : Hid (Below w.heap.size w w4 ∧ RowC w.heap.size (.slice (some ⟨g, 0, none⟩) (es.length + 1) cp) (es ++ [(rk, a2, cp2)]) w4) := ⟨(HR.out.1.trans (HB2.out.1.mono HR.out.1.size)).trans (((Below.refl _ _).alloc hw2 _).trans (grown_below hgrow (by simp; omega) (fun q hq => (own_typeL HO2.out q hq).1))), RowC.push (f := g2) (wr := W1) (w := w2) _ HRO.out (by have := HS1.out; have := HR.out.1.size; omega) (fun k hk => by have := (own_typeL HR.out.2.1.own k hk).2.1; have := HS1.out; omega) HDC.out.2 HNM.out HDC.out.1 hown hgrow (by rcases hat with h | h; exact Or.inl h.symm; exact Or.inr (congrArg some h))⟩; clear hown hgrow hat hlt4)
      go_roundw
      case rel => exact ⟨j + 1, es ++ [(rk, a2, cp2)], hlt, by go_num, by show _ = _; have := HJ.out; simp; omega, HX.out.1, HX.out.2, by rw [List.map_append, HR.out.2.2, HST.out]; rfl⟩
      case measure => simp [intOf]; omega
    · obtain rfl : j = n := by omega
      have HE : Hid (es.map (·.1) = bareQL ds) := by
        show _ = _
        rw [HR.out.2.2, HN.out, List.take_length]
      go_wp2_with fail
      go_ret
      exact ⟨HR.out.1, _, es, rfl, HE.out, HR.out.2.1⟩
end
end Go.Proofs.YtonafbennobgdaaGreatDoor
