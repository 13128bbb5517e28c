/- Chapter 3: a library, or a program, path by path. -/
import Derived.Test.YtonafbennobgdaaGreatDoorK27
namespace Go.Proofs.YtonafbennobgdaaGreatDoor
set_option linter.unusedVariables false
set_option linter.unusedSimpArgs false
open Go.RowKit
set_option maxRecDepth 100000
set_option maxHeartbeats 6400000
def LibV (B pb : Nat) (f1 f2 f3 : Value) (s : LibS) (v : Value) (w : World) : Prop := ∃ is es ev iv bv, v = .agg #[.string s.name, ev, iv, bv] ∧ PSx B pb f1 f2 f3 s.name s.exports is es ev iv bv w ∧ is.map IE.s = s.imports ∧ es.map (·.1) = s.body
def ToldL (B pb : Nat) (f1 f2 f3 : Value) (r : Er LibS) (w : World) (e : Ending) (w' : World) : Prop :=
 BT B w w' ∧ match r with
  | .ok s => ∃ v, e = .returned v ∧ LibV B pb f1 f2 f3 s v w'
  | .no x => e = .panicked (thrownL x)
theorem set4 {W : World} {M : Nat} {c0 c1 c2 c3 : Value} {t : TypeId} (h : W.heap[M]? = some (.cells #[c0, c1, c2, c3] t (0, 0))) (v0 v1 v2 v3 : Value) : ((((W.setCell ⟨M, 0, none⟩ v0).setCell ⟨M, 1, none⟩ v1).setCell ⟨M, 2, none⟩ v2).setCell ⟨M, 3, none⟩ v3).heap[M]? = some (.cells #[v0, v1, v2, v3] t (0, 0)) :=
 cell_setL (cell_setL (cell_setL (cell_setL h v0) v1) v2) v3
theorem PS.named {B pb : Nat} {f1 f2 f3 : Value} {s : LibS} {w : World} (h : PS B pb f1 f2 f3 s w) (n : ByteArray) : PS B pb f1 f2 f3 { s with name := n } (w.setCell ⟨pb, 3, none⟩ (.string n)) ∧ BT B w (w.setCell ⟨pb, 3, none⟩ (.string n)) := by
 obtain ⟨is, es, ev, iv, bv, h1, h2, h3⟩ := h
 have far : ∀ k, k ≠ pb → (w.setCell ⟨pb, 3, none⟩ (.string n)).heap[k]? = w.heap[k]? := fun k hk => Below.heap_setCell _ _ _ _ hk
 have hsz : (w.setCell ⟨pb, 3, none⟩ (.string n)).heap.size = w.heap.size := by simp
 have st : ∀ k, Fre B pb ev iv bv w k → (w.setCell ⟨pb, 3, none⟩ (.string n)).heap[k]? = w.heap[k]? := fun k hk => far k hk.2.2.1
 have up : ∀ k, Fre B pb ev iv bv w k → Fre B pb ev iv bv (w.setCell ⟨pb, 3, none⟩ (.string n)) k := fun k hk => ⟨hk.1, by rw [hsz]; exact hk.2.1, hk.2.2⟩
 refine ⟨⟨is, es, ev, iv, bv, ⟨h1.hB, by rw [hsz]; exact h1.rl, (cell_setL h1.blk _).trans rfl, own_keepL h1.eo (fun q hq => far q (own_pb h1.eo h1.blk (by decide) hq)), own_keepL h1.io (fun q hq => far q (own_pb h1.io h1.blk (by decide) hq)), own_keepL h1.bo (fun q hq => far q (own_pb h1.bo h1.blk (by decide) hq)), fun e he => IE.stay (h1.ik e he) st up, fun e he => ?_⟩, h2, h3⟩, ⟨(Below.refl _ _).setCell (p := ⟨pb, 3, none⟩) h1.hB _, fun k cs hk => ?_⟩⟩
 ·obtain ⟨a1, a2, f, a3⟩ := h1.bk e he
  exact ⟨a1, a2, f, Dc.stay st up f _ _ a3⟩
 refine (far k ?_).trans hk
 rintro rfl
 rw [h1.blk] at hk
 simp at hk
theorem end_box {B pb rb : Nat} {f1 f2 f3 : Value} {nm : ByteArray} {ex : List (ByteArray × ByteArray)} {is : List IE} {es : List (Dat × Option Addr × Nat)} {ev iv bv : Value} {w : World} {cs : Array Value} (h : PSx B pb f1 f2 f3 nm ex is es ev iv bv w) (hr : w.heap[rb]? = some (.cells cs 30 (0, 0))) (v0 v1 v2 v3 : Value) (hB : B ≤ rb) (hrb : rb = pb + 2) :
 PSx B pb f1 f2 f3 nm ex is es ev iv bv ((((w.setCell ⟨rb, 0, none⟩ v0).setCell ⟨rb, 1, none⟩ v1).setCell ⟨rb, 2, none⟩ v2).setCell ⟨rb, 3, none⟩ v3) ∧ Below B w ((((w.setCell ⟨rb, 0, none⟩ v0).setCell ⟨rb, 1, none⟩ v1).setCell ⟨rb, 2, none⟩ v2).setCell ⟨rb, 3, none⟩ v3) ∧ ∀ k, k ≠ rb → ((((w.setCell ⟨rb, 0, none⟩ v0).setCell ⟨rb, 1, none⟩ v1).setCell ⟨rb, 2, none⟩ v2).setCell ⟨rb, 3, none⟩ v3).heap[k]? = w.heap[k]? := by
 have far : ∀ k, k ≠ rb → ((((w.setCell ⟨rb, 0, none⟩ v0).setCell ⟨rb, 1, none⟩ v1).setCell ⟨rb, 2, none⟩ v2).setCell ⟨rb, 3, none⟩ v3).heap[k]? = w.heap[k]? := fun k hk => by
  rw [Below.heap_setCell _ _ _ _ (show k ≠ rb from hk), Below.heap_setCell _ _ _ _ (show k ≠ rb from hk), Below.heap_setCell _ _ _ _ (show k ≠ rb from hk), Below.heap_setCell _ _ _ _ (show k ≠ rb from hk)]
 have hb : Below B w ((((w.setCell ⟨rb, 0, none⟩ v0).setCell ⟨rb, 1, none⟩ v1).setCell ⟨rb, 2, none⟩ v2).setCell ⟨rb, 3, none⟩ v3) := ((((Below.refl _ _).setCell (p := ⟨rb, 0, none⟩) hB _).setCell (p := ⟨rb, 1, none⟩) hB _).setCell (p := ⟨rb, 2, none⟩) hB _).setCell (p := ⟨rb, 3, none⟩) hB _
 refine ⟨?_, hb, far⟩
 generalize ((((w.setCell ⟨rb, 0, none⟩ v0).setCell ⟨rb, 1, none⟩ v1).setCell ⟨rb, 2, none⟩ v2).setCell ⟨rb, 3, none⟩ v3) = Wf at far hb ⊢
 have st : ∀ k, Fre B pb ev iv bv w k → Wf.heap[k]? = w.heap[k]? := fun k hk => far k (by rw [hrb]; exact hk.1.2)
 have up : ∀ k, Fre B pb ev iv bv w k → Fre B pb ev iv bv Wf k := fun k hk => ⟨hk.1, Nat.lt_of_lt_of_le hk.2.1 hb.size, hk.2.2⟩
 refine ⟨h.hB, Nat.lt_of_lt_of_le h.rl hb.size, (far pb (by omega)).trans h.blk, own_keepL h.eo (fun q hq => far q (fun e => own_box h.eo (e ▸ hr) (by decide) hq)), own_keepL h.io (fun q hq => far q (fun e => own_box h.io (e ▸ hr) (by decide) hq)), own_keepL h.bo (fun q hq => far q (fun e => own_box h.bo (e ▸ hr) (by decide) hq)), fun e he => IE.stay (h.ik e he) st up, fun e he => ?_⟩
 obtain ⟨a1, a2, f, a3⟩ := h.bk e he
 exact ⟨a1, a2, f, Dc.stay st up f _ _ a3⟩
theorem BT.over {B rb : Nat} {w w1 w2 : World} (h : BT B w w1) (h2 : Below B w1 w2 ∧ ∀ k, k ≠ rb → w2.heap[k]? = w1.heap[k]?) (hn : w.heap[rb]? = none) : BT B w w2 :=
 ⟨h.toBelow.trans h2.1, fun k cs hk => (h2.2 k (by rintro rfl; rw [hn] at hk; cases hk)).trans (h.ty k cs hk)⟩
theorem e29 (d : Dat) (a : Option Addr) (kn cap : Nat) {B pb : Nat} {f1 f2 f3 : Value} {w : World} (hpb : w.heap.size = pb + 1) (hB0 : B ≤ pb) (hp : ∀ W, Below w.heap.size w W → pb + 2 < W.heap.size → PS B pb f1 f2 f3 lib0 W) : ∃ W0, ((w.alloc (.cells #[.int .i64 d.kind, .int .i64 d.n, .string d.name, .int .i64 d.stamp, .int .i64 d.lib, .slice a kn cap] 26)).alloc (.cells #[.string ⟨#[]⟩, .slice none 0 0, .slice none 0 0, .slice none 0 0] 30)) = W0 ∧ Hid (Below w.heap.size w W0) ∧ Hid (PS B pb f1 f2 f3 lib0 W0) ∧ Hid (B ≤ w.heap.size) ∧ Hid (w.heap.size + 1 = pb + 2) ∧ Hid (W0.heap[w.heap.size + 1]? = some (.cells #[.string ⟨#[]⟩, .slice none 0 0, .slice none 0 0, .slice none 0 0] 30 (0, 0))) ∧ W0.cell? ⟨w.heap.size, 0, none⟩ = some (.int .i64 d.kind) ∧ W0.cell? ⟨w.heap.size, 1, none⟩ = some (.int .i64 d.n) ∧ W0.cell? ⟨w.heap.size, 2, none⟩ = some (.string d.name) ∧ W0.cell? ⟨w.heap.size, 3, none⟩ = some (.int .i64 d.stamp) ∧ W0.cell? ⟨w.heap.size, 4, none⟩ = some (.int .i64 d.lib) ∧ W0.cell? ⟨w.heap.size, 5, none⟩ = some (.slice a kn cap) := by
 obtain ⟨W0, hW0⟩ : ∃ W0, W0 = ((w.alloc (.cells #[.int .i64 d.kind, .int .i64 d.n, .string d.name, .int .i64 d.stamp, .int .i64 d.lib, .slice a kn cap] 26)).alloc (.cells #[.string ⟨#[]⟩, .slice none 0 0, .slice none 0 0, .slice none 0 0] 30)) := ⟨_, rfl⟩
 have g1 : Below w.heap.size w W0 := by rw [hW0]; exact ((Below.refl _ _).alloc (Nat.le_refl _) _).alloc (by simp) _
 have g2 : W0.heap[w.heap.size]? = some (.cells #[.int .i64 d.kind, .int .i64 d.n, .string d.name, .int .i64 d.stamp, .int .i64 d.lib, .slice a kn cap] 26 (0, 0)) := by
  rw [hW0, Below.heap_alloc _ _ _ (by simp)]; exact World.alloc_heap_new w _
 have g3 : W0.heap[w.heap.size + 1]? = some (.cells #[.string ⟨#[]⟩, .slice none 0 0, .slice none 0 0, .slice none 0 0] 30 (0, 0)) := by
  rw [hW0]
  have := World.alloc_heap_new (w.alloc (.cells #[.int .i64 d.kind, .int .i64 d.n, .string d.name, .int .i64 d.stamp, .int .i64 d.lib, .slice a kn cap] 26)) (.cells #[.string ⟨#[]⟩, .slice none 0 0, .slice none 0 0, .slice none 0 0] 30)
  simpa using this
 have HB0 : Hid (Below w.heap.size w W0) := g1
 have g4 : W0.heap.size = w.heap.size + 2 := by rw [hW0]; simp
 have HP0 : Hid (PS B pb f1 f2 f3 lib0 W0) := hp W0 g1 (by omega)
 have HBB : Hid (B ≤ w.heap.size) := by show _ ≤ _; omega
 have HPB : Hid (w.heap.size + 1 = pb + 2) := by show _ = _; omega
 have HRB : Hid (W0.heap[w.heap.size + 1]? = some (.cells #[.string ⟨#[]⟩, .slice none 0 0, .slice none 0 0, .slice none 0 0] 30 (0, 0))) := g3
 have y0 : W0.cell? ⟨w.heap.size, 0, none⟩ = some (.int .i64 d.kind) := (cellO g2).trans rfl
 have y1 : W0.cell? ⟨w.heap.size, 1, none⟩ = some (.int .i64 d.n) := (cellO g2).trans rfl
 have y2 : W0.cell? ⟨w.heap.size, 2, none⟩ = some (.string d.name) := (cellO g2).trans rfl
 have y3 : W0.cell? ⟨w.heap.size, 3, none⟩ = some (.int .i64 d.stamp) := (cellO g2).trans rfl
 have y4 : W0.cell? ⟨w.heap.size, 4, none⟩ = some (.int .i64 d.lib) := (cellO g2).trans rfl
 have y5 : W0.cell? ⟨w.heap.size, 5, none⟩ = some (.slice a kn cap) := (cellO g2).trans rfl
 have hw0 := hW0.symm
 exact ⟨W0, hw0, HB0, HP0, HBB, HPB, HRB, y0, y1, y2, y3, y4, y5⟩
theorem all_form_no (B pb : Nat) (f1 f2 f3 : Value) (r : Er LibS) (d : Dat) (a : Option Addr) (kn cap : Nat) (w : World) (hpb : w.heap.size = pb + 1) (hB0 : B ≤ pb) (hp : ∀ W, Below w.heap.size w W → pb + 2 < W.heap.size → PS B pb f1 f2 f3 lib0 W) (hr : r = .no 2) (HF0 : ∀ W, Below w.heap.size w W → Calls Tryz.prog 53 #[.agg #[.int .i64 d.kind, .int .i64 d.n, .string d.name, .int .i64 d.stamp, .int .i64 d.lib, .slice a kn cap]] W fun e w' => Below W.heap.size W w' ∧ e = .panicked (thrownL 2)) :
 Calls Tryz.prog 29 #[.pointer (some ⟨pb, 0, none⟩), .agg #[.int .i64 d.kind, .int .i64 d.n, .string d.name, .int .i64 d.stamp, .int .i64 d.lib, .slice a kn cap]] w (ToldL B pb f1 f2 f3 r w) := by
 obtain ⟨W0, hw0, HB0, HP0, HBB, HPB, HRB, y0, y1, y2, y3, y4, y5⟩ := e29 d a kn cap hpb hB0 hp
 clear hp hpb hB0
 have HF := hidd HF0
 have HR := hidd hr
 clear HF0 hr
 go_enter Tryz.func29, Tryz.ntmps29
 go_wp2_with fail
 refine (HF.out W0 HB0.out).mono ?_
 rintro e w1 ⟨hb1, rfl⟩
 have HB1 : Hid (BT B w w1) := (HB0.out.trans (hb1.mono HB0.out.size)).bt HBB.out
 clear hb1
 go_wp2_with fail
 refine ⟨rfl, HB1.out, ?_⟩
 rw [HR.out]
theorem all_else (B pb : Nat) (f1 f2 f3 : Value) (r : Er LibS) (d : Dat) (a : Option Addr) (kn cap : Nat) (w : World) (hpb : w.heap.size = pb + 1) (hB0 : B ≤ pb) (hp : ∀ W, Below w.heap.size w W → pb + 2 < W.heap.size → PS B pb f1 f2 f3 lib0 W) (hr : r = .no 2) (nm : ByteArray) (ra : Option Addr) (rn rc : Nat) (HF0 : ∀ W, Below w.heap.size w W → Calls Tryz.prog 53 #[.agg #[.int .i64 d.kind, .int .i64 d.n, .string d.name, .int .i64 d.stamp, .int .i64 d.lib, .slice a kn cap]] W fun e w' => Below W.heap.size W w' ∧ e = .returned (.tuple #[.string nm, .slice ra rn rc])) (hn0 : ¬ nm = bLibrary) (hn1 : ¬ nm = bProgram) :
 Calls Tryz.prog 29 #[.pointer (some ⟨pb, 0, none⟩), .agg #[.int .i64 d.kind, .int .i64 d.n, .string d.name, .int .i64 d.stamp, .int .i64 d.lib, .slice a kn cap]] w (ToldL B pb f1 f2 f3 r w) := by
 obtain ⟨W0, hw0, HB0, HP0, HBB, HPB, HRB, y0, y1, y2, y3, y4, y5⟩ := e29 d a kn cap hpb hB0 hp
 clear hp hpb hB0
 have k0 : (nm.toList == bLibrary.toList) = false := beqS_ne hn0
 unfold bLibrary at k0
 have m0 : (nm.toList == [108, 105, 98, 114, 97, 114, 121]) = false := by simpa using k0
 have k1 : (nm.toList == bProgram.toList) = false := beqS_ne hn1
 unfold bProgram at k1
 have m1 : (nm.toList == [112, 114, 111, 103, 114, 97, 109]) = false := by simpa using k1
 clear hn0 hn1
 have HF := hidd HF0
 have HR := hidd hr
 clear HF0 hr
 go_enter Tryz.func29, Tryz.ntmps29
 go_wp2_with fail
 refine (HF.out W0 HB0.out).mono ?_
 rintro e w1 ⟨hb1, rfl⟩
 have HB1 : Hid (BT B w w1) := (HB0.out.trans (hb1.mono HB0.out.size)).bt HBB.out
 have HBW : Hid (Below w.heap.size w w1) := HB0.out.trans (hb1.mono HB0.out.size)
 have HP1 : Hid (PS B pb f1 f2 f3 lib0 w1 ∧ w1.heap[w.heap.size + 1]? = some (.cells #[.string ⟨#[]⟩, .slice none 0 0, .slice none 0 0, .slice none 0 0] 30 (0, 0))) := ⟨HP0.out.below hb1, (hb1.block _ (Array.getElem?_eq_some_iff.1 HRB.out).1).trans HRB.out⟩
 clear hb1 y0 y1 y2 y3 y4 y5 hw0 HF
 go_wp2_with fail
 refine ⟨rfl, HB1.out, ?_⟩
 rw [HR.out]
 exact rfl
theorem all_lib_none (B pb : Nat) (f1 f2 f3 : Value) (r : Er LibS) (d : Dat) (a : Option Addr) (kn cap : Nat) (w : World) (hpb : w.heap.size = pb + 1) (hB0 : B ≤ pb) (hp : ∀ W, Below w.heap.size w W → pb + 2 < W.heap.size → PS B pb f1 f2 f3 lib0 W) (hr : r = .no 2) (nm : ByteArray) (ra : Option Addr) (rn rc : Nat) (HF0 : ∀ W, Below w.heap.size w W → Calls Tryz.prog 53 #[.agg #[.int .i64 d.kind, .int .i64 d.n, .string d.name, .int .i64 d.stamp, .int .i64 d.lib, .slice a kn cap]] W fun e w' => Below W.heap.size W w' ∧ e = .returned (.tuple #[.string nm, .slice ra rn rc])) (hn : nm = bLibrary) (h0 : rn = 0) :
 Calls Tryz.prog 29 #[.pointer (some ⟨pb, 0, none⟩), .agg #[.int .i64 d.kind, .int .i64 d.n, .string d.name, .int .i64 d.stamp, .int .i64 d.lib, .slice a kn cap]] w (ToldL B pb f1 f2 f3 r w) := by
 obtain ⟨W0, hw0, HB0, HP0, HBB, HPB, HRB, y0, y1, y2, y3, y4, y5⟩ := e29 d a kn cap hpb hB0 hp
 clear hp hpb hB0
 have ke : (nm.toList == bLibrary.toList) = true := by rw [hn]; simp
 unfold bLibrary at ke
 have me : (nm.toList == [108, 105, 98, 114, 97, 114, 121]) = true := by simpa using ke
 clear hn
 subst h0
 have HF := hidd HF0
 have HR := hidd hr
 have HN := hidd (must_no 2)
 clear HF0 hr
 go_enter Tryz.func29, Tryz.ntmps29
 go_wp2_with fail
 refine (HF.out W0 HB0.out).mono ?_
 rintro e w1 ⟨hb1, rfl⟩
 have HB1 : Hid (BT B w w1) := (HB0.out.trans (hb1.mono HB0.out.size)).bt HBB.out
 have HBW : Hid (Below w.heap.size w w1) := HB0.out.trans (hb1.mono HB0.out.size)
 have HP1 : Hid (PS B pb f1 f2 f3 lib0 w1 ∧ w1.heap[w.heap.size + 1]? = some (.cells #[.string ⟨#[]⟩, .slice none 0 0, .slice none 0 0, .slice none 0 0] 30 (0, 0))) := ⟨HP0.out.below hb1, (hb1.block _ (Array.getElem?_eq_some_iff.1 HRB.out).1).trans HRB.out⟩
 clear hb1 y0 y1 y2 y3 y4 y5 hw0 HF
 go_wp2_with fail
 refine (HN.out _).mono ?_
 rintro e w2 ⟨rfl, rfl⟩
 go_wp2_with fail
 refine ⟨rfl, HB1.out, ?_⟩
 rw [HR.out]
theorem all_lib_no (B pb : Nat) (f1 f2 f3 : Value) (r : Er LibS) (d : Dat) (a : Option Addr) (kn cap : Nat) (w : World) (hpb : w.heap.size = pb + 1) (hB0 : B ≤ pb) (hp : ∀ W, Below w.heap.size w W → pb + 2 < W.heap.size → PS B pb f1 f2 f3 lib0 W) (x : Int) (hr : r = .no x) (nm : ByteArray) (ra : Option Addr) (rn rc : Nat) (HF0 : ∀ W, Below w.heap.size w W → Calls Tryz.prog 53 #[.agg #[.int .i64 d.kind, .int .i64 d.n, .string d.name, .int .i64 d.stamp, .int .i64 d.lib, .slice a kn cap]] W fun e w' => Below W.heap.size W w' ∧ e = .returned (.tuple #[.string nm, .slice ra rn rc])) (hn : nm = bLibrary) (b q : Nat) (y : Dat) (ya : Option Addr) (yn yc : Nat) (hra : ra = some ⟨b, q, none⟩) (h0 : 0 < rn) (hrc : rn ≤ rc) (HY0 : ∀ W, Below w.heap.size w W → W.cell? ⟨b, q, none⟩ = some (.int .i64 y.kind) ∧ W.cell? ⟨b, q + 1, none⟩ = some (.int .i64 y.n) ∧ W.cell? ⟨b, q + 2, none⟩ = some (.string y.name) ∧ W.cell? ⟨b, q + 3, none⟩ = some (.int .i64 y.stamp) ∧ W.cell? ⟨b, q + 4, none⟩ = some (.int .i64 y.lib) ∧ W.cell? ⟨b, q + 5, none⟩ = some (.slice ya yn yc)) (HD0 : ∀ W, Below w.heap.size w W → Calls Tryz.prog 55 #[.agg #[.int .i64 y.kind, .int .i64 y.n, .string y.name, .int .i64 y.stamp, .int .i64 y.lib, .slice ya yn yc]] W fun e w' => Below W.heap.size W w' ∧ e = .panicked (thrownL x)) :
 Calls Tryz.prog 29 #[.pointer (some ⟨pb, 0, none⟩), .agg #[.int .i64 d.kind, .int .i64 d.n, .string d.name, .int .i64 d.stamp, .int .i64 d.lib, .slice a kn cap]] w (ToldL B pb f1 f2 f3 r w) := by
 obtain ⟨W0, hw0, HB0, HP0, HBB, HPB, HRB, y0, y1, y2, y3, y4, y5⟩ := e29 d a kn cap hpb hB0 hp
 clear hp hpb hB0
 have ke : (nm.toList == bLibrary.toList) = true := by rw [hn]; simp
 unfold bLibrary at ke
 have me : (nm.toList == [108, 105, 98, 114, 97, 114, 121]) = true := by simpa using ke
 clear hn
 subst hra
 have j0 : decide ((0 : Int) < (rn : Int)) = true := by simp; omega
 have j1 : (0 : Int) < (rn : Int) := by omega
 have j2 : (1 : Int) ≤ (rn : Int) := by omega
 have j3 : (rn : Int) ≤ (rc : Int) := by omega
 have HYC := hidd HY0
 have HYS := hidd (must_yes 2)
 clear HY0
 have HF := hidd HF0
 have HR := hidd hr
 have HD := hidd HD0
 clear HF0 hr HD0
 go_enter Tryz.func29, Tryz.ntmps29
 go_wp2_with fail
 refine (HF.out W0 HB0.out).mono ?_
 rintro e w1 ⟨hb1, rfl⟩
 have HB1 : Hid (BT B w w1) := (HB0.out.trans (hb1.mono HB0.out.size)).bt HBB.out
 have HBW : Hid (Below w.heap.size w w1) := HB0.out.trans (hb1.mono HB0.out.size)
 have HP1 : Hid (PS B pb f1 f2 f3 lib0 w1 ∧ w1.heap[w.heap.size + 1]? = some (.cells #[.string ⟨#[]⟩, .slice none 0 0, .slice none 0 0, .slice none 0 0] 30 (0, 0))) := ⟨HP0.out.below hb1, (hb1.block _ (Array.getElem?_eq_some_iff.1 HRB.out).1).trans HRB.out⟩
 clear hb1 y0 y1 y2 y3 y4 y5 hw0 HF
 obtain ⟨z0, z1, z2, z3, z4, z5⟩ := HYC.out w1 HBW.out
 go_wp2_with fail
 refine (HYS.out _).mono ?_
 rintro e w2 ⟨rfl, hw2⟩
 rw [hw2]
 clear hw2
 go_wp2_with fail
 refine (HD.out w1 HBW.out).mono ?_
 rintro e w3 ⟨hb3, rfl⟩
 have HB3 : Hid (BT B w w3) := HB1.out.trans (hb3.bt HP1.out.1.hs)
 clear hb3
 go_wp2_with fail
 refine ⟨rfl, HB3.out, ?_⟩
 rw [HR.out]
theorem all_lib_one (B pb : Nat) (f1 f2 f3 : Value) (r : Er LibS) (d : Dat) (a : Option Addr) (kn cap : Nat) (w : World) (hpb : w.heap.size = pb + 1) (hB0 : B ≤ pb) (hp : ∀ W, Below w.heap.size w W → pb + 2 < W.heap.size → PS B pb f1 f2 f3 lib0 W) (nm : ByteArray) (ra : Option Addr) (rn rc : Nat) (HF0 : ∀ W, Below w.heap.size w W → Calls Tryz.prog 53 #[.agg #[.int .i64 d.kind, .int .i64 d.n, .string d.name, .int .i64 d.stamp, .int .i64 d.lib, .slice a kn cap]] W fun e w' => Below W.heap.size W w' ∧ e = .returned (.tuple #[.string nm, .slice ra rn rc])) (hn : nm = bLibrary) (b q : Nat) (y : Dat) (ya : Option Addr) (yn yc : Nat) (hra : ra = some ⟨b, q, none⟩) (h0 : 0 < rn) (hrc : rn ≤ rc) (HY0 : ∀ W, Below w.heap.size w W → W.cell? ⟨b, q, none⟩ = some (.int .i64 y.kind) ∧ W.cell? ⟨b, q + 1, none⟩ = some (.int .i64 y.n) ∧ W.cell? ⟨b, q + 2, none⟩ = some (.string y.name) ∧ W.cell? ⟨b, q + 3, none⟩ = some (.int .i64 y.stamp) ∧ W.cell? ⟨b, q + 4, none⟩ = some (.int .i64 y.lib) ∧ W.cell? ⟨b, q + 5, none⟩ = some (.slice ya yn yc)) (hcap : rc = 1) (s0n : ByteArray) (HD0 : ∀ W, Below w.heap.size w W → Calls Tryz.prog 55 #[.agg #[.int .i64 y.kind, .int .i64 y.n, .string y.name, .int .i64 y.stamp, .int .i64 y.lib, .slice ya yn yc]] W fun e w' => Below W.heap.size W w' ∧ e = .returned (.string s0n)) (HG0 : ∀ W, BT B w W → PS B pb f1 f2 f3 { lib0 with name := s0n } W → Calls Tryz.prog 56 #[.pointer (some ⟨pb, 0, none⟩), .slice (some ⟨b, q, none⟩) 0 0] W (ToldP B pb f1 f2 f3 r W)) :
 Calls Tryz.prog 29 #[.pointer (some ⟨pb, 0, none⟩), .agg #[.int .i64 d.kind, .int .i64 d.n, .string d.name, .int .i64 d.stamp, .int .i64 d.lib, .slice a kn cap]] w (ToldL B pb f1 f2 f3 r w) := by
 obtain ⟨W0, hw0, HB0, HP0, HBB, HPB, HRB, y0, y1, y2, y3, y4, y5⟩ := e29 d a kn cap hpb hB0 hp
 clear hp hpb hB0
 have ke : (nm.toList == bLibrary.toList) = true := by rw [hn]; simp
 unfold bLibrary at ke
 have me : (nm.toList == [108, 105, 98, 114, 97, 114, 121]) = true := by simpa using ke
 clear hn
 subst hcap
 obtain rfl : rn = 1 := by omega
 subst hra
 have HYC := hidd HY0
 have HYS := hidd (must_yes 2)
 clear HY0
 have HRN : Hid (w.heap[w.heap.size + 1]? = none) := by show _ = _; simp
 have HF := hidd HF0
 have HD := hidd HD0
 have HG := hidd HG0
 clear HF0 HD0 HG0
 go_enter Tryz.func29, Tryz.ntmps29
 go_wp2_with fail
 refine (HF.out W0 HB0.out).mono ?_
 rintro e w1 ⟨hb1, rfl⟩
 have HB1 : Hid (BT B w w1) := (HB0.out.trans (hb1.mono HB0.out.size)).bt HBB.out
 have HBW : Hid (Below w.heap.size w w1) := HB0.out.trans (hb1.mono HB0.out.size)
 have HP1 : Hid (PS B pb f1 f2 f3 lib0 w1 ∧ w1.heap[w.heap.size + 1]? = some (.cells #[.string ⟨#[]⟩, .slice none 0 0, .slice none 0 0, .slice none 0 0] 30 (0, 0))) := ⟨HP0.out.below hb1, (hb1.block _ (Array.getElem?_eq_some_iff.1 HRB.out).1).trans HRB.out⟩
 clear hb1 y0 y1 y2 y3 y4 y5 hw0 HF
 obtain ⟨z0, z1, z2, z3, z4, z5⟩ := HYC.out w1 HBW.out
 go_wp2_with fail
 refine (HYS.out _).mono ?_
 rintro e w2 ⟨rfl, hw2⟩
 rw [hw2]
 clear hw2
 go_wp2_with fail
 refine (HD.out w1 HBW.out).mono ?_
 rintro e w3 ⟨hb3, rfl⟩
 have HB3 : Hid (BT B w w3) := HB1.out.trans (hb3.bt HP1.out.1.hs)
 have hp3 := HP1.out.1.below hb3
 have hr3 := (hb3.block _ (Array.getElem?_eq_some_iff.1 HP1.out.2).1).trans HP1.out.2
 have HP4 : Hid (PS B pb f1 f2 f3 { lib0 with name := s0n } (w3.setCell ⟨pb, 3, none⟩ (.string s0n)) ∧ BT B w3 (w3.setCell ⟨pb, 3, none⟩ (.string s0n))) := hp3.named s0n
 have HRY : Hid ((w3.setCell ⟨pb, 3, none⟩ (.string s0n)).heap[w.heap.size + 1]? = some (.cells #[.string ⟨#[]⟩, .slice none 0 0, .slice none 0 0, .slice none 0 0] 30 (0, 0))) := HP4.out.2.ty _ _ hr3
 obtain ⟨is, es, ev, iv, bv, h1, _⟩ := hp3
 have p3 : w3.cell? ⟨pb, 3, none⟩ = some (.string ⟨#[]⟩) := (cellO h1.blk).trans rfl
 have t3 : w3.frozen? ⟨pb, 3, none⟩ = false := looseO h1.blk
 clear hb3 h1 hr3 z0 z1 z2 z3 z4 z5
 go_wp2_with fail
 refine (HG.out (w3.setCell ⟨pb, 3, none⟩ (.string s0n)) (HB3.out.trans HP4.out.2) HP4.out.1).mono ?_
 rintro e wz ⟨hb4, hr⟩
 have HBZ : Hid (BT B w wz) := (HB3.out.trans HP4.out.2).trans hb4
 have HRZ : Hid (wz.heap[w.heap.size + 1]? = some (.cells #[.string ⟨#[]⟩, .slice none 0 0, .slice none 0 0, .slice none 0 0] 30 (0, 0))) := hb4.ty _ _ HRY.out
 clear hb4
 clear p3 t3
 cases r with
 | no x =>
  have hr' : e = .panicked (thrownL x) := hr
  subst hr'
  clear hr
  go_wp2_with fail
  exact ⟨rfl, HBZ.out, rfl⟩
 | ok s =>
  have hr' : e = .returned (.tuple #[]) ∧ PS B pb f1 f2 f3 s wz := hr
  obtain ⟨rfl, is, es, ev, iv, bv, h1, h2, h3⟩ := hr'
  obtain ⟨ea, ec, rfl, _⟩ := own_sliceL h1.eo
  obtain ⟨ia, ic, rfl, _⟩ := own_sliceL h1.io
  obtain ⟨ba, bc, rfl, _⟩ := own_sliceL h1.bo
  have p3 : wz.cell? ⟨pb, 3, none⟩ = some (.string s.name) := (cellO h1.blk).trans rfl
  have p4 : wz.cell? ⟨pb, 4, none⟩ = some (.slice ea s.exports.length ec) := (cellO h1.blk).trans rfl
  have p5 : wz.cell? ⟨pb, 5, none⟩ = some (.slice ia is.length ic) := (cellO h1.blk).trans rfl
  have p6 : wz.cell? ⟨pb, 6, none⟩ = some (.slice ba es.length bc) := (cellO h1.blk).trans rfl
  have r0 : wz.cell? ⟨w.heap.size + 1, 0, none⟩ = some (.string ⟨#[]⟩) := (cellO HRZ.out).trans rfl
  have r1 : wz.cell? ⟨w.heap.size + 1, 1, none⟩ = some (.slice none 0 0) := (cellO HRZ.out).trans rfl
  have r2 : wz.cell? ⟨w.heap.size + 1, 2, none⟩ = some (.slice none 0 0) := (cellO HRZ.out).trans rfl
  have r3 : wz.cell? ⟨w.heap.size + 1, 3, none⟩ = some (.slice none 0 0) := (cellO HRZ.out).trans rfl
  have s0 := looseO (q := 0) HRZ.out
  have s1 := looseO (q := 1) HRZ.out
  have s2 := looseO (q := 2) HRZ.out
  have s3 := looseO (q := 3) HRZ.out
  have HX : Hid (PSx B pb f1 f2 f3 s.name s.exports is es (.slice ea s.exports.length ec) (.slice ia is.length ic) (.slice ba es.length bc) wz ∧ is.map IE.s = s.imports ∧ es.map (·.1) = s.body) := ⟨h1, h2, h3⟩
  clear h1 h2 h3 hr
  go_wp2_with fail
  have hk := set4 HRZ.out (.string s.name) (.slice ea s.exports.length ec) (.slice ia is.length ic) (.slice ba es.length bc)
  have hend := end_box HX.out.1 HRZ.out (.string s.name) (.slice ea s.exports.length ec) (.slice ia is.length ic) (.slice ba es.length bc) (show B ≤ w.heap.size + 1 by have := HBB.out; omega) HPB.out
  generalize ((((wz.setCell ⟨w.heap.size + 1, 0, none⟩ (.string s.name)).setCell ⟨w.heap.size + 1, 1, none⟩ (.slice ea s.exports.length ec)).setCell ⟨w.heap.size + 1, 2, none⟩ (.slice ia is.length ic)).setCell ⟨w.heap.size + 1, 3, none⟩ (.slice ba es.length bc)) = Wf at hk hend ⊢
  have k0 : Wf.cell? ⟨w.heap.size + 1, 0, none⟩ = some (.string s.name) := (cellO hk).trans rfl
  have k1 : Wf.cell? ⟨w.heap.size + 1, 1, none⟩ = some (.slice ea s.exports.length ec) := (cellO hk).trans rfl
  have k2 : Wf.cell? ⟨w.heap.size + 1, 2, none⟩ = some (.slice ia is.length ic) := (cellO hk).trans rfl
  have k3 : Wf.cell? ⟨w.heap.size + 1, 3, none⟩ = some (.slice ba es.length bc) := (cellO hk).trans rfl
  refine bodyPost_ret (v := .agg #[.string s.name, .slice ea s.exports.length ec, .slice ia is.length ic, .slice ba es.length bc]) (by simp [results, Tryz.results29, go_sem, k0, k1, k2, k3]) rfl ⟨HBZ.out.over hend.2 HRN.out, _, rfl, is, es, _, _, _, rfl, hend.1, HX.out.2⟩
theorem all_lib_more (B pb : Nat) (f1 f2 f3 : Value) (r : Er LibS) (d : Dat) (a : Option Addr) (kn cap : Nat) (w : World) (hpb : w.heap.size = pb + 1) (hB0 : B ≤ pb) (hp : ∀ W, Below w.heap.size w W → pb + 2 < W.heap.size → PS B pb f1 f2 f3 lib0 W) (nm : ByteArray) (ra : Option Addr) (rn rc : Nat) (HF0 : ∀ W, Below w.heap.size w W → Calls Tryz.prog 53 #[.agg #[.int .i64 d.kind, .int .i64 d.n, .string d.name, .int .i64 d.stamp, .int .i64 d.lib, .slice a kn cap]] W fun e w' => Below W.heap.size W w' ∧ e = .returned (.tuple #[.string nm, .slice ra rn rc])) (hn : nm = bLibrary) (b q : Nat) (y : Dat) (ya : Option Addr) (yn yc : Nat) (hra : ra = some ⟨b, q, none⟩) (h0 : 0 < rn) (hrc : rn ≤ rc) (HY0 : ∀ W, Below w.heap.size w W → W.cell? ⟨b, q, none⟩ = some (.int .i64 y.kind) ∧ W.cell? ⟨b, q + 1, none⟩ = some (.int .i64 y.n) ∧ W.cell? ⟨b, q + 2, none⟩ = some (.string y.name) ∧ W.cell? ⟨b, q + 3, none⟩ = some (.int .i64 y.stamp) ∧ W.cell? ⟨b, q + 4, none⟩ = some (.int .i64 y.lib) ∧ W.cell? ⟨b, q + 5, none⟩ = some (.slice ya yn yc)) (hcap : ¬ rc = 1) (s0n : ByteArray) (HD0 : ∀ W, Below w.heap.size w W → Calls Tryz.prog 55 #[.agg #[.int .i64 y.kind, .int .i64 y.n, .string y.name, .int .i64 y.stamp, .int .i64 y.lib, .slice ya yn yc]] W fun e w' => Below W.heap.size W w' ∧ e = .returned (.string s0n)) (HG0 : ∀ W, BT B w W → PS B pb f1 f2 f3 { lib0 with name := s0n } W → Calls Tryz.prog 56 #[.pointer (some ⟨pb, 0, none⟩), .slice (some ⟨b, q + 6, none⟩) (rn - 1) (rc - 1)] W (ToldP B pb f1 f2 f3 r W)) :
 Calls Tryz.prog 29 #[.pointer (some ⟨pb, 0, none⟩), .agg #[.int .i64 d.kind, .int .i64 d.n, .string d.name, .int .i64 d.stamp, .int .i64 d.lib, .slice a kn cap]] w (ToldL B pb f1 f2 f3 r w) := by
 obtain ⟨W0, hw0, HB0, HP0, HBB, HPB, HRB, y0, y1, y2, y3, y4, y5⟩ := e29 d a kn cap hpb hB0 hp
 clear hp hpb hB0
 have ke : (nm.toList == bLibrary.toList) = true := by rw [hn]; simp
 unfold bLibrary at ke
 have me : (nm.toList == [108, 105, 98, 114, 97, 114, 121]) = true := by simpa using ke
 clear hn
 subst hra
 have j0 : decide ((0 : Int) < (rn : Int)) = true := by simp; omega
 have j1 : (0 : Int) < (rn : Int) := by omega
 have j2 : (1 : Int) ≤ (rn : Int) := by omega
 have j3 : (rn : Int) ≤ (rc : Int) := by omega
 have HYC := hidd HY0
 have HYS := hidd (must_yes 2)
 clear HY0
 have HRN : Hid (w.heap[w.heap.size + 1]? = none) := by show _ = _; simp
 have HF := hidd HF0
 have HD := hidd HD0
 have HG := hidd HG0
 clear HF0 HD0 HG0
 go_enter Tryz.func29, Tryz.ntmps29
 go_wp2_with fail
 refine (HF.out W0 HB0.out).mono ?_
 rintro e w1 ⟨hb1, rfl⟩
 have HB1 : Hid (BT B w w1) := (HB0.out.trans (hb1.mono HB0.out.size)).bt HBB.out
 have HBW : Hid (Below w.heap.size w w1) := HB0.out.trans (hb1.mono HB0.out.size)
 have HP1 : Hid (PS B pb f1 f2 f3 lib0 w1 ∧ w1.heap[w.heap.size + 1]? = some (.cells #[.string ⟨#[]⟩, .slice none 0 0, .slice none 0 0, .slice none 0 0] 30 (0, 0))) := ⟨HP0.out.below hb1, (hb1.block _ (Array.getElem?_eq_some_iff.1 HRB.out).1).trans HRB.out⟩
 clear hb1 y0 y1 y2 y3 y4 y5 hw0 HF
 obtain ⟨z0, z1, z2, z3, z4, z5⟩ := HYC.out w1 HBW.out
 go_wp2_with fail
 refine (HYS.out _).mono ?_
 rintro e w2 ⟨rfl, hw2⟩
 rw [hw2]
 clear hw2
 go_wp2_with fail
 refine (HD.out w1 HBW.out).mono ?_
 rintro e w3 ⟨hb3, rfl⟩
 have HB3 : Hid (BT B w w3) := HB1.out.trans (hb3.bt HP1.out.1.hs)
 have hp3 := HP1.out.1.below hb3
 have hr3 := (hb3.block _ (Array.getElem?_eq_some_iff.1 HP1.out.2).1).trans HP1.out.2
 have HP4 : Hid (PS B pb f1 f2 f3 { lib0 with name := s0n } (w3.setCell ⟨pb, 3, none⟩ (.string s0n)) ∧ BT B w3 (w3.setCell ⟨pb, 3, none⟩ (.string s0n))) := hp3.named s0n
 have HRY : Hid ((w3.setCell ⟨pb, 3, none⟩ (.string s0n)).heap[w.heap.size + 1]? = some (.cells #[.string ⟨#[]⟩, .slice none 0 0, .slice none 0 0, .slice none 0 0] 30 (0, 0))) := HP4.out.2.ty _ _ hr3
 obtain ⟨is, es, ev, iv, bv, h1, _⟩ := hp3
 have p3 : w3.cell? ⟨pb, 3, none⟩ = some (.string ⟨#[]⟩) := (cellO h1.blk).trans rfl
 have t3 : w3.frozen? ⟨pb, 3, none⟩ = false := looseO h1.blk
 clear hb3 h1 hr3 z0 z1 z2 z3 z4 z5
 go_wp2_with fail
 refine (HG.out (w3.setCell ⟨pb, 3, none⟩ (.string s0n)) (HB3.out.trans HP4.out.2) HP4.out.1).mono ?_
 rintro e wz ⟨hb4, hr⟩
 have HBZ : Hid (BT B w wz) := (HB3.out.trans HP4.out.2).trans hb4
 have HRZ : Hid (wz.heap[w.heap.size + 1]? = some (.cells #[.string ⟨#[]⟩, .slice none 0 0, .slice none 0 0, .slice none 0 0] 30 (0, 0))) := hb4.ty _ _ HRY.out
 clear hb4
 clear p3 t3
 cases r with
 | no x =>
  have hr' : e = .panicked (thrownL x) := hr
  subst hr'
  clear hr
  go_wp2_with fail
  exact ⟨rfl, HBZ.out, rfl⟩
 | ok s =>
  have hr' : e = .returned (.tuple #[]) ∧ PS B pb f1 f2 f3 s wz := hr
  obtain ⟨rfl, is, es, ev, iv, bv, h1, h2, h3⟩ := hr'
  obtain ⟨ea, ec, rfl, _⟩ := own_sliceL h1.eo
  obtain ⟨ia, ic, rfl, _⟩ := own_sliceL h1.io
  obtain ⟨ba, bc, rfl, _⟩ := own_sliceL h1.bo
  have p3 : wz.cell? ⟨pb, 3, none⟩ = some (.string s.name) := (cellO h1.blk).trans rfl
  have p4 : wz.cell? ⟨pb, 4, none⟩ = some (.slice ea s.exports.length ec) := (cellO h1.blk).trans rfl
  have p5 : wz.cell? ⟨pb, 5, none⟩ = some (.slice ia is.length ic) := (cellO h1.blk).trans rfl
  have p6 : wz.cell? ⟨pb, 6, none⟩ = some (.slice ba es.length bc) := (cellO h1.blk).trans rfl
  have r0 : wz.cell? ⟨w.heap.size + 1, 0, none⟩ = some (.string ⟨#[]⟩) := (cellO HRZ.out).trans rfl
  have r1 : wz.cell? ⟨w.heap.size + 1, 1, none⟩ = some (.slice none 0 0) := (cellO HRZ.out).trans rfl
  have r2 : wz.cell? ⟨w.heap.size + 1, 2, none⟩ = some (.slice none 0 0) := (cellO HRZ.out).trans rfl
  have r3 : wz.cell? ⟨w.heap.size + 1, 3, none⟩ = some (.slice none 0 0) := (cellO HRZ.out).trans rfl
  have s0 := looseO (q := 0) HRZ.out
  have s1 := looseO (q := 1) HRZ.out
  have s2 := looseO (q := 2) HRZ.out
  have s3 := looseO (q := 3) HRZ.out
  have HX : Hid (PSx B pb f1 f2 f3 s.name s.exports is es (.slice ea s.exports.length ec) (.slice ia is.length ic) (.slice ba es.length bc) wz ∧ is.map IE.s = s.imports ∧ es.map (·.1) = s.body) := ⟨h1, h2, h3⟩
  clear h1 h2 h3 hr
  go_wp2_with fail
  have hk := set4 HRZ.out (.string s.name) (.slice ea s.exports.length ec) (.slice ia is.length ic) (.slice ba es.length bc)
  have hend := end_box HX.out.1 HRZ.out (.string s.name) (.slice ea s.exports.length ec) (.slice ia is.length ic) (.slice ba es.length bc) (show B ≤ w.heap.size + 1 by have := HBB.out; omega) HPB.out
  generalize ((((wz.setCell ⟨w.heap.size + 1, 0, none⟩ (.string s.name)).setCell ⟨w.heap.size + 1, 1, none⟩ (.slice ea s.exports.length ec)).setCell ⟨w.heap.size + 1, 2, none⟩ (.slice ia is.length ic)).setCell ⟨w.heap.size + 1, 3, none⟩ (.slice ba es.length bc)) = Wf at hk hend ⊢
  have k0 : Wf.cell? ⟨w.heap.size + 1, 0, none⟩ = some (.string s.name) := (cellO hk).trans rfl
  have k1 : Wf.cell? ⟨w.heap.size + 1, 1, none⟩ = some (.slice ea s.exports.length ec) := (cellO hk).trans rfl
  have k2 : Wf.cell? ⟨w.heap.size + 1, 2, none⟩ = some (.slice ia is.length ic) := (cellO hk).trans rfl
  have k3 : Wf.cell? ⟨w.heap.size + 1, 3, none⟩ = some (.slice ba es.length bc) := (cellO hk).trans rfl
  refine bodyPost_ret (v := .agg #[.string s.name, .slice ea s.exports.length ec, .slice ia is.length ic, .slice ba es.length bc]) (by simp [results, Tryz.results29, go_sem, k0, k1, k2, k3]) rfl ⟨HBZ.out.over hend.2 HRN.out, _, rfl, is, es, _, _, _, rfl, hend.1, HX.out.2⟩
theorem all_prog (B pb : Nat) (f1 f2 f3 : Value) (r : Er LibS) (d : Dat) (a : Option Addr) (kn cap : Nat) (w : World) (hpb : w.heap.size = pb + 1) (hB0 : B ≤ pb) (hp : ∀ W, Below w.heap.size w W → pb + 2 < W.heap.size → PS B pb f1 f2 f3 lib0 W) (nm : ByteArray) (ra : Option Addr) (rn rc : Nat) (HF0 : ∀ W, Below w.heap.size w W → Calls Tryz.prog 53 #[.agg #[.int .i64 d.kind, .int .i64 d.n, .string d.name, .int .i64 d.stamp, .int .i64 d.lib, .slice a kn cap]] W fun e w' => Below W.heap.size W w' ∧ e = .returned (.tuple #[.string nm, .slice ra rn rc])) (hn0 : ¬ nm = bLibrary) (hn : nm = bProgram) (HG0 : ∀ W, BT B w W → PS B pb f1 f2 f3 lib0 W → Calls Tryz.prog 56 #[.pointer (some ⟨pb, 0, none⟩), .slice ra rn rc] W (ToldP B pb f1 f2 f3 r W)) :
 Calls Tryz.prog 29 #[.pointer (some ⟨pb, 0, none⟩), .agg #[.int .i64 d.kind, .int .i64 d.n, .string d.name, .int .i64 d.stamp, .int .i64 d.lib, .slice a kn cap]] w (ToldL B pb f1 f2 f3 r w) := by
 obtain ⟨W0, hw0, HB0, HP0, HBB, HPB, HRB, y0, y1, y2, y3, y4, y5⟩ := e29 d a kn cap hpb hB0 hp
 clear hp hpb hB0
 have k0 : (nm.toList == bLibrary.toList) = false := beqS_ne hn0
 unfold bLibrary at k0
 have m0 : (nm.toList == [108, 105, 98, 114, 97, 114, 121]) = false := by simpa using k0
 have ke : (nm.toList == bProgram.toList) = true := by rw [hn]; simp
 unfold bProgram at ke
 have me : (nm.toList == [112, 114, 111, 103, 114, 97, 109]) = true := by simpa using ke
 clear hn0 hn
 have HRN : Hid (w.heap[w.heap.size + 1]? = none) := by show _ = _; simp
 have HF := hidd HF0
 have HG := hidd HG0
 clear HF0 HG0
 go_enter Tryz.func29, Tryz.ntmps29
 go_wp2_with fail
 refine (HF.out W0 HB0.out).mono ?_
 rintro e w1 ⟨hb1, rfl⟩
 have HB1 : Hid (BT B w w1) := (HB0.out.trans (hb1.mono HB0.out.size)).bt HBB.out
 have HBW : Hid (Below w.heap.size w w1) := HB0.out.trans (hb1.mono HB0.out.size)
 have HP1 : Hid (PS B pb f1 f2 f3 lib0 w1 ∧ w1.heap[w.heap.size + 1]? = some (.cells #[.string ⟨#[]⟩, .slice none 0 0, .slice none 0 0, .slice none 0 0] 30 (0, 0))) := ⟨HP0.out.below hb1, (hb1.block _ (Array.getElem?_eq_some_iff.1 HRB.out).1).trans HRB.out⟩
 clear hb1 y0 y1 y2 y3 y4 y5 hw0 HF
 have HRY := hidd HP1.out.2
 go_wp2_with fail
 refine (HG.out w1 HB1.out HP1.out.1).mono ?_
 rintro e wz ⟨hb4, hr⟩
 have HBZ : Hid (BT B w wz) := HB1.out.trans hb4
 have HRZ : Hid (wz.heap[w.heap.size + 1]? = some (.cells #[.string ⟨#[]⟩, .slice none 0 0, .slice none 0 0, .slice none 0 0] 30 (0, 0))) := hb4.ty _ _ HRY.out
 clear hb4
 cases r with
 | no x =>
  have hr' : e = .panicked (thrownL x) := hr
  subst hr'
  clear hr
  go_wp2_with fail
  exact ⟨rfl, HBZ.out, rfl⟩
 | ok s =>
  have hr' : e = .returned (.tuple #[]) ∧ PS B pb f1 f2 f3 s wz := hr
  obtain ⟨rfl, is, es, ev, iv, bv, h1, h2, h3⟩ := hr'
  obtain ⟨ea, ec, rfl, _⟩ := own_sliceL h1.eo
  obtain ⟨ia, ic, rfl, _⟩ := own_sliceL h1.io
  obtain ⟨ba, bc, rfl, _⟩ := own_sliceL h1.bo
  have p3 : wz.cell? ⟨pb, 3, none⟩ = some (.string s.name) := (cellO h1.blk).trans rfl
  have p4 : wz.cell? ⟨pb, 4, none⟩ = some (.slice ea s.exports.length ec) := (cellO h1.blk).trans rfl
  have p5 : wz.cell? ⟨pb, 5, none⟩ = some (.slice ia is.length ic) := (cellO h1.blk).trans rfl
  have p6 : wz.cell? ⟨pb, 6, none⟩ = some (.slice ba es.length bc) := (cellO h1.blk).trans rfl
  have r0 : wz.cell? ⟨w.heap.size + 1, 0, none⟩ = some (.string ⟨#[]⟩) := (cellO HRZ.out).trans rfl
  have r1 : wz.cell? ⟨w.heap.size + 1, 1, none⟩ = some (.slice none 0 0) := (cellO HRZ.out).trans rfl
  have r2 : wz.cell? ⟨w.heap.size + 1, 2, none⟩ = some (.slice none 0 0) := (cellO HRZ.out).trans rfl
  have r3 : wz.cell? ⟨w.heap.size + 1, 3, none⟩ = some (.slice none 0 0) := (cellO HRZ.out).trans rfl
  have s0 := looseO (q := 0) HRZ.out
  have s1 := looseO (q := 1) HRZ.out
  have s2 := looseO (q := 2) HRZ.out
  have s3 := looseO (q := 3) HRZ.out
  have HX : Hid (PSx B pb f1 f2 f3 s.name s.exports is es (.slice ea s.exports.length ec) (.slice ia is.length ic) (.slice ba es.length bc) wz ∧ is.map IE.s = s.imports ∧ es.map (·.1) = s.body) := ⟨h1, h2, h3⟩
  clear h1 h2 h3 hr
  go_wp2_with fail
  have hk := set4 HRZ.out (.string s.name) (.slice ea s.exports.length ec) (.slice ia is.length ic) (.slice ba es.length bc)
  have hend := end_box HX.out.1 HRZ.out (.string s.name) (.slice ea s.exports.length ec) (.slice ia is.length ic) (.slice ba es.length bc) (show B ≤ w.heap.size + 1 by have := HBB.out; omega) HPB.out
  generalize ((((wz.setCell ⟨w.heap.size + 1, 0, none⟩ (.string s.name)).setCell ⟨w.heap.size + 1, 1, none⟩ (.slice ea s.exports.length ec)).setCell ⟨w.heap.size + 1, 2, none⟩ (.slice ia is.length ic)).setCell ⟨w.heap.size + 1, 3, none⟩ (.slice ba es.length bc)) = Wf at hk hend ⊢
  have k0 : Wf.cell? ⟨w.heap.size + 1, 0, none⟩ = some (.string s.name) := (cellO hk).trans rfl
  have k1 : Wf.cell? ⟨w.heap.size + 1, 1, none⟩ = some (.slice ea s.exports.length ec) := (cellO hk).trans rfl
  have k2 : Wf.cell? ⟨w.heap.size + 1, 2, none⟩ = some (.slice ia is.length ic) := (cellO hk).trans rfl
  have k3 : Wf.cell? ⟨w.heap.size + 1, 3, none⟩ = some (.slice ba es.length bc) := (cellO hk).trans rfl
  refine bodyPost_ret (v := .agg #[.string s.name, .slice ea s.exports.length ec, .slice ia is.length ic, .slice ba es.length bc]) (by simp [results, Tryz.results29, go_sem, k0, k1, k2, k3]) rfl ⟨HBZ.out.over hend.2 HRN.out, _, rfl, is, es, _, _, _, rfl, hend.1, HX.out.2⟩
end Go.Proofs.YtonafbennobgdaaGreatDoor
