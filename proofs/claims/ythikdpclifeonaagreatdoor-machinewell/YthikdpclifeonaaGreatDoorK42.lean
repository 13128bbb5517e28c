/- Chapter 11: the machine in memory goes on: what each change leaves. Chapter 11: who called waits; a row of parameters more. -/
import Derived.Test.YthikdpclifeonaaGreatDoorK39
import Derived.Test.YthikdpclifeonaaGreatDoorK40
import Derived.Test.YthikdpclifeonaaGreatDoorK41
namespace Go.Proofs.YthikdpclifeonaaGreatDoor.V
section
set_option linter.unusedVariables false
set_option linter.unusedSimpArgs false
open Go.RowKit
open Go.Proofs.YthikdpclifeonaaGreatDoor

theorem MRow.none (m : Mm) (w : World) : MRow m w none := fun g hg => by cases hg
theorem km_block {rb : Nat} {w w' : World} (hk : KM rb none w w') {k : Nat} (h1 : k < w.heap.size) (h2 : k ≠ rb) : w'.heap[k]? = w.heap[k]? := hk.block k h1 h2 (by simp)
theorem own_rb {w : World} {B rb n sz : Nat} {t : TypeId} {v tv : Value} {xs : List Value} {gb : Rc} (h : w.ownsRow B t sz v n xs) (hr : RN rb tv gb w) (ht : t ≠ 65) : ∀ g, v.ownBlock = some g → g ≠ rb := by
  rintro g hg rfl
  obtain ⟨_, _, cs, hc⟩ := own_type h g hg
  rw [show w.heap[g]? = _ from hr] at hc
  simp only [Option.some.injEq, Obj.cells.injEq] at hc
  exact ht hc.2.1.symm
/-- Where only the runner's own cells change. -/
theorem MR.cell {B rb T : Nat} {PP : List Pro} {G : Nat} {gb gb' : Rc} {m : Mm} {c d : Mc} {w w' : World} (h : MR B rb T PP G gb m c w) (hk : KM rb none w w') (hr : ∀ tv, RN rb tv gb w → RN rb tv gb' w') (hp : gb'.pb = gb.pb ∧ gb'.po = gb.po ∧ gb'.protos = gb.protos ∧ gb'.globals = gb.globals)
    (e1 : d.st = c.st) (e2 : d.glob = c.glob)
    (pl' : On B m m c.st c.st w w' → (∀ k, k < w.heap.size → k ≠ rb → w'.heap[k]? = w.heap[k]?) → PlV B PP w' m c.st.rows (d.p, d.next, d.env) gb'.code gb'.next gb'.around)
    (st' : (∀ k, k < w.heap.size → k ≠ rb → w'.heap[k]? = w.heap[k]?) → StkM B m gb'.stack d.stack w') (sg' : ∀ g, gb'.stack.ownBlock = some g → g ≠ G)
    (ca' : On B m m c.st c.st w w' → (∀ k, k < w.heap.size → k ≠ rb → w'.heap[k]? = w.heap[k]?) → CaM B PP m c.st.rows gb'.calls d.calls w') (lf' : gb'.left = .int .i64 (d.left : Int)) : MR B rb T PP G gb' m d w' ∧ Bel B w w' := by
  obtain ⟨r, o⟩ := h.km (gb' := gb') hk (MRow.none m w) (fun g hg => by cases hg) ⟨hp.1, hp.2.1⟩ hr
  have hb : ∀ k, k < w.heap.size → k ≠ rb → w'.heap[k]? = w.heap[k]? := fun k h1 h2 => km_block hk h1 h2
  obtain ⟨tv, hR⟩ := h.rn
  have hG : G ≠ rb := by
    rintro rfl
    have := h.gl.blk
    rw [show w.heap[G]? = _ from hR] at this
    simp at this
  obtain ⟨pc, hpc⟩ := h.pr
  obtain ⟨gc, hgc⟩ := h.gs
  refine ⟨⟨by rw [e1]; exact r, h.tab.below (o.below.mono h.hT), h.hT, by rw [hp.1, hp.2.1]; exact h.pv.below o.below, ⟨pc, by rw [hp.2.2.1, hp.1, hp.2.1]; exact hpc⟩, by rw [e1]; exact pl' o hb, st' hb, by rw [e1]; exact ca' o hb, by rw [e2]; exact h.gl.on (New.refl m w) (hb G h.gl.lt hG), ⟨gc, by rw [hp.2.2.2, e2]; exact hgc⟩, sg', lf'⟩, o.bel⟩
/-- The pieces that stay. -/
theorem MR.st0 {B rb T : Nat} {PP : List Pro} {G : Nat} {gb : Rc} {m : Mm} {c : Mc} {w w' : World} (h : MR B rb T PP G gb m c w) (hb : ∀ k, k < w.heap.size → k ≠ rb → w'.heap[k]? = w.heap[k]?) : StkM B m gb.stack c.stack w' := by
  obtain ⟨tv, hR⟩ := h.rn
  exact h.st.on (New.refl m w) (fun g hg => hb g (own_type h.st.own g hg).2.1 (own_rb h.st.own hR (by decide) g hg))
theorem MR.ca0 {B rb T : Nat} {PP : List Pro} {G : Nat} {gb : Rc} {m : Mm} {c : Mc} {w w' : World} (h : MR B rb T PP G gb m c w) (o : On B m m c.st c.st w w') (hb : ∀ k, k < w.heap.size → k ≠ rb → w'.heap[k]? = w.heap[k]?) : CaM B PP m c.st.rows gb.calls c.calls w' := by
  obtain ⟨tv, hR⟩ := h.rn
  obtain ⟨vs, h1, h2⟩ := h.ca
  exact ⟨vs, own_keep h1 (fun g hg => hb g (own_type h1 g hg).2.1 (own_rb h1 hR (by decide) g hg)), h2.on o⟩
theorem RN.setC {rb q : Nat} {tv v : Value} {gb : Rc} {w : World} (h : RN rb tv gb w) : (w.setCell ⟨rb, q, none⟩ v).heap[rb]? = some (.cells (#[tv, gb.stack, gb.code, gb.next, gb.around, gb.calls, gb.protos, gb.globals, gb.left].setIfInBounds q v) 65 (0, 0)) := cell_setV h v
theorem RN.set2 {rb : Nat} {tv : Value} {gb : Rc} {w : World} (h : RN rb tv gb w) (v : Value) : RN rb tv { gb with code := v } (w.setCell ⟨rb, 2, none⟩ v) := by
  show (w.setCell ⟨rb, 2, none⟩ v).heap[rb]? = _
  rw [h.setC]; rfl
theorem RN.set3 {rb : Nat} {tv : Value} {gb : Rc} {w : World} (h : RN rb tv gb w) (v : Value) : RN rb tv { gb with next := v } (w.setCell ⟨rb, 3, none⟩ v) := by
  show (w.setCell ⟨rb, 3, none⟩ v).heap[rb]? = _
  rw [h.setC]; rfl
theorem RN.set4 {rb : Nat} {tv : Value} {gb : Rc} {w : World} (h : RN rb tv gb w) (v : Value) : RN rb tv { gb with around := v } (w.setCell ⟨rb, 4, none⟩ v) := by
  show (w.setCell ⟨rb, 4, none⟩ v).heap[rb]? = _
  rw [h.setC]; rfl
theorem RN.set5 {rb : Nat} {tv : Value} {gb : Rc} {w : World} (h : RN rb tv gb w) (v : Value) : RN rb tv { gb with calls := v } (w.setCell ⟨rb, 5, none⟩ v) := by
  show (w.setCell ⟨rb, 5, none⟩ v).heap[rb]? = _
  rw [h.setC]; rfl
theorem RN.set8 {rb : Nat} {tv : Value} {gb : Rc} {w : World} (h : RN rb tv gb w) (v : Value) : RN rb tv { gb with left := v } (w.setCell ⟨rb, 8, none⟩ v) := by
  show (w.setCell ⟨rb, 8, none⟩ v).heap[rb]? = _
  rw [h.setC]; rfl
theorem RN.drewN {rb n : Nat} {tv : Value} {gb : Rc} {w : World} (h : RN rb tv gb w) : RN rb tv gb (w.drewN n) := h
theorem KM.refl (rb : Nat) (row : Option Nat) (w : World) : KM rb row w w := KM.ofBelow (Below.refl _ _)
theorem KM.set {rb q : Nat} {w w' : World} (h : KM rb none w w') (v : Value) : KM rb none w (w'.setCell ⟨rb, q, none⟩ v) := h.trans (KM.ofSet (row := none) v) (fun g hg => by cases hg)
theorem KM.drewN {rb n : Nat} {w w' : World} (h : KM rb none w w') : KM rb none w (w'.drewN n) := h.trans (KM.ofBelow (row := none) (below_drewN (Below.refl _ _) _)) (fun g hg => by cases hg)
/-- A step is counted. -/
theorem MR.count {B rb T : Nat} {PP : List Pro} {G : Nat} {gb : Rc} {m : Mm} {c : Mc} {w : World} (h : MR B rb T PP G gb m c w) (hl : c.left ≠ 0) (nq : Nat) : ∃ gb', MR B rb T PP G gb' m { c with left := c.left - 1, next := c.next + 1 } (W1 rb (c.left : Int) c.next nq w) ∧ Bel B w (W1 rb (c.left : Int) c.next nq w) ∧ gb'.code = gb.code ∧ gb'.stack = gb.stack ∧ gb'.around = gb.around ∧ gb'.pb = gb.pb ∧ gb'.po = gb.po ∧ gb'.globals = gb.globals ∧ gb'.protos = gb.protos ∧ gb'.calls = gb.calls := by
  refine ⟨{ gb with left := .int .i64 ((c.left : Int) - 1), next := .int .i64 ((c.next : Int) + 1) }, ?_⟩
  unfold W1
  obtain ⟨h1, h2⟩ := h.cell (gb' := { gb with left := .int .i64 ((c.left : Int) - 1), next := .int .i64 ((c.next : Int) + 1) }) (d := { c with left := c.left - 1, next := c.next + 1 }) (w' := ((w.setCell ⟨rb, 8, none⟩ (.int .i64 ((c.left : Int) - 1))).drewN nq).setCell ⟨rb, 3, none⟩ (.int .i64 ((c.next : Int) + 1))) (((KM.refl rb none w).set _).drewN.set _) (fun tv hR => ((hR.set8 _).drewN.set3 _)) ⟨rfl, rfl, rfl, rfl⟩ rfl rfl (fun o hb => by
      obtain ⟨z1, z2, z3⟩ := h.pl.on o
      exact ⟨z1, by simp, z3⟩) (fun hb => h.st0 hb) h.sg (fun o hb => h.ca0 o hb) (by simp; omega)
  exact ⟨h1, h2, rfl, rfl, rfl, rfl, rfl, rfl, rfl, rfl⟩
/-- It goes on elsewhere. -/
theorem MR.jump {B rb T : Nat} {PP : List Pro} {G : Nat} {gb : Rc} {m : Mm} {c : Mc} {w : World} (h : MR B rb T PP G gb m c w) (a : Nat) : ∃ gb', MR B rb T PP G gb' m { c with next := a } (w.setCell ⟨rb, 3, none⟩ (.int .i64 (a : Int))) ∧ Bel B w (w.setCell ⟨rb, 3, none⟩ (.int .i64 (a : Int))) :=
  ⟨{ gb with next := .int .i64 (a : Int) }, h.cell (d := { c with next := a }) ((KM.refl rb none w).set _) (fun tv hR => hR.set3 _) ⟨rfl, rfl, rfl, rfl⟩ rfl rfl (fun o hb => by
      obtain ⟨z1, z2, z3⟩ := h.pl.on o
      exact ⟨z1, rfl, z3⟩) (fun hb => h.st0 hb) h.sg (fun o hb => h.ca0 o hb) h.lf⟩
theorem own_less {w : World} {B g n k cap sz : Nat} {t : TypeId} {xs : List Value} (h : w.ownsRow B t sz (.slice (some ⟨g, 0, none⟩) (n + k) cap) (n + k) xs) : w.ownsRow B t sz (.slice (some ⟨g, 0, none⟩) n cap) n (xs.take (n * sz)) := by
  have hle : n * sz ≤ (n + k) * sz := Nat.mul_le_mul_right _ (by omega)
  refine ⟨by rw [List.length_take, h.1]; omega, ?_⟩
  rcases h.2 with ⟨h1, h2⟩ | ⟨g', cap', cur, h1, hb, hg, h3, h4, h5, h6⟩
  · cases h1
  · simp only [Value.slice.injEq, Option.some.injEq, Addr.mk.injEq, and_true, true_and] at h1
    obtain ⟨rfl, rfl⟩ := h1
    refine Or.inr ⟨g, cap, cur, rfl, hb, hg, by omega, h4, h5, ?_⟩
    rw [← h6, List.take_take, Nat.min_eq_left hle]
/-- Fewer values on the stack. -/
theorem StkM.less {B : Nat} {m : Mm} {g n cap : Nat} {s : List Val} {w : World} (h : StkM B m (.slice (some ⟨g, 0, none⟩) s.length cap) s w) (hn : n ≤ s.length) : StkM B m (.slice (some ⟨g, 0, none⟩) n cap) (s.take n) w := by
  obtain ⟨k, hk⟩ : ∃ k, s.length = n + k := ⟨s.length - n, by omega⟩
  have ho := h.own
  rw [hk] at ho
  refine ⟨?_, fun x hx => h.ok x (List.mem_of_mem_take hx), fun q hq => h.nr q hq⟩
  rw [List.length_take, Nat.min_eq_left hn, List.map_take]
  have := own_less ho
  rwa [Nat.mul_one] at this
/-- So many values are taken from the stack. -/
theorem MR.taken {B rb T : Nat} {PP : List Pro} {G : Nat} {gb : Rc} {m : Mm} {c : Mc} {w : World} (h : MR B rb T PP G gb m c w) {g n cap : Nat} (hg : gb.stack = .slice (some ⟨g, 0, none⟩) c.stack.length cap) (hn : n ≤ c.stack.length) : MR B rb T PP G { gb with stack := .slice (some ⟨g, 0, none⟩) n cap } m { c with stack := c.stack.take n } (w.setCell ⟨rb, 1, none⟩ (.slice (some ⟨g, 0, none⟩) n cap)) ∧ Bel B w (w.setCell ⟨rb, 1, none⟩ (.slice (some ⟨g, 0, none⟩) n cap)) := by
  have hst := h.st0 (w' := w.setCell ⟨rb, 1, none⟩ (.slice (some ⟨g, 0, none⟩) n cap)) (fun k hk1 hk2 => km_block ((KM.refl rb none w).set _) hk1 hk2)
  rw [hg] at hst
  exact h.cell (d := { c with stack := c.stack.take n }) ((KM.refl rb none w).set _) (fun tv hR => hR.set1 _) ⟨rfl, rfl, rfl, rfl⟩ rfl rfl (fun o hb => h.pl.on o) (fun hb => hst.less hn) (fun q hq => h.sg q (by rw [hg]; exact hq)) (fun o hb => h.ca0 o hb) h.lf
theorem KR.other {B rb : Nat} {gb : Rc} {m : Mm} {σ : St} {w w' : World} (h : KR B rb gb m w w') (r : Rel B rb gb m σ w) {k : Nat} {cs : Array Value} {t : TypeId} (hk : w.heap[k]? = some (.cells cs t (0, 0))) (h1 : t ≠ 65) (h2 : t ≠ 245) (h3 : t ≠ 155) (h4 : t ≠ 9) : w'.heap[k]? = some (.cells cs t (0, 0)) := by
  refine (h.block k (Array.getElem?_eq_some_iff.1 hk).1 ?_ trivial ?_ ?_ ?_).trans hk
  · obtain ⟨tv, hR, _⟩ := r.run
    rintro rfl
    rw [show w.heap[k]? = _ from hR] at hk
    simp only [Option.some.injEq, Obj.cells.injEq] at hk
    exact h1 hk.2.1.symm
  · intro hm
    obtain ⟨i, hi, e⟩ := List.getElem_of_mem hm
    obtain ⟨p, _, hp, _⟩ := r.lt (i := i) (k := k) (by rw [List.getElem?_eq_getElem hi, e])
    obtain ⟨ds, hd⟩ := hp.block
    rw [hd] at hk
    simp only [Option.some.injEq, Obj.cells.injEq] at hk
    exact h2 hk.2.1.symm
  · intro hm
    obtain ⟨i, hi, e⟩ := List.getElem_of_mem hm
    have hi' : i < σ.rows.length := by rw [← r.lr]; exact hi
    obtain ⟨_, c0, hx⟩ := r.rw i k _ (List.getElem?_eq_getElem hi') (by rw [List.getElem?_eq_getElem hi, e])
    rw [hx] at hk
    simp only [Option.some.injEq, Obj.cells.injEq] at hk
    exact h3 hk.2.1.symm
  · intro ds gz hx
    rw [hk] at hx
    simp only [Option.some.injEq, Obj.cells.injEq] at hx
    exact absurd hx.2.1 h4
/-- The store changes. -/
theorem MR.kr {B rb T : Nat} {PP : List Pro} {G : Nat} {gb : Rc} {m m' : Mm} {c : Mc} {s : St} {w w' : World} (h : MR B rb T PP G gb m c w) (hk : KR B rb gb m w w') (r : Rel B rb gb m' s w') (n : New m m' w) (rx : RX c.st s) : MR B rb T PP G gb m' { c with st := s } w' ∧ Bel B w w' := by
  have hB := hk.toBelow h.rel h.hs
  have o : On B m m' c.st s w w' := ⟨hB, fun k cs hc => hk.other h.rel hc (by decide) (by decide) (by decide) (by decide), n, rx, fun k cs hc => hk.other h.rel hc (by decide) (by decide) (by decide) (by decide)⟩
  obtain ⟨vs, h1, h2⟩ := h.ca
  refine ⟨⟨r, h.tab.below (hB.mono h.hT), h.hT, h.pv.below hB, h.pr, h.pl.on o, h.st.on n ?_, ⟨vs, own_keep h1 ?_, h2.on o⟩, h.gl.on n ?_, h.gs, h.sg, h.lf⟩, o.bel⟩
  · intro g hg
    obtain ⟨_, _, cs, hc⟩ := own_type h.st.own g hg
    exact (hk.row h.rel hc (h.st.nr g hg)).trans hc.symm
  · intro g hg
    obtain ⟨_, _, cs, hc⟩ := own_type h1 g hg
    exact (hk.other h.rel hc (by decide) (by decide) (by decide) (by decide)).trans hc.symm
  · exact (hk.row h.rel h.gl.blk h.gl.nr).trans h.gl.blk.symm
/-- A global changes. -/
theorem MR.glob {B rb T : Nat} {PP : List Pro} {G : Nat} {gb : Rc} {m : Mm} {c : Mc} {w : World} (h : MR B rb T PP G gb m c w) {a : Nat} {v : Val} (ha : a < c.glob.length) (hv : VOk m v) : MR B rb T PP G gb m { c with glob := c.glob.set a (some v) } (w.setCell ⟨G, a, none⟩ (vV m v)) ∧ Bel B w (w.setCell ⟨G, a, none⟩ (vV m v)) := by
  have hb : ∀ k, k ≠ G → (w.setCell ⟨G, a, none⟩ (vV m v)).heap[k]? = w.heap[k]? := fun k hk => Below.heap_setCell _ _ _ _ (by simpa using hk)
  have hB : Below B w (w.setCell ⟨G, a, none⟩ (vV m v)) := ⟨rfl, rfl, rfl, by simp, fun k hk => hb k (by have := h.gl.bG; omega)⟩
  have hx : KX m w (w.setCell ⟨G, a, none⟩ (vV m v)) := by
    intro k cs t hk ht
    refine (hb k ?_).trans hk
    rintro rfl
    rw [h.gl.blk] at hk
    simp only [Option.some.injEq, Obj.cells.injEq] at hk
    obtain ⟨_, rfl, _⟩ := hk
    simp at ht
    exact h.gl.nr ht
  obtain ⟨tv, hR⟩ := h.rn
  have hG : rb ≠ G := by
    rintro rfl
    have := h.gl.blk
    rw [show w.heap[rb]? = _ from hR] at this
    simp at this
  have r := h.rel.move (gb' := gb) hB ⟨rfl, rfl⟩ hx (fun tv hr => (hb rb hG).trans hr)
  have o : On B m m c.st c.st w (w.setCell ⟨G, a, none⟩ (vV m v)) := ⟨hB, fun k cs hc => hx k cs 114 hc (by simp), New.refl m w, RX.refl _, fun k cs hc => hx k cs 3 hc (by simp)⟩
  obtain ⟨vs, h1, h2⟩ := h.ca
  obtain ⟨gc, hgc⟩ := h.gs
  refine ⟨⟨r, h.tab.below (hB.mono h.hT), h.hT, h.pv.below hB, h.pr, h.pl.on o, h.st.on (New.refl m w) (fun g hg => hb g (h.sg g hg)), ⟨vs, own_keep h1 (fun g hg => hb g ?_), h2.on o⟩, ⟨?_, ?_, h.gl.nr, h.gl.bG⟩, ⟨gc, by simp [hgc]⟩, h.sg, h.lf⟩, o.bel⟩
  · rintro rfl
    obtain ⟨_, _, cs, hc⟩ := own_type h1 g hg
    rw [h.gl.blk] at hc
    simp at hc
  · rw [cell_setV h.gl.blk, List.map_set]
    simp [gV]
  · intro u hu
    rcases List.mem_or_eq_of_mem_set hu with q | q
    · exact h.gl.ok u q
    · simp at q
      subst q
      exact hv
end
section
set_option linter.unusedVariables false
set_option linter.unusedSimpArgs false
open Go.RowKit
open Go.Proofs.YthikdpclifeonaaGreatDoor

/-- Who called waits. -/
theorem MR.wait {B rb T : Nat} {PP : List Pro} {G : Nat} {gb : Rc} {m : Mm} {c : Mc} {w w4 : World} {tv v0 v1 v2 : Value} {vs : List Value} {g cap : Nat} (h : MR B rb T PP G gb m c w) (hR : RN rb tv gb w) (e0 : gb.code = v0) (e1 : gb.next = v1) (e2 : gb.around = v2) (hc1 : w.ownsRow B 62 3 gb.calls c.calls.length vs) (hc2 : CaV B PP w m c.st.rows c.calls vs)
    (hown : w4.ownsRow B 62 3 (.slice (some ⟨g, 0, none⟩) (c.calls.length + 1) cap) (c.calls.length + 1) (vs ++ [v0, v1, v2])) (hgrow : (w.alloc (.cells #[v0, v1, v2] 62)).drew.grownBy w4 gb.calls.ownBlock) :
    MR B rb T PP G { gb with calls := .slice (some ⟨g, 0, none⟩) (c.calls.length + 1) cap } m { c with calls := c.calls ++ [(c.p, c.next, c.env)] } (w4.setCell ⟨rb, 5, none⟩ (.slice (some ⟨g, 0, none⟩) (c.calls.length + 1) cap)).drew ∧ Bel B w (w4.setCell ⟨rb, 5, none⟩ (.slice (some ⟨g, 0, none⟩) (c.calls.length + 1) cap)).drew ∧ w.heap.size ≤ (w4.setCell ⟨rb, 5, none⟩ (.slice (some ⟨g, 0, none⟩) (c.calls.length + 1) cap)).drew.heap.size ∧ ∀ (k : Nat) (cs : Array Value) (t : TypeId), w.heap[k]? = some (.cells cs t (0, 0)) → t ≠ 65 → t ≠ 62 → (w4.setCell ⟨rb, 5, none⟩ (.slice (some ⟨g, 0, none⟩) (c.calls.length + 1) cap)).drew.heap[k]? = some (.cells cs t (0, 0)) := by
  have hba : Below w.heap.size w (w.alloc (.cells #[v0, v1, v2] 62)).drew := Below.drew ((Below.refl _ _).alloc (Nat.le_refl _) _)
  have hR4 : RN rb tv gb w4 := wait_rn hR hc1 hgrow
  obtain ⟨sl, hsl⟩ : ∃ sl : Value, sl = .slice (some ⟨g, 0, none⟩) (c.calls.length + 1) cap := ⟨_, rfl⟩
  rw [← hsl] at hown ⊢
  have hKM : KM rb gb.calls.ownBlock w (w4.setCell ⟨rb, 5, none⟩ sl).drew := by
    have k1 : KM rb gb.calls.ownBlock w (w4.setCell ⟨rb, 5, none⟩ sl) := (KM.trans (KM.ofBelow hba) (KM.ofGrown hgrow) (fun g hg => Or.inl hg)).trans (KM.ofSet (row := none) _) (fun g hg => by cases hg)
    exact k1.trans (KM.ofBelow (row := none) (Below.drew (Below.refl _ _))) (fun g hg => by cases hg)
  have hR5 : RN rb tv { gb with calls := sl } (w4.setCell ⟨rb, 5, none⟩ sl).drew := hR4.set5 sl
  have hrB : ∀ g, gb.calls.ownBlock = some g → B ≤ g := fun g hg => (own_type hc1 g hg).1
  have hmr : MRow m w gb.calls.ownBlock := fun q hq => by
    obtain ⟨_, _, cs, hc⟩ := own_type hc1 q hq
    exact Or.inr ⟨cs, hc⟩
  obtain ⟨r, o⟩ := h.km (gb' := { gb with calls := sl }) hKM hmr hrB ⟨rfl, rfl⟩ (fun tv' hr' => by rw [tv_same hR hr']; exact hR5)
  have hkeep : ∀ (k : Nat) (cs : Array Value) (t : TypeId), w.heap[k]? = some (.cells cs t (0, 0)) → t ≠ 65 → t ≠ 62 → (w4.setCell ⟨rb, 5, none⟩ sl).drew.heap[k]? = some (.cells cs t (0, 0)) := by
    intro k cs t hk ht1 ht2
    refine (hKM.block k (Array.getElem?_eq_some_iff.1 hk).1 ?_ ?_).trans hk
    · rintro rfl
      rw [show w.heap[k]? = _ from hR] at hk
      simp only [Option.some.injEq, Obj.cells.injEq] at hk
      exact ht1 hk.2.1.symm
    · intro e
      obtain ⟨_, _, ds, hd⟩ := own_type hc1 k e.symm
      rw [hd] at hk
      simp only [Option.some.injEq, Obj.cells.injEq] at hk
      exact ht2 hk.2.1.symm
  have plo := h.pl.on o
  rw [e0, e1, e2] at plo
  refine ⟨⟨r, h.tab.below (o.below.mono h.hT), h.hT, h.pv.below o.below, h.pr, h.pl.on o, h.st.on (New.refl m w) ?_, ⟨vs ++ [v0, v1, v2], ?_, CaV.snoc _ _ _ _ _ _ (hc2.on o) plo⟩, h.gl.on (New.refl m w) ?_, h.gs, h.sg, h.lf⟩, o.bel, hKM.size, hkeep⟩
  · intro q hq
    obtain ⟨_, _, cs, hc⟩ := own_type h.st.own q hq
    exact (hkeep q cs 155 hc (by decide) (by decide)).trans hc.symm
  · show (w4.setCell ⟨rb, 5, none⟩ sl).drew.ownsRow B 62 3 sl (c.calls ++ [(c.p, c.next, c.env)]).length (vs ++ [v0, v1, v2])
    rw [List.length_append]
    refine own_keep hown (fun q hq => ?_)
    show (w4.setCell ⟨rb, 5, none⟩ sl).heap[q]? = _
    exact Below.heap_setCell _ _ _ _ (by simpa using own_rb hown hR4 (by decide) q hq)
  · exact (hkeep G _ 155 h.gl.blk (by decide) (by decide)).trans h.gl.blk.symm
theorem CaV.up {B : Nat} {PP : List Pro} {w : World} {m m' : Mm} {σ σ' : St} {l : List (Nat × Nat × List Nat)} {vs : List Value} (h : CaV B PP w m σ.rows l vs) (x : MmX m m') (rx : RX σ σ') : CaV B PP w m' σ'.rows l vs := by
  induction h with
  | nil => exact .nil
  | snoc l vs pl v0 v1 v2 h hp ih =>
    obtain ⟨h1, h2, fp, h3, h4⟩ := hp
    exact .snoc l vs pl v0 v1 v2 ih ⟨h1, h2, fp, h3, (h4.up x).rx rx⟩
/-- A row of parameters more. -/
theorem MR.with {B rb T : Nat} {PP : List Pro} {G : Nat} {gb : Rc} {m : Mm} {c : Mc} {w : World} {N : Nat} {c0 : Array Value} {a : Val} {t : List Val} (h : MR B rb T PP G gb m c w) (hN : w.heap[N]? = some (.cells (((a :: t).map (vV m)).toArray ++ c0) 155 (0, 0))) (hNr : N ∉ m.rw) (hNB : B ≤ N) (hv : ∀ v ∈ a :: t, VOk m v) (hst : ∀ q, gb.stack.ownBlock = some q → q ≠ N) (hG : G ≠ N) :
    MR B rb T PP G gb { m with rw := m.rw ++ [N] } { c with st := { c.st with rows := c.st.rows ++ [a :: t] } } w := by
  have x : MmX m { m with rw := m.rw ++ [N] } := ⟨⟨[], by simp⟩, ⟨[], by simp⟩, ⟨_, rfl⟩⟩
  have rx : RX c.st { c.st with rows := c.st.rows ++ [a :: t] } := RX.more _ _
  have ev : ∀ v, vV { m with rw := m.rw ++ [N] } v = vV m v := by intro v; cases v <;> rfl
  obtain ⟨vs, h1, h2⟩ := h.ca
  obtain ⟨p1, p2, fp, p3, p4⟩ := h.pl
  refine ⟨h.rel.with hN hNr hNB hv, h.tab, h.hT, h.pv, h.pr, ⟨p1, p2, fp, p3, (p4.up x).rx rx⟩, ⟨?_, fun u hu => (h.st.ok u hu).up x, fun q hq hm => ?_⟩, ⟨vs, h1, h2.up x rx⟩, ⟨?_, fun u hu => (h.gl.ok u hu).up x, fun hm => ?_, h.gl.bG⟩, h.gs, h.sg, h.lf⟩
  · rw [show (vV { m with rw := m.rw ++ [N] }) = vV m from funext ev]
    exact h.st.own
  · rcases List.mem_append.1 hm with z | z
    · exact h.st.nr q hq z
    · simp at z
      exact hst q hq z
  · rw [show (gV { m with rw := m.rw ++ [N] }) = gV m from funext fun o => by cases o with | none => rfl | some v => exact ev v]
    exact h.gl.blk
  · rcases List.mem_append.1 hm with z | z
    · exact h.gl.nr z
    · simp at z
      exact hG z
/-- A push, where the machine lies in memory. -/
theorem push_mr {B rb T : Nat} {PP : List Pro} {G : Nat} {gb : Rc} {m : Mm} {c : Mc} {w : World} {v : Val} (h : MR B rb T PP G gb m c w) (hv : VOk m v) (hn : c.stack.length ≤ 1000000) : Calls Tryz.prog 66 #[.pointer (some ⟨rb, 1, none⟩), .iface (vT v) (vX m v)] w fun e w' => e = .returned (.tuple #[]) ∧ ∃ gb', MR B rb T PP G gb' m (c.push v) w' ∧ Bel B w w' := by
  obtain ⟨tv, hR⟩ := h.rn
  refine (push_raw B rb tv gb c.stack.length (c.stack.map (vV m)) (vT v) (vX m v) w hR h.st.own h.hs hn).mono ?_
  intro e w' ht
  exact ⟨ht.1, h.push hR hv ht⟩
/-- What an instruction leaves, where the run goes on; where it ends. -/
def OkM (B rb T : Nat) (PP : List Pro) (G : Nat) (w : World) (d : Mc) (w' : World) : Prop := Bel B w w' ∧ ∃ gb' m', MR B rb T PP G gb' m' d w'
def BadM (B rb : Nat) (w : World) (d : Mc) (w' : World) : Prop := Bel B w w' ∧ ∃ gb', RT B rb d.st.out gb' w'
/-- The call, its parts named. -/
def callV (PP : List Pro) (n : Nat) (c : Mc) (k : Nat) (v : Val) : Res Bool × Mc :=
  match v with
  | .prim p =>
    match primF p (c.stack.drop (k + 1)) c.st with
    | (.ok v, s) => (.ok true, { c with st := s, stack := c.stack.take k ++ [v] })
    | (.bad h, s) => (.bad h, { c with st := s, stack := c.stack.take k })
  | .proc i =>
    match c.st.procs[i]? with
    | none => (.bad 4, { c with stack := c.stack.take k })
    | some q =>
      if (n : Int) = (PP.getD q.proto pro0).args then
        if c.calls.length < 200 then
          match c.stack.drop (k + 1) with
          | [] => (.ok true, { c with stack := c.stack.take k, calls := c.calls ++ [(c.p, c.next, c.env)], p := q.proto, next := 0, env := q.env })
          | a :: t => (.ok true, { c with stack := c.stack.take k, calls := c.calls ++ [(c.p, c.next, c.env)], p := q.proto, next := 0, env := c.st.rows.length :: q.env, st := { c.st with rows := c.st.rows ++ [a :: t] } })
        else (.bad 7, { c with stack := c.stack.take k })
      else (.bad 5, { c with stack := c.stack.take k })
  | _ => (.bad 4, { c with stack := c.stack.take k })
theorem callM_eq (PP : List Pro) (n : Nat) (c : Mc) (k : Nat) (v : Val) (hk : c.stack.length = k + 1 + n) (hv : c.stack[k]? = some v) : callM PP n c = callV PP n c k v := by
  have e : c.stack.length - n - 1 = k := by omega
  have e2 : c.stack.getD k .nil = v := by simp [List.getD, hv]
  unfold callM callV
  simp only [e, e2]
  cases v <;> rfl
end
end Go.Proofs.YthikdpclifeonaaGreatDoor.V
