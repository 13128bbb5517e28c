/- Chapter 11: THE MACHINE IN MEMORY. -/
import Derived.Test.YthikdpclifeonaaGreatDoorK36
import Derived.Test.YthikdpclifeonaaGreatDoorK34
import Derived.Test.YthikdpclifeonaaGreatDoorK34
import Derived.Test.YthikdpclifeonaaGreatDoorK38
import Derived.Test.YthikdpclifeonaaGreatDoorK17
namespace Go.Proofs.YthikdpclifeonaaGreatDoor.V
set_option linter.unusedVariables false
set_option linter.unusedSimpArgs false
open Go.RowKit
open Go.Proofs.YthikdpclifeonaaGreatDoor

/-- Where a procedure's code lies. -/
def CoV (B : Nat) (PP : List Pro) (w : World) (p : Nat) (v : Value) : Prop := ∃ P b o cc, PP[p]? = some P ∧ v = .slice (some ⟨b, o, none⟩) P.code.length cc ∧ b < B ∧ P.code.length ≤ cc ∧ ∀ i x, P.code[i]? = some x → ∃ qa qc, IL B w b (o + i * 11) x qa qc
theorem CoV.below {B p : Nat} {PP : List Pro} {w w' : World} {v : Value} (h : CoV B PP w p v) (hb : Below B w w') : CoV B PP w' p v := by
  obtain ⟨P, b, o, cc, h1, h2, h3, h4, h5⟩ := h
  exact ⟨P, b, o, cc, h1, h2, h3, h4, fun i x hx => by obtain ⟨qa, qc, hi⟩ := h5 i x hx; exact ⟨qa, qc, hi.below h3 hb⟩⟩
/-- All procedures in memory. -/
def PV (B : Nat) (PP : List Pro) (w : World) (pb po : Nat) : Prop := pb < B ∧ ∀ i P, PP[i]? = some P → ∃ v, w.cell? ⟨pb, po + i * 2, none⟩ = some (.int .i64 P.args) ∧ w.cell? ⟨pb, po + i * 2 + 1, none⟩ = some v ∧ CoV B PP w i v
theorem PV.below {B pb po : Nat} {PP : List Pro} {w w' : World} (h : PV B PP w pb po) (hb : Below B w w') : PV B PP w' pb po := by
  obtain ⟨h0, h⟩ := h
  refine ⟨h0, fun i P hP => ?_⟩
  obtain ⟨v, h1, h2, h3⟩ := h i P hP
  exact ⟨v, (hb.cell (p := ⟨pb, po + i * 2, none⟩) h0).trans h1, (hb.cell (p := ⟨pb, po + i * 2 + 1, none⟩) h0).trans h2, h3.below hb⟩
/-- A place in memory. -/
def PlV (B : Nat) (PP : List Pro) (w : World) (m : Mm) (rows : List (List Val)) (pl : Nat × Nat × List Nat) (v0 v1 v2 : Value) : Prop :=
  CoV B PP w pl.1 v0 ∧ v1 = .int .i64 (pl.2.1 : Int) ∧ ∃ fp, v2 = .pointer (some ⟨fp, 0, none⟩) ∧ Fr w m rows fp pl.2.2
/-- Those that wait, in memory. -/
inductive CaV (B : Nat) (PP : List Pro) (w : World) (m : Mm) (rows : List (List Val)) : List (Nat × Nat × List Nat) → List Value → Prop
  | nil : CaV B PP w m rows [] []
  | snoc (l : List (Nat × Nat × List Nat)) (vs : List Value) (pl : Nat × Nat × List Nat) (v0 v1 v2 : Value) : CaV B PP w m rows l vs → PlV B PP w m rows pl v0 v1 v2 → CaV B PP w m rows (l ++ [pl]) (vs ++ [v0, v1, v2])
/-- What lies below B is kept, and boxes of numbers. -/
structure Bel (B : Nat) (w w' : World) : Prop where
  toBelow : Below B w w'
  k3 : ∀ (k : Nat) (cs : Array Value), w.heap[k]? = some (.cells cs 3 (0, 0)) → w'.heap[k]? = some (.cells cs 3 (0, 0))
theorem Bel.trans {B : Nat} {a b c : World} (h : Bel B a b) (k : Bel B b c) : Bel B a c := ⟨h.toBelow.trans k.toBelow, fun i cs hi => k.k3 i cs (h.k3 i cs hi)⟩
theorem Bel.refl (B : Nat) (w : World) : Bel B w w := ⟨Below.refl _ _, fun _ _ h => h⟩
theorem Bel.of {B : Nat} {w w' : World} (h : Below w.heap.size w w') (hs : B ≤ w.heap.size) : Bel B w w' := ⟨h.mono hs, fun k cs hk => (h.block k (Array.getElem?_eq_some_iff.1 hk).1).trans hk⟩
theorem Bel.cell {B : Nat} {w w' : World} (h : Bel B w w') {p : Addr} (hp : p.block < B) : w'.cell? p = w.cell? p := h.toBelow.cell hp
theorem Bel.drew0 (B : Nat) (w : World) : Bel B w w.drew := ⟨Below.drew (Below.refl _ _), fun _ _ h => h⟩
/-- What goes on: frames and what lies below B are kept. -/
structure On (B : Nat) (m m' : Mm) (σ σ' : St) (w w' : World) : Prop where
  below : Below B w w'
  fr : ∀ (k : Nat) (cs : Array Value), w.heap[k]? = some (.cells cs 114 (0, 0)) → w'.heap[k]? = some (.cells cs 114 (0, 0))
  new : New m m' w
  rx : RX σ σ'
  k3 : ∀ (k : Nat) (cs : Array Value), w.heap[k]? = some (.cells cs 3 (0, 0)) → w'.heap[k]? = some (.cells cs 3 (0, 0))
theorem On.bel {B : Nat} {m m' : Mm} {σ σ' : St} {w w' : World} (o : On B m m' σ σ' w w') : Bel B w w' := ⟨o.below, o.k3⟩
theorem Fr.on {w w' : World} {m : Mm} {rows : List (List Val)} {fp : Nat} {e : List Nat} (h : Fr w m rows fp e) (hk : ∀ (k : Nat) (cs : Array Value), w.heap[k]? = some (.cells cs 114 (0, 0)) → w'.heap[k]? = some (.cells cs 114 (0, 0))) : Fr w' m rows fp e := by
  induction h with
  | root fp h => exact .root fp (hk fp _ h)
  | step fp ar far r cp e e' h1 h2 h3 h4 h5 h6 i1 i2 => exact .step fp ar far r cp e e' h1 h2 (hk fp _ h3) i1 i2 h6
theorem PlV.on {B : Nat} {PP : List Pro} {w w' : World} {m m' : Mm} {σ σ' : St} {pl : Nat × Nat × List Nat} {v0 v1 v2 : Value} (h : PlV B PP w m σ.rows pl v0 v1 v2) (o : On B m m' σ σ' w w') : PlV B PP w' m' σ'.rows pl v0 v1 v2 := by
  obtain ⟨h1, h2, fp, h3, h4⟩ := h
  exact ⟨h1.below o.below, h2, fp, h3, ((h4.on o.fr).up o.new.x).rx o.rx⟩
theorem CaV.on {B : Nat} {PP : List Pro} {w w' : World} {m m' : Mm} {σ σ' : St} {l : List (Nat × Nat × List Nat)} {vs : List Value} (h : CaV B PP w m σ.rows l vs) (o : On B m m' σ σ' w w') : CaV B PP w' m' σ'.rows l vs := by
  induction h with
  | nil => exact .nil
  | snoc l vs pl v0 v1 v2 h hp ih => exact .snoc l vs pl v0 v1 v2 ih (hp.on o)
theorem CaV.len {B : Nat} {PP : List Pro} {w : World} {m : Mm} {rows : List (List Val)} {l : List (Nat × Nat × List Nat)} {vs : List Value} (h : CaV B PP w m rows l vs) : vs.length = l.length * 3 := by
  induction h with
  | nil => rfl
  | snoc l vs pl v0 v1 v2 h hp ih => simp [ih]; omega
theorem own_keep {w w' : World} {B size n : Nat} {t : TypeId} {v : Value} {xs : List Value} (h : w.ownsRow B t size v n xs) (hk : ∀ g, v.ownBlock = some g → w'.heap[g]? = w.heap[g]?) : w'.ownsRow B t size v n xs := by
  refine ⟨h.1, ?_⟩
  rcases h.2 with hn | ⟨g, cap, cur, rfl, hb, hgg, rest⟩
  · exact .inl hn
  · exact .inr ⟨g, cap, cur, rfl, hb, (hk g rfl).trans hgg, rest⟩
/-- Those that wait: their row. -/
def CaM (B : Nat) (PP : List Pro) (m : Mm) (rows : List (List Val)) (v : Value) (l : List (Nat × Nat × List Nat)) (w : World) : Prop := ∃ vs, w.ownsRow B 62 3 v l.length vs ∧ CaV B PP w m rows l vs
theorem CaM.on {B : Nat} {PP : List Pro} {w w' : World} {m m' : Mm} {σ σ' : St} {v : Value} {l : List (Nat × Nat × List Nat)} (h : CaM B PP m σ.rows v l w) (o : On B m m' σ σ' w w') (hk : ∀ g, v.ownBlock = some g → w'.heap[g]? = w.heap[g]?) : CaM B PP m' σ'.rows v l w' := by
  obtain ⟨vs, h1, h2⟩ := h
  exact ⟨vs, own_keep h1 hk, h2.on o⟩
/-- The stack in memory. -/
structure StkM (B : Nat) (m : Mm) (v : Value) (s : List Val) (w : World) : Prop where
  own : w.ownsRow B 155 1 v s.length (s.map (vV m))
  ok : ∀ x ∈ s, VOk m x
  nr : ∀ g, v.ownBlock = some g → g ∉ m.rw
theorem New.nr {m m' : Mm} {w : World} (n : New m m' w) {g : Nat} (h : g ∉ m.rw) (hl : g < w.heap.size) : g ∉ m'.rw := fun hm => by
  rcases n.rw g hm with q | q
  · exact h q
  · omega
theorem StkM.on {B : Nat} {w w' : World} {m m' : Mm} {v : Value} {s : List Val} (h : StkM B m v s w) (n : New m m' w) (hk : ∀ g, v.ownBlock = some g → w'.heap[g]? = w.heap[g]?) : StkM B m' v s w' := by
  refine ⟨?_, fun x hx => (h.ok x hx).up n.x, fun g hg => n.nr (h.nr g hg) (own_type h.own g hg).2.1⟩
  rw [vals_up h.ok n.x]
  exact own_keep h.own hk
def gV (m : Mm) : Option Val → Value
  | none => .nilIface
  | some v => vV m v
/-- The globals in memory. -/
structure GlM (B : Nat) (m : Mm) (G : Nat) (gl : List (Option Val)) (w : World) : Prop where
  blk : w.heap[G]? = some (.cells (gl.map (gV m)).toArray 155 (0, 0))
  ok : ∀ v, some v ∈ gl → VOk m v
  nr : G ∉ m.rw
  bG : B ≤ G
theorem GlM.lt {B : Nat} {m : Mm} {G : Nat} {gl : List (Option Val)} {w : World} (h : GlM B m G gl w) : G < w.heap.size := (Array.getElem?_eq_some_iff.1 h.blk).1
theorem GlM.on {B : Nat} {w w' : World} {m m' : Mm} {G : Nat} {gl : List (Option Val)} (h : GlM B m G gl w) (n : New m m' w) (hk : w'.heap[G]? = w.heap[G]?) : GlM B m' G gl w' := by
  refine ⟨(hk.trans h.blk).trans ?_, fun v hv => (h.ok v hv).up n.x, n.nr h.nr h.lt, h.bG⟩
  rw [show gl.map (gV m') = gl.map (gV m) from List.map_congr_left fun o ho => by
    cases o with
    | none => rfl
    | some v => exact vV_up (h.ok v ho) n.x]
/-- THE MACHINE IN MEMORY. -/
structure MR (B rb T : Nat) (PP : List Pro) (G : Nat) (gb : Rc) (m : Mm) (c : Mc) (w : World) : Prop where
  rel : Rel B rb gb m c.st w
  tab : Tab T w
  hT : T ≤ B
  pv : PV B PP w gb.pb gb.po
  pr : ∃ pc, gb.protos = .slice (some ⟨gb.pb, gb.po, none⟩) PP.length pc
  pl : PlV B PP w m c.st.rows (c.p, c.next, c.env) gb.code gb.next gb.around
  st : StkM B m gb.stack c.stack w
  ca : CaM B PP m c.st.rows gb.calls c.calls w
  gl : GlM B m G c.glob w
  gs : ∃ gc, gb.globals = .slice (some ⟨G, 0, none⟩) c.glob.length gc
  sg : ∀ g, gb.stack.ownBlock = some g → g ≠ G
  lf : gb.left = .int .i64 (c.left : Int)
theorem MR.rn {B rb T : Nat} {PP : List Pro} {G : Nat} {gb : Rc} {m : Mm} {c : Mc} {w : World} (h : MR B rb T PP G gb m c w) : ∃ tv, RN rb tv gb w := by
  obtain ⟨tv, h1, _⟩ := h.rel.run
  exact ⟨tv, h1⟩
theorem MR.hs {B rb T : Nat} {PP : List Pro} {G : Nat} {gb : Rc} {m : Mm} {c : Mc} {w : World} (h : MR B rb T PP G gb m c w) : B ≤ w.heap.size := by
  obtain ⟨tv, h1⟩ := h.rn
  have := (Array.getElem?_eq_some_iff.1 h1).1
  have := h.rel.hB
  omega
/-- Behind the same blocks all is as it was. -/
theorem MR.stay {B rb T : Nat} {PP : List Pro} {G : Nat} {gb : Rc} {m : Mm} {c : Mc} {w w' : World} (h : MR B rb T PP G gb m c w) (hb : Below w.heap.size w w') : MR B rb T PP G gb m c w' := by
  have hB := hb.mono h.hs
  have o : On B m m c.st c.st w w' := ⟨hB, fun k cs hk => (hb.block k (Array.getElem?_eq_some_iff.1 hk).1).trans hk, New.refl m w, RX.refl _, fun k cs hk => (hb.block k (Array.getElem?_eq_some_iff.1 hk).1).trans hk⟩
  have hl : ∀ {t : TypeId} {sz n : Nat} {v : Value} {xs : List Value}, w.ownsRow B t sz v n xs → ∀ g, v.ownBlock = some g → w'.heap[g]? = w.heap[g]? := fun ho g hg => hb.block g (own_type ho g hg).2.1
  obtain ⟨vs, hv1, hv2⟩ := h.ca
  exact ⟨h.rel.below hb h.hs, h.tab.below (hB.mono h.hT), h.hT, h.pv.below hB, h.pr, h.pl.on o, h.st.on (New.refl m w) (hl h.st.own), ⟨vs, own_keep hv1 (hl hv1), hv2.on o⟩, h.gl.on (New.refl m w) (hb.block G h.gl.lt), h.gs, h.sg, h.lf⟩
/-- Where only the runner and a row of the machine's change. -/
theorem MR.km {B rb T : Nat} {PP : List Pro} {G : Nat} {gb gb' : Rc} {m : Mm} {c : Mc} {w w' : World} {row : Option Nat} (h : MR B rb T PP G gb m c w) (hk : KM rb row w w') (hm : MRow m w row) (hrB : ∀ g, row = some g → B ≤ g) (hp : gb'.pb = gb.pb ∧ gb'.po = gb.po) (hr : ∀ tv, RN rb tv gb w → RN rb tv gb' w') :
    Rel B rb gb' m c.st w' ∧ On B m m c.st c.st w w' := by
  obtain ⟨tv, hR⟩ := h.rn
  have hx := hk.kx hR hm
  have hB := hk.below h.rel.hB h.hs hrB
  exact ⟨h.rel.move hB hp hx hr, hB, fun k cs hc => hx k cs 114 hc (by simp), New.refl m w, RX.refl _, fun k cs hc => hx k cs 3 hc (by simp)⟩
theorem tv_same {rb : Nat} {tv tv' : Value} {gb gb' : Rc} {w : World} (h : RN rb tv gb w) (h' : RN rb tv' gb' w) : tv' = tv := by
  have e1 : w.heap[rb]? = _ := h
  have e2 : w.heap[rb]? = _ := h'
  rw [e1] at e2
  simp only [Option.some.injEq, Obj.cells.injEq] at e2
  have := congrArg (fun a : Array Value => a[0]?) e2.1
  simpa using this.symm
/-- A value is pushed. -/
theorem MR.push {B rb T : Nat} {PP : List Pro} {G : Nat} {gb : Rc} {m : Mm} {c : Mc} {w w' : World} {e : Ending} {tv : Value} {v : Val} (h : MR B rb T PP G gb m c w) (hR : RN rb tv gb w) (hv : VOk m v) (ht : ToldPush B rb tv gb c.stack.length (c.stack.map (vV m)) (vV m v) w e w') :
    ∃ gb', MR B rb T PP G gb' m (c.push v) w' ∧ Bel B w w' := by
  obtain ⟨rfl, gv, h1, h2, h3, h4⟩ := ht
  have hrB : ∀ g, gb.stack.ownBlock = some g → B ≤ g := fun g hg => (own_type h.st.own g hg).1
  obtain ⟨r, o⟩ := h.km (gb' := { gb with stack := gv }) h3 (own_mrow h.st.own h.st.nr) hrB ⟨rfl, rfl⟩ (fun tv' hr' => by rw [tv_same hR hr']; exact h1)
  obtain ⟨vs, hv1, hv2⟩ := h.ca
  have hca : ∀ g, gb.calls.ownBlock = some g → w'.heap[g]? = w.heap[g]? := fun g hg => by
    obtain ⟨_, hl, cs, hc⟩ := own_type hv1 g hg
    refine h3.block g hl ?_ (fun e => ?_)
    · rintro rfl
      rw [show w.heap[g]? = _ from hR] at hc
      simp at hc
    · obtain ⟨_, _, ds, hd⟩ := own_type h.st.own g e.symm
      rw [hd] at hc
      simp at hc
  have hG : w'.heap[G]? = w.heap[G]? := by
    refine h3.block G h.gl.lt ?_ (fun e => h.sg G e.symm rfl)
    rintro rfl
    have := h.gl.blk
    rw [show w.heap[G]? = _ from hR] at this
    simp at this
  refine ⟨{ gb with stack := gv }, ⟨r, h.tab.below (o.below.mono h.hT), h.hT, h.pv.below o.below, h.pr, h.pl.on o, ⟨?_, ?_, ?_⟩, ⟨vs, own_keep hv1 hca, hv2.on o⟩, h.gl.on (New.refl m w) hG, h.gs, ?_, h.lf⟩, o.bel⟩
  · show w'.ownsRow B 155 1 gv (c.stack ++ [v]).length ((c.stack ++ [v]).map (vV m))
    rw [List.length_append, List.map_append]
    exact h2
  · intro x hx
    rcases List.mem_append.1 hx with q | q
    · exact h.st.ok x q
    · simp at q
      subst q
      exact hv
  · intro g hg hm
    rcases h4 g hg with q | q
    · exact h.st.nr g q hm
    · have : g < w.heap.size := by
        obtain ⟨i, hi, e⟩ := List.getElem_of_mem hm
        have hi' : i < c.st.rows.length := by rw [← h.rel.lr]; exact hi
        obtain ⟨_, c0, hx⟩ := h.rel.rw i g _ (List.getElem?_eq_getElem hi') (by rw [List.getElem?_eq_getElem hi, e])
        exact (Array.getElem?_eq_some_iff.1 hx).1
      omega
  · intro g hg e
    subst e
    rcases h4 g hg with q | q
    · exact h.sg g q rfl
    · have := h.gl.lt
      omega
end Go.Proofs.YthikdpclifeonaaGreatDoor.V
