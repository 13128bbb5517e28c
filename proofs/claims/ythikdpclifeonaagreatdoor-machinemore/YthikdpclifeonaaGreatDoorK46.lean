/- Chapter 11: THE RUN: run 17 tells runM. Chapter 11: THE RUN: run 17 tells runM. -/
import Derived.Test.YthikdpclifeonaaGreatDoorK38
import Derived.Test.YthikdpclifeonaaGreatDoorK45
namespace Go.Proofs.YthikdpclifeonaaGreatDoor.V
section
set_option linter.unusedVariables false
set_option linter.unusedSimpArgs false
open Go.RowKit
open Go.Proofs.YthikdpclifeonaaGreatDoor

/-- The machine in memory, wherever it goes on. -/
structure MI (B rb T : Nat) (PP : List Pro) (G : Nat) (gb : Rc) (m : Mm) (c : Mc) (w : World) : Prop where
  rel : Rel B rb gb m c.st w
  tab : Tab T w
  hT : T ≤ B
  pv : PV B PP w gb.pb gb.po
  pr : ∃ pc, gb.protos = .slice (some ⟨gb.pb, gb.po, none⟩) PP.length pc
  st : StkM B m gb.stack c.stack w
  ca : CaM B PP m c.st.rows gb.calls c.calls w
  gl : GlM B m G c.glob w
  gs : ∃ gc, gb.globals = .slice (some ⟨G, 0, none⟩) c.glob.length gc
  sg : ∀ g, gb.stack.ownBlock = some g → g ≠ G
  lf : gb.left = .int .i64 (c.left : Int)
theorem MR.mi {B rb T : Nat} {PP : List Pro} {G : Nat} {gb : Rc} {m : Mm} {c : Mc} {w : World} (h : MR B rb T PP G gb m c w) : MI B rb T PP G gb m c w := ⟨h.rel, h.tab, h.hT, h.pv, h.pr, h.st, h.ca, h.gl, h.gs, h.sg, h.lf⟩
theorem MI.rn {B rb T : Nat} {PP : List Pro} {G : Nat} {gb : Rc} {m : Mm} {c : Mc} {w : World} (h : MI B rb T PP G gb m c w) : ∃ tv, RN rb tv gb w := by
  obtain ⟨tv, h1, _⟩ := h.rel.run
  exact ⟨tv, h1⟩
theorem MI.hs {B rb T : Nat} {PP : List Pro} {G : Nat} {gb : Rc} {m : Mm} {c : Mc} {w : World} (h : MI B rb T PP G gb m c w) : B ≤ w.heap.size := by
  obtain ⟨tv, h1⟩ := h.rn
  have := (Array.getElem?_eq_some_iff.1 h1).1
  have := h.rel.hB
  omega
theorem KM.alloc {rb : Nat} {w w' : World} (h : KM rb none w w') (o : Obj) : KM rb none w (w'.alloc o) := h.trans (KM.ofBelow (row := none) ((Below.refl _ _).alloc (Nat.le_refl _) _)) (fun g hg => by cases hg)
/-- A body begins. -/
theorem MI.start {B rb T : Nat} {PP : List Pro} {G : Nat} {gb : Rc} {m : Mm} {c : Mc} {w : World} (h : MI B rb T PP G gb m c w) {s : Nat} {cv : Value} (hco : CoV B PP w s cv) :
    MR B rb T PP G { gb with code := cv, next := .int .i64 0, around := .pointer (some ⟨w.heap.size, 0, none⟩) } m { c with p := s, next := 0, env := [] } ((((w.alloc (.cells #[.slice none 0 0, .int .i64 0, .int .i64 0, .pointer none, .pointer none] 114)).setCell ⟨rb, 2, none⟩ cv).setCell ⟨rb, 3, none⟩ (.int .i64 0)).setCell ⟨rb, 4, none⟩ (.pointer (some ⟨w.heap.size, 0, none⟩))) ∧ KM rb none w ((((w.alloc (.cells #[.slice none 0 0, .int .i64 0, .int .i64 0, .pointer none, .pointer none] 114)).setCell ⟨rb, 2, none⟩ cv).setCell ⟨rb, 3, none⟩ (.int .i64 0)).setCell ⟨rb, 4, none⟩ (.pointer (some ⟨w.heap.size, 0, none⟩))) := by
  obtain ⟨tv, hR⟩ := h.rn
  have hrb : rb < w.heap.size := (Array.getElem?_eq_some_iff.1 hR).1
  have hRa : ∀ tv, RN rb tv gb w → RN rb tv gb (w.alloc (.cells #[.slice none 0 0, .int .i64 0, .int .i64 0, .pointer none, .pointer none] 114)) := fun tv hr => (Below.heap_alloc _ _ _ hrb).trans hr
  have hfr : (w.alloc (.cells #[.slice none 0 0, .int .i64 0, .int .i64 0, .pointer none, .pointer none] 114)).heap[w.heap.size]? = some (.cells #[.slice none 0 0, .int .i64 0, .int .i64 0, .pointer none, .pointer none] 114 (0, 0)) := World.alloc_heap_new w _
  have hk : KM rb none w ((((w.alloc (.cells #[.slice none 0 0, .int .i64 0, .int .i64 0, .pointer none, .pointer none] 114)).setCell ⟨rb, 2, none⟩ cv).setCell ⟨rb, 3, none⟩ (.int .i64 0)).setCell ⟨rb, 4, none⟩ (.pointer (some ⟨w.heap.size, 0, none⟩))) := (((((KM.refl rb none w).alloc _).set _).set _).set _)
  have hr : ∀ tv, RN rb tv gb w → RN rb tv { gb with code := cv, next := .int .i64 0, around := .pointer (some ⟨w.heap.size, 0, none⟩) } ((((w.alloc (.cells #[.slice none 0 0, .int .i64 0, .int .i64 0, .pointer none, .pointer none] 114)).setCell ⟨rb, 2, none⟩ cv).setCell ⟨rb, 3, none⟩ (.int .i64 0)).setCell ⟨rb, 4, none⟩ (.pointer (some ⟨w.heap.size, 0, none⟩))) := fun tv hr => (((hRa tv hr).set2 _).set3 _).set4 _
  have hfr' : ((((w.alloc (.cells #[.slice none 0 0, .int .i64 0, .int .i64 0, .pointer none, .pointer none] 114)).setCell ⟨rb, 2, none⟩ cv).setCell ⟨rb, 3, none⟩ (.int .i64 0)).setCell ⟨rb, 4, none⟩ (.pointer (some ⟨w.heap.size, 0, none⟩))).heap[w.heap.size]? = some (.cells #[.slice none 0 0, .int .i64 0, .int .i64 0, .pointer none, .pointer none] 114 (0, 0)) := by
    rw [Below.heap_setCell _ _ _ _ (show w.heap.size ≠ rb by omega), Below.heap_setCell _ _ _ _ (show w.heap.size ≠ rb by omega), Below.heap_setCell _ _ _ _ (show w.heap.size ≠ rb by omega)]
    exact hfr
  generalize ((((w.alloc (.cells #[.slice none 0 0, .int .i64 0, .int .i64 0, .pointer none, .pointer none] 114)).setCell ⟨rb, 2, none⟩ cv).setCell ⟨rb, 3, none⟩ (.int .i64 0)).setCell ⟨rb, 4, none⟩ (.pointer (some ⟨w.heap.size, 0, none⟩))) = w' at *
  have hx := hk.kx hR (MRow.none m w)
  have hB := hk.below h.rel.hB h.hs (fun g hg => by cases hg)
  have r := h.rel.move (gb' := { gb with code := cv, next := .int .i64 0, around := .pointer (some ⟨w.heap.size, 0, none⟩) }) hB ⟨rfl, rfl⟩ hx hr
  have o : On B m m c.st c.st w w' := ⟨hB, fun k cs hc => hx k cs 114 hc (by simp), New.refl m w, RX.refl _, fun k cs hc => hx k cs 3 hc (by simp)⟩
  have hb : ∀ k, k < w.heap.size → k ≠ rb → w'.heap[k]? = w.heap[k]? := fun k h1 h2 => km_block hk h1 h2
  have hG : G ≠ rb := by
    rintro rfl
    have := h.gl.blk
    rw [show w.heap[G]? = _ from hR] at this
    simp at this
  obtain ⟨vs, h1, h2⟩ := h.ca
  exact ⟨⟨r, h.tab.below (hB.mono h.hT), h.hT, h.pv.below hB, h.pr, ⟨hco.below hB, rfl, w.heap.size, rfl, .root _ hfr'⟩, h.st.on (New.refl m w) (fun g hg => hb g (own_type h.st.own g hg).2.1 (own_rb h.st.own hR (by decide) g hg)), ⟨vs, own_keep h1 (fun g hg => hb g (own_type h1 g hg).2.1 (own_rb h1 hR (by decide) g hg)), h2.on o⟩, h.gl.on (New.refl m w) (hb G h.gl.lt hG), h.gs, h.sg, h.lf⟩, hk⟩
/-- Between two bodies. -/
structure IdM (B rb T : Nat) (PP : List Pro) (G : Nat) (K : Kn) (ng : Nat) (fin : Int × Mc) (rest : List Nat) (w : World) : Prop where
  ex : ∃ gb m c, MI B rb T PP G gb m c w ∧ c.calls = [] ∧ c.stack = [] ∧ (∀ q ∈ c.st.procs, PGood PP K c.st.rows q) ∧ c.glob.length = ng ∧ c.left ≤ 1000000 ∧ runM PP rest c = fin
/-- Inside a body. -/
def InM (B rb T : Nat) (PP : List Pro) (G : Nat) (K : Kn) (HF : Nat → List Int) (ng : Nat) (fin : Int × Mc) (rest : List Nat) (w : World) : Prop :=
  ∃ gb m c, MR B rb T PP G gb m c w ∧ WF PP K HF ng c ∧ c.stack.length + c.left ≤ 1000000 ∧ c.calls.length ≤ 200 ∧ fin = (match loopM PP (c.left + 1) c with | (.bad h, d) => (h, d) | (.ok _, d) => runM PP rest d)
def leftAt (rb : Nat) (w : World) : Nat := match w.cell? ⟨rb, 8, none⟩ with
  | some (.int _ n) => n.toNat
  | _ => 0
/-- One step inside a body. -/
theorem InM.step {B rb T : Nat} {PP : List Pro} {G : Nat} {ss : List Int} {gl : In → Int} {K : Kn} {HF : Nat → List Int} {ng : Nat} {fin : Int × Mc} {rest : List Nat} {w : World} (im : Img PP ss gl K HF) (hgl : ∀ x, gl x = 0 → 0 ≤ x.a ∧ x.a < (ng : Int)) (hPP : PP.length ≤ 20000) (hng : ng ≤ 500) (h : InM B rb T PP G K HF ng fin rest w) :
    Calls Tryz.prog 32 #[.pointer (some ⟨rb, 0, none⟩)] w fun e w' => Bel B w w' ∧ ((e = .returned (.bool true) ∧ InM B rb T PP G K HF ng fin rest w' ∧ leftAt rb w' < leftAt rb w) ∨ (e = .returned (.bool false) ∧ IdM B rb T PP G K ng fin rest w') ∨ ∃ q gb', e = .panicked (endP q) ∧ fin.1 = q ∧ RT B rb fin.2.st.out gb' w') := by
  obtain ⟨gb, m, c, hM, wf, hb1, hb2, hfin⟩ := h
  have hla : ∀ {gb : Rc} {m : Mm} {c : Mc} {w : World}, MR B rb T PP G gb m c w → leftAt rb w = c.left := fun hM => by
    obtain ⟨tv, hR⟩ := hM.rn
    unfold leftAt
    rename_i gb0 m0 c0 w0
    have h8 : w0.cell? ⟨rb, 8, none⟩ = some (.int .i64 (c0.left : Int)) := ((cellO hR).trans rfl).trans (congrArg some hM.lf)
    rw [h8]
    simp
  refine (step_any im hgl wf hM hb1 hb2 hPP hng).mono ?_
  intro e w' ht
  by_cases hl : c.left = 0
  · have es : stepM PP c = (.bad 2, c) := by unfold stepM; rw [if_pos hl]
    rw [es] at ht
    obtain ⟨rfl, hbB, gb', hrt⟩ := ht
    have hf : fin = (2, c) := by rw [hfin, loopM, es]
    exact ⟨hbB, Or.inr (Or.inr ⟨2, gb', rfl, by rw [hf], by rw [hf]; exact hrt⟩)⟩
  obtain ⟨hst, P, ar, bd, hP, hnx, hx, hK, hr, hcnt, har, hmv⟩ := step_wf im wf hl
  obtain ⟨s1, s2, s3⟩ := step_bd (PP := PP) hl hr.op
  rw [loopM] at hfin
  cases hsm : stepM PP c with
  | mk r d =>
    rw [hsm] at ht hst s1 s2 s3 hfin
    cases r with
    | bad q =>
      obtain ⟨rfl, hbB, gb', hrt⟩ := ht
      exact ⟨hbB, Or.inr (Or.inr ⟨q, gb', rfl, by rw [hfin], by rw [hfin]; exact hrt⟩)⟩
    | ok b =>
      obtain ⟨rfl, hbB, gb', m', hM'⟩ := ht
      have s1' : d.left + 1 = c.left := s1
      have s2' : d.stack.length + d.left ≤ c.stack.length + c.left := s2
      cases b with
      | true =>
        refine ⟨hbB, Or.inl ⟨rfl, ⟨gb', m', d, hM', hst, by omega, s3 hb2, ?_⟩, by rw [hla hM', hla hM]; omega⟩⟩
        rw [hfin, s1']
      | false =>
        obtain ⟨t1, t2, t3, t4⟩ := hst
        exact ⟨hbB, Or.inr (Or.inl ⟨rfl, ⟨gb', m', d, hM'.mi, t1, t2, t3, t4, by omega, hfin.symm⟩⟩)⟩
end
section
set_option linter.unusedVariables false
set_option linter.unusedSimpArgs false
open Go.RowKit
open Go.Proofs.YthikdpclifeonaaGreatDoor

theorem MI.stay {B rb T : Nat} {PP : List Pro} {G : Nat} {gb : Rc} {m : Mm} {c : Mc} {w w' : World} (h : MI B rb T PP G gb m c w) (hb : Below w.heap.size w w') : MI B rb T PP G gb m c w' := by
  have hB := hb.mono h.hs
  have o : On B m m c.st c.st w w' := ⟨hB, fun k cs hk => (hb.block k (Array.getElem?_eq_some_iff.1 hk).1).trans hk, New.refl m w, RX.refl _, fun k cs hk => (hb.block k (Array.getElem?_eq_some_iff.1 hk).1).trans hk⟩
  have hl : ∀ {t : TypeId} {sz n : Nat} {v : Value} {xs : List Value}, w.ownsRow B t sz v n xs → ∀ g, v.ownBlock = some g → w'.heap[g]? = w.heap[g]? := fun ho g hg => hb.block g (own_type ho g hg).2.1
  obtain ⟨vs, hv1, hv2⟩ := h.ca
  exact ⟨h.rel.below hb h.hs, h.tab.below (hB.mono h.hT), h.hT, h.pv.below hB, h.pr, h.st.on (New.refl m w) (hl h.st.own), ⟨vs, own_keep hv1 (hl hv1), hv2.on o⟩, h.gl.on (New.refl m w) (hb.block G h.gl.lt), h.gs, h.sg, h.lf⟩
theorem IdM.stay {B rb T : Nat} {PP : List Pro} {G : Nat} {K : Kn} {ng : Nat} {fin : Int × Mc} {rest : List Nat} {w w' : World} (h : IdM B rb T PP G K ng fin rest w) (hb : Below w.heap.size w w') : IdM B rb T PP G K ng fin rest w' := by
  obtain ⟨gb, m, c, h1, h2⟩ := h
  exact ⟨gb, m, c, h1.stay hb, h2⟩
/-- A body begins: what is around. -/
theorem IdM.start {B rb T : Nat} {PP : List Pro} {G : Nat} {ss : List Int} {gl : In → Int} {K : Kn} {HF : Nat → List Int} {ng : Nat} {fin : Int × Mc} {s : Nat} {rest : List Nat} {w : World} (im : Img PP ss gl K HF) (hs : ((s : Nat) : Int) ∈ ss) (h : IdM B rb T PP G K ng fin (s :: rest) w) :
    ∃ pb po pc b o cl cc, w.cell? ⟨rb, 6, none⟩ = some (.slice (some ⟨pb, po, none⟩) PP.length pc) ∧ s < PP.length ∧ w.cell? ⟨pb, po + s * 2 + 1, none⟩ = some (.slice (some ⟨b, o, none⟩) cl cc) ∧ pb < B ∧ B ≤ rb ∧ (∃ x, w.cell? ⟨rb, 2, none⟩ = some x) ∧ (∃ x, w.cell? ⟨rb, 3, none⟩ = some x) ∧ (∃ x, w.cell? ⟨rb, 4, none⟩ = some x) ∧ (∀ q, w.frozen? ⟨rb, q, none⟩ = false) ∧ rb < w.heap.size ∧
      InM B rb T PP G K HF ng fin rest ((((w.alloc (.cells #[.slice none 0 0, .int .i64 0, .int .i64 0, .pointer none, .pointer none] 114)).setCell ⟨rb, 2, none⟩ (.slice (some ⟨b, o, none⟩) cl cc)).setCell ⟨rb, 3, none⟩ (.int .i64 0)).setCell ⟨rb, 4, none⟩ (.pointer (some ⟨w.heap.size, 0, none⟩))) ∧
      KM rb none w ((((w.alloc (.cells #[.slice none 0 0, .int .i64 0, .int .i64 0, .pointer none, .pointer none] 114)).setCell ⟨rb, 2, none⟩ (.slice (some ⟨b, o, none⟩) cl cc)).setCell ⟨rb, 3, none⟩ (.int .i64 0)).setCell ⟨rb, 4, none⟩ (.pointer (some ⟨w.heap.size, 0, none⟩))) := by
  obtain ⟨gb, m, c, hI, h1, h2, h3, h4, h5, h6⟩ := h
  obtain ⟨tv, hR⟩ := hI.rn
  obtain ⟨_, hsl, hK⟩ := im.st _ hs
  rw [Int.toNat_natCast] at hK
  have hsl' : s < PP.length := by omega
  obtain ⟨P, hP⟩ : ∃ P, PP[s]? = some P := ⟨_, List.getElem?_eq_getElem hsl'⟩
  obtain ⟨pc, hpc⟩ := hI.pr
  obtain ⟨hpB, hpv⟩ := hI.pv
  obtain ⟨cv, v1, v2, v3⟩ := hpv s P hP
  have v3' := v3
  obtain ⟨P1, b, o, cc, q1, rfl, q2, q3, q4⟩ := v3
  obtain ⟨m1, m2⟩ := hI.start v3'
  obtain ⟨_, bd, ar, k1, _, k3, k4, _⟩ := im.pro s P hP
  rw [hK] at k1
  cases k1
  refine ⟨gb.pb, gb.po, pc, b, o, P1.code.length, cc, ((cellO hR).trans rfl).trans (congrArg some hpc), hsl', v2, hpB, hI.rel.hB, ⟨_, (cellO hR).trans rfl⟩, ⟨_, (cellO hR).trans rfl⟩, ⟨_, (cellO hR).trans rfl⟩, fun q => looseO hR, (Array.getElem?_eq_some_iff.1 hR).1, ?_, m2⟩
  refine ⟨_, m, _, m1, ⟨⟨0, 0, ?_, ?_, ?_⟩, h3, h4⟩, ?_, ?_, ?_⟩
  · refine ⟨P, 0, hP, ?_, k4, rfl, fun r hr => by simp at hr, by omega⟩
    show K[s]? = some (some (decide (c.calls = []), 0))
    rw [h1, hK]
    rfl
  · show Wait PP K HF c.st.rows c.calls 0
    rw [h1]
    exact .nil
  · show c.stack.length = 0 + 0
    rw [h2]
    rfl
  · show c.stack.length + c.left ≤ 1000000
    rw [h2]
    simp
    exact h5
  · show c.calls.length ≤ 200
    rw [h1]
    simp
  · exact h6.symm
/-- What a run tells. -/
def ToldRun (B rb : Nat) (fin : Int × Mc) (w : World) (e : Ending) (w' : World) : Prop := e = .returned (.int .i64 fin.1) ∧ Below B w w' ∧ ∃ gb', RT B rb fin.2.st.out gb' w'
theorem RT.set3 {B rb N : Nat} {o : List (List UInt8)} {gb : Rc} {v : Value} {cs : Array Value} {w : World} (h : RT B rb o gb w) (hN : w.heap[N]? = some (.cells cs 3 (0, 0))) : RT B rb o gb (w.setCell ⟨N, 0, none⟩ v) := by
  obtain ⟨tv, h1, h2⟩ := h
  have hb : ∀ k, k ≠ N → (w.setCell ⟨N, 0, none⟩ v).heap[k]? = w.heap[k]? := fun k hk => Below.heap_setCell _ _ _ _ (by simpa using hk)
  refine ⟨tv, (hb rb ?_).trans h1, own_keep h2 (fun g hg => hb g ?_)⟩
  · rintro rfl
    rw [show w.heap[rb]? = _ from h1] at hN
    simp at hN
  · rintro rfl
    obtain ⟨_, _, ds, hd⟩ := own_type h2 g hg
    rw [hd] at hN
    simp at hN
theorem RT.stay3 {B rb : Nat} {o : List (List UInt8)} {gb : Rc} {w w' : World} (h : RT B rb o gb w) (hb : Below w.heap.size w w') : RT B rb o gb w' := by
  obtain ⟨tv, h1, h2⟩ := h
  exact ⟨tv, (hb.block rb (Array.getElem?_eq_some_iff.1 h1).1).trans h1, own_keep h2 (fun g hg => hb.block g (own_type h2 g hg).2.1)⟩
set_option maxRecDepth 100000 in
set_option maxHeartbeats 6400000 in
/-- THE RUN. -/
theorem runM_any {B rb T : Nat} {PP : List Pro} {G : Nat} {gl : In → Int} {K : Kn} {HF : Nat → List Int} {ng : Nat} {fin : Int × Mc} (ns : List Nat) (sb so sc : Nat) (w : World) (im : Img PP (ns.map (fun s => ((s : Nat) : Int))) gl K HF) (hgl : ∀ x, gl x = 0 → 0 ≤ x.a ∧ x.a < (ng : Int)) (hPP : PP.length ≤ 20000) (hng : ng ≤ 500)
    (hI : IdM B rb T PP G K ng fin ns w) (hB : B ≤ w.heap.size) (hsb : sb < B) (hst : ∀ (j s : Nat), ns[j]? = some s → w.cell? ⟨sb, so + j, none⟩ = some (.int .i64 (s : Int))) (hn : ns.length ≤ 40) :
    Calls Tryz.prog 17 #[.pointer (some ⟨rb, 0, none⟩), .slice (some ⟨sb, so, none⟩) ns.length sc] w (ToldRun B rb fin w) := by
  have hmf : ∀ (fn : Fn) (first cap : Array Value) (w : World), (Instr.makeFunc fn first cap).run Tryz.prog w = .ok (.func fn first cap) w := fun _ _ _ _ => rfl
  have hba : Below w.heap.size w (w.alloc (.cells #[.int .i64 0] 3)) := (Below.refl _ _).alloc (Nat.le_refl _) _
  obtain ⟨N, hN⟩ : ∃ N, N = w.heap.size := ⟨_, rfl⟩
  have H0 : Hid (IdM B rb T PP G K ng fin (ns.drop 0) (w.alloc (.cells #[.int .i64 0] 3)) ∧ Below B w (w.alloc (.cells #[.int .i64 0] 3)) ∧ (w.alloc (.cells #[.int .i64 0] 3)).heap[N]? = some (.cells #[.int .i64 0] 3 (0, 0))) := ⟨by rw [List.drop_zero]; exact hI.stay hba, hba.mono hB, by rw [hN]; exact World.alloc_heap_new w _⟩
  have HST : Hid (∀ (j s : Nat) (W : World), ns[j]? = some s → Below B w W → W.cell? ⟨sb, so + j, none⟩ = some (.int .i64 (s : Int))) := fun j s W hj hW => (hW.cell (p := ⟨sb, so + j, none⟩) hsb).trans (hst j s hj)
  have HSTART : Hid (∀ (s : Nat) (rest : List Nat) (W : World), s ∈ ns → IdM B rb T PP G K ng fin (s :: rest) W → _) := fun s rest W hs h => IdM.start im (List.mem_map.2 ⟨s, hs, rfl⟩) h
  have HSTEP : Hid (∀ (rest : List Nat) (W : World), InM B rb T PP G K HF ng fin rest W → _) := fun rest W h => InM.step im hgl hPP hng h
  have HNB : Hid (B ≤ N) := by rw [hN]; exact hB
  obtain ⟨n, hn'⟩ : ∃ n, n = ns.length := ⟨_, rfl⟩
  have HN := hidd hn'
  rw [← hn'] at hn ⊢
  clear hba hst im hgl hng hI hB hn'
  go_enter_defers Tryz.func17, Tryz.ntmps17
  go_wp2_with fail
  rw [← hN]
  have HNE := hidd hN
  clear hN
  go_loopw [10] (fun ix wr => ∃ (j : Nat), j ≤ n ∧ ix = .int .i64 j ∧ Hid (IdM B rb T PP G K ng fin (ns.drop j) wr ∧ Below B w wr ∧ wr.heap[N]? = some (.cells #[.int .i64 0] 3 (0, 0)))) (fun ix _ => n - (intOf ix).toNat)
  case atStart => exact ⟨0, Nat.zero_le _, rfl, H0.out⟩
  case round =>
    obtain ⟨j, hj, rfl, HL⟩ := hrel
    by_cases hlt : j < n
    · obtain ⟨s, hs⟩ : ∃ s, ns[j]? = some s := ⟨_, List.getElem?_eq_getElem (by rw [← HN.out]; exact hlt)⟩
      have k0 := HST.out j s wr hs HL.out.2.1
      have hdj : ns.drop j = s :: ns.drop (j + 1) := by
        obtain ⟨hi, e⟩ := List.getElem?_eq_some_iff.1 hs
        rw [List.drop_eq_getElem_cons hi, e]
      obtain ⟨pb, po, pc, b, o, cl, cc, p1, p2, p3, p4, p5, ⟨x2, p6⟩, ⟨x3, p7⟩, ⟨x4, p8⟩, p9, p10, p11, p12⟩ := HSTART.out s (ns.drop (j + 1)) wr (List.mem_of_getElem? hs) (by rw [← hdj]; exact HL.out.1)
      have z2 := p9 2
      have z3 := p9 3
      have z4 := p9 4
      have i1 : (0 : Int) ≤ (s : Int) := by omega
      have i2 : (s : Int) < (PP.length : Int) := by omega
      have i3 : (PP.length : Int) ≤ 20000 := by omega
      have ew : ((((wr.alloc (.cells #[.slice none 0 0, .int .i64 0, .int .i64 0, .pointer none, .pointer none] 114)).setCell ⟨rb, 2, none⟩ (.slice (some ⟨b, o, none⟩) cl cc)).setCell ⟨rb, 3, none⟩ (.int .i64 0)).setCell ⟨rb, 4, none⟩ (.pointer (some ⟨wr.heap.size, 0, none⟩))) = ((((wr.setCell ⟨rb, 2, none⟩ (.slice (some ⟨b, o, none⟩) cl cc)).setCell ⟨rb, 3, none⟩ (.int .i64 0)).setCell ⟨rb, 4, none⟩ (.pointer (some ⟨wr.heap.size, 0, none⟩))).alloc (.cells #[.slice none 0 0, .int .i64 0, .int .i64 0, .pointer none, .pointer none] 114)) := by
        rw [World.setCell_alloc_past _ _ _ _ p10, World.setCell_alloc_past _ _ _ _ (by simpa using p10), World.setCell_alloc_past _ _ _ _ (by simpa using p10)]
      rw [ew] at p11 p12
      have HI0 : Hid (InM B rb T PP G K HF ng fin (ns.drop (j + 1)) ((((wr.setCell ⟨rb, 2, none⟩ (.slice (some ⟨b, o, none⟩) cl cc)).setCell ⟨rb, 3, none⟩ (.int .i64 0)).setCell ⟨rb, 4, none⟩ (.pointer (some ⟨wr.heap.size, 0, none⟩))).alloc (.cells #[.slice none 0 0, .int .i64 0, .int .i64 0, .pointer none, .pointer none] 114)) ∧ Below B w ((((wr.setCell ⟨rb, 2, none⟩ (.slice (some ⟨b, o, none⟩) cl cc)).setCell ⟨rb, 3, none⟩ (.int .i64 0)).setCell ⟨rb, 4, none⟩ (.pointer (some ⟨wr.heap.size, 0, none⟩))).alloc (.cells #[.slice none 0 0, .int .i64 0, .int .i64 0, .pointer none, .pointer none] 114)) ∧ ((((wr.setCell ⟨rb, 2, none⟩ (.slice (some ⟨b, o, none⟩) cl cc)).setCell ⟨rb, 3, none⟩ (.int .i64 0)).setCell ⟨rb, 4, none⟩ (.pointer (some ⟨wr.heap.size, 0, none⟩))).alloc (.cells #[.slice none 0 0, .int .i64 0, .int .i64 0, .pointer none, .pointer none] 114)).heap[N]? = some (.cells #[.int .i64 0] 3 (0, 0))) := by
        refine ⟨p11, HL.out.2.1.trans (p12.below p5 (by omega) (fun g hg => by cases hg)), (km_block p12 (Array.getElem?_eq_some_iff.1 HL.out.2.2).1 ?_).trans HL.out.2.2⟩
        rintro rfl
        have := HL.out.2.2
        obtain ⟨gbx, mx, cx, hIx, _⟩ := HL.out.1
        obtain ⟨tvx, hRx⟩ := hIx.rn
        rw [show wr.heap[N]? = _ from hRx] at this
        simp at this
      have hrbN : rb < wr.heap.size := p10
      clear p4 p5 p9 p10 p11 p12 hdj hs H0 HSTART
      go_wp2_with fail
      go_loopw [28] (fun _ wr2 => Hid (InM B rb T PP G K HF ng fin (ns.drop (j + 1)) wr2 ∧ Below B w wr2 ∧ wr2.heap[N]? = some (.cells #[.int .i64 0] 3 (0, 0)))) (fun _ wr2 => leftAt rb wr2)
      case atStart => exact HI0.out
      case round =>
        have HR := hrel
        clear hrel HI0
        have HC := hidd (HSTEP.out _ _ HR.out.1)
        go_wp2_with fail
        refine HC.out.mono ?_
        rintro en w3 ⟨kb, hq⟩
        have HB3 : Hid (Below B w w3 ∧ w3.heap[N]? = some (.cells #[.int .i64 0] 3 (0, 0))) := ⟨HR.out.2.1.trans kb.toBelow, kb.k3 N _ HR.out.2.2⟩
        clear kb HC
        rcases hq with ⟨rfl, hI1, hme⟩ | ⟨rfl, hI1⟩ | ⟨q, gb', rfl, hq1, hq2⟩
        · have HM := hidd hme
          have HI1 := hidd hI1
          clear hI1 hme
          go_wp2_with fail
          go_roundw
          case rel => exact ⟨HI1.out, HB3.out⟩
          case measure => exact HM.out
        · have HI1 := hidd hI1
          clear hI1
          go_wp2_with fail
          go_roundw
          case rel => exact ⟨j + 1, hlt, by go_num, HI1.out, HB3.out⟩
          case measure => simp [intOf]; omega
        · have hb3 := HB3.out.2
          have hN3 : N < w3.heap.size := (Array.getElem?_eq_some_iff.1 hb3).1
          have g0 : w3.cell? ⟨N, 0, none⟩ = some (.int .i64 0) := (cellO hb3).trans rfl
          have y0 : w3.frozen? ⟨N, 0, none⟩ = false := looseO hb3
          have HT : Hid (∀ w2, Below w3.heap.size w3 w2 → ToldRun B rb fin w (.returned (.int .i64 q)) (w2.setCell ⟨N, 0, none⟩ (.int .i64 q))) := fun w2 hb2 => ⟨by rw [hq1], (HB3.out.1.trans (hb2.mono (by have := HNB.out; omega))).setCell (p := ⟨N, 0, none⟩) HNB.out _, gb', (hq2.stay3 hb2).set3 ((hb2.block N hN3).trans hb3)⟩
          clear hq1 hq2 hb3
          go_wp2_with fail
          show bodyPostD _ _ _ _ _ _
          refine leaves_cons (f := 30) (args := #[.pointer (some ⟨N, 0, none⟩)]) (by simp) (by simp [go_sem]) ?_
          refine (catch_ended N q 0 w3 hN3 g0 y0).mono ?_
          rintro e u' w'' ⟨rfl, rfl, w2, hb2, rfl⟩
          have k2 := (hb2.cell (p := ⟨N, 0, none⟩) hN3).trans g0
          have ht := HT.out w2 hb2
          simp [Leaves, settle, results, Tryz.results17, go_sem, k2, ht]
    · obtain rfl : j = n := by omega
      have hbx := HL.out.2.2
      have g0 : wr.cell? ⟨N, 0, none⟩ = some (.int .i64 0) := (cellO hbx).trans rfl
      have y0 : wr.frozen? ⟨N, 0, none⟩ = false := looseO hbx
      have HT : Hid (ToldRun B rb fin w (.returned (.int .i64 1)) (wr.setCell ⟨N, 0, none⟩ (.int .i64 1))) := by
        obtain ⟨gbx, mx, cx, hIx, _, _, _, _, _, hfx⟩ := HL.out.1
        rw [List.drop_eq_nil_of_le (by rw [← HN.out]; exact Nat.le_refl _)] at hfx
        have hfx' : (1, cx) = fin := hfx
        refine ⟨by rw [← hfx'], HL.out.2.1.setCell (p := ⟨N, 0, none⟩) HNB.out _, gbx, ?_⟩
        rw [← hfx']
        exact RT.set3 hIx.rel.run hbx
      clear hbx HSTEP H0 HSTART
      go_wp2_with fail
      refine leaves_cons (f := 30) (args := #[.pointer (some ⟨N, 0, none⟩)]) (by simp) (by simp [go_sem]) ?_
      refine (catch_idle _ _).mono ?_
      rintro e u' w4 ⟨rfl, rfl, rfl⟩
      have ht := HT.out
      simp [Leaves, settle, results, Tryz.results17, go_sem, g0, ht]
end
end Go.Proofs.YthikdpclifeonaaGreatDoor.V
