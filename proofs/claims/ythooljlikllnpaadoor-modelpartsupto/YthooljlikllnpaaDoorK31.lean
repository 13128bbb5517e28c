/- Chapter 7: the store in memory: values, pairs, procedures, rows of parameters, frames. Chapter 7: the store in memory: what leaves it as it is; a pair more; quoted data. Chapter 7: quoted data become values; the two values of a pair. -/
import Derived.Test.YthooljlikllnpaaDoorK25
import Derived.Test.YthooljlikllnpaaDoorK30
namespace Go.Proofs.YthooljlikllnpaaDoor
section
set_option linter.unusedVariables false
set_option linter.unusedSimpArgs false
open Go.RowKit

/-- Where pairs, procedures and rows of parameters lie. -/
structure Mm where
  pr : List Nat
  pc : List Nat
  rw : List Nat
def vT : Val → TypeId
  | .num _ => 104
  | .tru _ => 105
  | .sym _ => 137
  | .nil => 157
  | .pair _ => 158
  | .prim _ => 114
  | .proc _ => 115
def vX (m : Mm) : Val → Value
  | .num n => .int .i64 n
  | .tru b => .bool b
  | .sym s => .string s
  | .nil => .agg #[]
  | .pair i => .pointer (some ⟨m.pr.getD i 0, 0, none⟩)
  | .prim s => .string s
  | .proc i => .pointer (some ⟨m.pc.getD i 0, 0, none⟩)
def vV (m : Mm) (v : Val) : Value := .iface (vT v) (vX m v)
/-- Data whose names are short, and whose numbers there are. -/
inductive SmD : Dat → Prop
  | mk (d : Dat) : (d.kind = 1 ∨ d.kind = 2 ∨ d.kind = 3 ∨ d.kind = 4) → (d.kind = 3 → d.name.size ≤ 100 ∧ d.name.size ≠ 0) → (d.kind = 1 → inR d.n = true) → (d.kind = 4 → ∀ k ∈ d.kids, SmD k) → SmD d
/-- A value of what was made. -/
def VOk (m : Mm) : Val → Prop
  | .num n => inR n = true
  | .sym s => s.size ≤ 100 ∧ s.size ≠ 0
  | .pair i => i < m.pr.length
  | .proc i => i < m.pc.length
  | .prim s => argsB s ≠ 0
  | _ => True
/-- More was made. -/
structure MmX (m m' : Mm) : Prop where
  pr : ∃ l, m'.pr = m.pr ++ l
  pc : ∃ l, m'.pc = m.pc ++ l
  rw : ∃ l, m'.rw = m.rw ++ l
theorem MmX.refl (m : Mm) : MmX m m := ⟨⟨[], by simp⟩, ⟨[], by simp⟩, ⟨[], by simp⟩⟩
theorem MmX.trans {a b c : Mm} (h : MmX a b) (k : MmX b c) : MmX a c := by
  obtain ⟨⟨l1, e1⟩, ⟨l2, e2⟩, ⟨l3, e3⟩⟩ := h
  obtain ⟨⟨r1, f1⟩, ⟨r2, f2⟩, ⟨r3, f3⟩⟩ := k
  exact ⟨⟨l1 ++ r1, by rw [f1, e1, List.append_assoc]⟩, ⟨l2 ++ r2, by rw [f2, e2, List.append_assoc]⟩, ⟨l3 ++ r3, by rw [f3, e3, List.append_assoc]⟩⟩
theorem getD_app {l r : List Nat} {i : Nat} (h : i < l.length) : (l ++ r).getD i 0 = l.getD i 0 := by
  simp [List.getD, List.getElem?_append_left h]
theorem VOk.up {m m' : Mm} {v : Val} (h : VOk m v) (x : MmX m m') : VOk m' v := by
  cases v with
  | pair i => obtain ⟨l, e⟩ := x.pr; show i < m'.pr.length; have h' : i < m.pr.length := h; rw [e, List.length_append]; omega
  | proc i => obtain ⟨l, e⟩ := x.pc; show i < m'.pc.length; have h' : i < m.pc.length := h; rw [e, List.length_append]; omega
  | num n => exact h
  | sym s => exact h
  | prim s => exact h
  | _ => trivial
theorem vX_up {m m' : Mm} {v : Val} (h : VOk m v) (x : MmX m m') : vX m' v = vX m v := by
  cases v with
  | pair i => obtain ⟨l, e⟩ := x.pr; show Value.pointer _ = Value.pointer _; rw [e, getD_app h]
  | proc i => obtain ⟨l, e⟩ := x.pc; show Value.pointer _ = Value.pointer _; rw [e, getD_app h]
  | _ => rfl
theorem vV_up {m m' : Mm} {v : Val} (h : VOk m v) (x : MmX m m') : vV m' v = vV m v := by
  unfold vV
  rw [vX_up h x]
/-- A pair in memory. -/
def PM (B : Nat) (m : Mm) (w : World) (k : Nat) : PairS → Prop
  | .made a b => VOk m a ∧ VOk m b ∧ w.heap[k]? = some (.cells #[vV m a, vV m b, .slice none 0 0] 160 (0, 0))
  | .unmade d ds => ∃ b o c g, w.heap[k]? = some (.cells #[.nilIface, .nilIface, .slice (some ⟨b, o, none⟩) (ds.length + 1) c] 160 (0, 0)) ∧ b < B ∧ Dc (fun k => k < B) w g (some ⟨b, o, none⟩) (d :: ds) ∧ ds.length + 1 ≤ c ∧ ∀ x ∈ d :: ds, SmD x
/-- How many parameters there are in rows. -/
def cnt (rows : List (List Val)) : List Nat → Nat
  | [] => 0
  | r :: e => (rows.getD r []).length + cnt rows e
/-- A frame in memory, and those around it. -/
inductive Fr (w : World) (m : Mm) (rows : List (List Val)) : Nat → List Nat → Prop
  | root (fp : Nat) : RF fp w → Fr w m rows fp []
  | step (fp ar far r : Nat) (e e' : List Nat) : (r < rows.length ∧ 0 < (rows.getD r []).length) → r < m.rw.length →
      w.heap[fp]? = some (.cells #[.slice (some ⟨m.rw.getD r 0, 1, none⟩) (rows.getD r []).length (rows.getD r []).length, .int .i64 ((cnt rows (r :: e) : Nat) : Int), .int .i64 ((e.length + 1 : Nat) : Int), .pointer (some ⟨ar, 0, none⟩), .pointer (some ⟨far, 0, none⟩)] 83 (0, 0)) →
      Fr w m rows ar e → Fr w m rows far e' → (∃ t, e = t ++ e') → Fr w m rows fp (r :: e)
/-- The globals in memory: a map, in the order in which they were given first. -/
def GM (gb : Nat) (m : Mm) (gs : List ((ByteArray × ByteArray) × Val)) (w : World) : Prop := ∃ es clock, w.heap[gb]? = some (.map es clock) ∧ es.size = gs.length ∧ (gs.map Prod.fst).Nodup ∧ ∀ (i : Nat) (k : ByteArray × ByteArray) (v : Val), gs[i]? = some (k, v) → VOk m v ∧ k.1.size ≤ maxLen ∧ k.2.size ≤ maxLen ∧ ∃ born, es[i]? = some { key := .agg #[.string k.1, .string k.2], val := vV m v, born := born }
theorem GM.up {gb : Nat} {m m' : Mm} {gs : List ((ByteArray × ByteArray) × Val)} {w : World} (h : GM gb m gs w) (x : MmX m m') : GM gb m' gs w := by
  obtain ⟨es, clock, h1, h2, h4, h3⟩ := h
  refine ⟨es, clock, h1, h2, h4, fun i k v hi => ?_⟩
  obtain ⟨g1, g2, g3, born, g4⟩ := h3 i k v hi
  exact ⟨g1.up x, g2, g3, born, by rw [vV_up g1 x]; exact g4⟩
theorem GM.stay {gb : Nat} {m : Mm} {gs : List ((ByteArray × ByteArray) × Val)} {w w' : World} (h : GM gb m gs w) (e : w'.heap[gb]? = w.heap[gb]?) : GM gb m gs w' := by
  obtain ⟨es, clock, h1, h2, h3⟩ := h
  exact ⟨es, clock, e.trans h1, h2, h3⟩
theorem GM.lt {gb : Nat} {m : Mm} {gs : List ((ByteArray × ByteArray) × Val)} {w : World} (h : GM gb m gs w) : gb < w.heap.size := by
  obtain ⟨es, clock, h1, _⟩ := h
  exact (Array.getElem?_eq_some_iff.1 h1).1
theorem GM.ne {gb q : Nat} {m : Mm} {gs : List ((ByteArray × ByteArray) × Val)} {w : World} {cs : Array Value} {t : TypeId} {fz : Nat × Nat} (h : GM gb m gs w) (hq : w.heap[q]? = some (.cells cs t fz)) : gb ≠ q := by
  rintro rfl
  obtain ⟨es, clock, h1, _⟩ := h
  rw [h1] at hq
  cases hq
/-- The store in memory. -/
structure Rel (B rb gb : Nat) (m : Mm) (σ : St) (w : World) : Prop where
  run : RT B rb σ.out σ.left σ.calls (.map (some gb)) w
  hB : B ≤ rb
  hg : B ≤ gb
  lp : m.pr.length = σ.pairs.length
  lc : m.pc.length = σ.procs.length
  lr : m.rw.length = σ.rows.length
  np : m.pr.Nodup
  nr : m.rw.Nodup
  nc : m.pc.Nodup
  bp : ∀ k ∈ m.pr, B ≤ k
  br : ∀ k ∈ m.rw, B ≤ k
  bc : ∀ k ∈ m.pc, B ≤ k
  pr : ∀ (i k : Nat) (p : PairS), σ.pairs[i]? = some p → m.pr[i]? = some k → PM B m w k p
  pc : ∀ (i k : Nat) (q : ProcS), σ.procs[i]? = some q → m.pc[i]? = some k → ∃ lb lo g fp, w.heap[k]? = some (.cells #[.int .i64 q.args, .pointer (some ⟨lb, lo, none⟩), .pointer (some ⟨fp, 0, none⟩)] 117 (0, 0)) ∧ Cn B w g lb lo q.body ∧ Fr w m σ.rows fp q.env
  rw : ∀ (r k : Nat) (vs : List Val), σ.rows[r]? = some vs → m.rw[r]? = some k → (∀ v ∈ vs, VOk m v) ∧ ∃ c0, w.heap[k]? = some (.cells (#[c0] ++ (vs.map (vV m)).toArray) 77 (0, 0))
  gl : GM gb m σ.glob w
/-- What is kept: all but what the store has. -/
structure KR (B rb gb : Nat) (m : Mm) (w w' : World) : Prop where
  os : w'.os = w.os
  tape : w'.tape = w.tape
  output : w'.output = w.output
  size : w.heap.size ≤ w'.heap.size
  block : ∀ k, k < w.heap.size → k ≠ rb → k ≠ gb → k ∉ m.pr → k ∉ m.rw → (∀ cs fz, w.heap[k]? = some (.cells cs 9 fz) → k < B) → w'.heap[k]? = w.heap[k]?
theorem KR.refl (B rb gb : Nat) (m : Mm) (w : World) : KR B rb gb m w w := ⟨rfl, rfl, rfl, Nat.le_refl _, fun _ _ _ _ _ _ _ => rfl⟩
theorem KR.ofBelow {B rb gb : Nat} {m : Mm} {w w' : World} (h : Below w.heap.size w w') : KR B rb gb m w w' := ⟨h.os, h.tape, h.output, h.size, fun k hk _ _ _ _ _ => h.block k hk⟩
/-- What is new lies behind what was there. -/
structure New (m m' : Mm) (w : World) : Prop where
  x : MmX m m'
  pr : ∀ k ∈ m'.pr, k ∈ m.pr ∨ w.heap.size ≤ k
  rw : ∀ k ∈ m'.rw, k ∈ m.rw ∨ w.heap.size ≤ k
theorem New.refl (m : Mm) (w : World) : New m m w := ⟨MmX.refl m, fun k h => Or.inl h, fun k h => Or.inl h⟩
theorem KR.trans {B rb gb : Nat} {m m' : Mm} {a b c : World} (h : KR B rb gb m a b) (n : New m m' a) (k : KR B rb gb m' b c) : KR B rb gb m a c :=
  ⟨k.os.trans h.os, k.tape.trans h.tape, k.output.trans h.output, Nat.le_trans h.size k.size, fun i hi h1 h2 h3 h4 h5 => by
    have e := h.block i hi h1 h2 h3 h4 h5
    refine (k.block i (Nat.lt_of_lt_of_le hi h.size) h1 h2 (fun hm => ?_) (fun hm => ?_) (fun cs fz hx => h5 cs fz (e.symm.trans hx))).trans e
    · rcases n.pr i hm with q | q
      · exact h3 q
      · omega
    · rcases n.rw i hm with q | q
      · exact h4 q
      · omega⟩
theorem New.trans {m m' m'' : Mm} {a b : World} (h : New m m' a) (k : New m' m'' b) (hs : a.heap.size ≤ b.heap.size) : New m m'' a :=
  ⟨h.x.trans k.x, fun i hi => by
    rcases k.pr i hi with q | q
    · exact h.pr i q
    · exact Or.inr (by omega), fun i hi => by
    rcases k.rw i hi with q | q
    · exact h.rw i q
    · exact Or.inr (by omega)⟩
theorem KR.toBelow {B rb gb : Nat} {m : Mm} {σ : St} {w w' : World} (h : KR B rb gb m w w') (r : Rel B rb gb m σ w) (hs : B ≤ w.heap.size) : Below B w w' :=
  ⟨h.os, h.tape, h.output, h.size, fun k hk => h.block k (by omega) (by have := r.hB; omega) (by have := r.hg; omega) (fun q => by have := r.bp k q; omega) (fun q => by have := r.br k q; omega) (fun _ _ _ => hk)⟩
end
section
set_option linter.unusedVariables false
set_option linter.unusedSimpArgs false
open Go.RowKit

/-- Blocks of pairs, procedures, values and frames are as they were. -/
def Kd (w w' : World) : Prop := ∀ (k : Nat) (cs : Array Value) (t : TypeId), w.heap[k]? = some (.cells cs t (0, 0)) → (t = 160 ∨ t = 117 ∨ t = 77 ∨ t = 83) → w'.heap[k]? = some (.cells cs t (0, 0))
theorem Kd.ofBelow {w w' : World} (h : Below w.heap.size w w') : Kd w w' := fun k cs t hk _ => (h.block k (Array.getElem?_eq_some_iff.1 hk).1).trans hk
theorem Fr.kept {w w' : World} {m : Mm} {rows : List (List Val)} {fp : Nat} {e : List Nat} (h : Fr w m rows fp e) (hk : Kd w w') : Fr w' m rows fp e := by
  induction h with
  | root fp h => exact .root fp (hk fp _ _ h (by simp))
  | step fp ar far r e e' h1 h2 h3 h4 h5 h6 i1 i2 => exact .step fp ar far r e e' h1 h2 (hk fp _ _ h3 (by simp)) i1 i2 h6
theorem Fr.up {w : World} {m m' : Mm} {rows : List (List Val)} {fp : Nat} {e : List Nat} (h : Fr w m rows fp e) (x : MmX m m') : Fr w m' rows fp e := by
  induction h with
  | root fp h => exact .root fp h
  | step fp ar far r e e' h1 h2 h3 h4 h5 h6 i1 i2 =>
    obtain ⟨l, hl⟩ := x.rw
    refine .step fp ar far r e e' h1 (by rw [hl, List.length_append]; omega) ?_ i1 i2 h6
    rw [hl, getD_app h2]
    exact h3
theorem PM.kept {B : Nat} {m : Mm} {w w' : World} {k : Nat} {p : PairS} (h : PM B m w k p) (hk : Kd w w') (hb : Below B w w') : PM B m w' k p := by
  cases p with
  | made a b => exact ⟨h.1, h.2.1, hk k _ _ h.2.2 (by simp)⟩
  | unmade d ds =>
    obtain ⟨b, o, c, g, h1, h2, h3, h4, h5⟩ := h
    exact ⟨b, o, c, g, hk k _ _ h1 (by simp), h2, Dc.stay (fun q hq => hb.block q hq) (fun _ hq => hq) _ _ _ h3, h4, h5⟩
theorem PM.up {B : Nat} {m m' : Mm} {w : World} {k : Nat} {p : PairS} (h : PM B m w k p) (x : MmX m m') : PM B m' w k p := by
  cases p with
  | made a b =>
    obtain ⟨h1, h2, h3⟩ := h
    exact ⟨h1.up x, h2.up x, by rw [vV_up h1 x, vV_up h2 x]; exact h3⟩
  | unmade d ds => exact h
theorem vals_up {m m' : Mm} {vs : List Val} (h : ∀ v ∈ vs, VOk m v) (x : MmX m m') : vs.map (vV m') = vs.map (vV m) := List.map_congr_left fun v hv => vV_up (h v hv) x
/-- The store stays, where only other blocks change. -/
theorem Rel.keep {B rb gb : Nat} {m : Mm} {σ : St} {w w' : World} (h : Rel B rb gb m σ w) (hk : Kd w w') (hb : Below B w w') (hgm : w'.heap[gb]? = w.heap[gb]?) (o : List (List UInt8)) (l c : Nat) (hr : RT B rb o l c (.map (some gb)) w') : Rel B rb gb m { σ with out := o, left := l, calls := c } w' :=
  ⟨hr, h.hB, h.hg, h.lp, h.lc, h.lr, h.np, h.nr, h.nc, h.bp, h.br, h.bc, fun i k p h1 h2 => (h.pr i k p h1 h2).kept hk hb, fun i k q h1 h2 => by
    obtain ⟨lb, lo, g, fp, g1, g2, g3⟩ := h.pc i k q h1 h2
    exact ⟨lb, lo, g, fp, hk k _ _ g1 (by simp), g2.below hb, g3.kept hk⟩, fun r k vs h1 h2 => by
    obtain ⟨g1, c0, g2⟩ := h.rw r k vs h1 h2
    exact ⟨g1, c0, hk k _ _ g2 (by simp)⟩, h.gl.stay hgm⟩
theorem Rel.below {B rb gb : Nat} {m : Mm} {σ : St} {w w' : World} (h : Rel B rb gb m σ w) (hb : Below w.heap.size w w') (hs : B ≤ w.heap.size) : Rel B rb gb m σ w' :=
  h.keep (Kd.ofBelow hb) (hb.mono hs) (hb.block gb h.gl.lt) σ.out σ.left σ.calls (h.run.below hb)
/-- A pair more. -/
theorem Rel.pair {B rb gb : Nat} {m : Mm} {σ : St} {w : World} (h : Rel B rb gb m σ w) (hs : B ≤ w.heap.size) (cs : Array Value) (p : PairS)
    (hp : PM B { m with pr := m.pr ++ [w.heap.size] } (w.alloc (.cells cs 160)) w.heap.size p) : Rel B rb gb { m with pr := m.pr ++ [w.heap.size] } { σ with pairs := σ.pairs ++ [p] } (w.alloc (.cells cs 160)) ∧ New m { m with pr := m.pr ++ [w.heap.size] } w := by
  have hb : Below w.heap.size w (w.alloc (.cells cs 160)) := (Below.refl _ _).alloc (Nat.le_refl _) _
  have x : MmX m { m with pr := m.pr ++ [w.heap.size] } := ⟨⟨_, rfl⟩, ⟨[], by simp⟩, ⟨[], by simp⟩⟩
  have h' := h.below hb hs
  have lt : ∀ k ∈ m.pr, k < w.heap.size := by
    intro k hk
    obtain ⟨i, hi, e⟩ := List.getElem_of_mem hk
    have h1 : m.pr[i]? = some k := by rw [List.getElem?_eq_getElem hi, e]
    have hil : i < σ.pairs.length := by rw [← h.lp]; exact hi
    have := h.pr i k _ (List.getElem?_eq_getElem hil) h1
    cases hp : σ.pairs[i] with
    | made a b => rw [hp] at this; exact (Array.getElem?_eq_some_iff.1 this.2.2).1
    | unmade d ds =>
      rw [hp] at this
      obtain ⟨b, o, c, g, q1, _⟩ := this
      exact (Array.getElem?_eq_some_iff.1 q1).1
  refine ⟨⟨h'.run, h.hB, h.hg, by simp [h.lp], h.lc, h.lr, ?_, h.nr, h.nc, ?_, h.br, h.bc, ?_, ?_, ?_, h'.gl.up x⟩, x, ?_, fun k hk => Or.inl hk⟩
  · refine List.nodup_append.2 ⟨h.np, by simp, fun a ha b hb => ?_⟩
    simp at hb
    subst hb
    have := lt a ha
    omega
  · intro k hk
    rcases List.mem_append.1 hk with q | q
    · exact h.bp k q
    · simp at q; omega
  · intro i k p' h1 h2
    by_cases hi : i < σ.pairs.length
    · rw [List.getElem?_append_left hi] at h1
      rw [List.getElem?_append_left (by rw [h.lp]; exact hi)] at h2
      exact (h'.pr i k p' h1 h2).up x
    · have hil := (List.getElem?_eq_some_iff.1 h1).1
      simp at hil
      obtain rfl : i = σ.pairs.length := by omega
      rw [List.getElem?_append_right (Nat.le_refl _)] at h1
      rw [List.getElem?_append_right (by rw [h.lp]; exact Nat.le_refl _), h.lp] at h2
      simp at h1 h2
      subst h1
      subst h2
      exact hp
  · intro i k q h1 h2
    obtain ⟨lb, lo, g, fp, g1, g2, g3⟩ := h'.pc i k q h1 h2
    exact ⟨lb, lo, g, fp, g1, g2, g3.up x⟩
  · intro r k vs h1 h2
    obtain ⟨g1, c0, g2⟩ := h'.rw r k vs h1 h2
    exact ⟨fun v hv => (g1 v hv).up x, c0, by rw [vals_up g1 x]; exact g2⟩
  · intro k hk
    rcases List.mem_append.1 hk with q | q
    · exact Or.inl q
    · simp at q; exact Or.inr (by omega)
/-- What is told of a value that is made: the store, with nothing that was there changed. -/
def ToldV (B rb gb : Nat) (m : Mm) (w : World) (r : Val × St) (e : Ending) (w' : World) : Prop := ∃ m', e = .returned (vV m' r.1) ∧ Rel B rb gb m' r.2 w' ∧ New m m' w ∧ VOk m' r.1 ∧ Below w.heap.size w w'
/-- Data in a row, as a slice. -/
def DsV (B : Nat) (w : World) (a : Option Addr) (c : Nat) (ds : List Dat) : Prop := ds = [] ∨ ∃ b o g, a = some ⟨b, o, none⟩ ∧ b < B ∧ Dc (fun k => k < B) w g (some ⟨b, o, none⟩) ds ∧ ds.length ≤ c ∧ ∀ x ∈ ds, SmD x
set_option maxRecDepth 100000 in
set_option maxHeartbeats 1600000 in
theorem listed_any (B rb gb : Nat) (m : Mm) (σ : St) (a : Option Addr) (c : Nat) (ds : List Dat) (w : World) (h : Rel B rb gb m σ w) (hs : B ≤ w.heap.size) (hd : DsV B w a c ds) (hl : ds.length ≤ 9223372036854775807) :
    Calls Tryd.prog 58 #[.slice a ds.length c] w (ToldV B rb gb m w (listedF ds σ)) := by
  cases ds with
  | nil =>
    go_enter Tryd.func58, Tryd.ntmps58
    go_wp2_with fail
    go_ret
    exact ⟨m, rfl, h, New.refl m w, trivial, Below.refl _ _⟩
  | cons d r =>
    obtain ⟨b, o, g, rfl, hb, hdc, hc, hsm⟩ := hd.resolve_left (by simp)
    have hp : PM B { m with pr := m.pr ++ [w.heap.size] } (w.alloc (.cells #[.nilIface, .nilIface, .slice (some ⟨b, o, none⟩) (r.length + 1) c] 160)) w.heap.size (.unmade d r) :=
      ⟨b, o, c, g, World.alloc_heap_new w _, hb, Dc.stay (fun q hq => ((Below.refl w.heap.size w).alloc (Nat.le_refl _) _).block q (by omega)) (fun _ hq => hq) _ _ _ hdc, hc, hsm⟩
    have HR := hidd (h.pair hs _ _ hp)
    have hlen : (d :: r).length = r.length + 1 := rfl
    rw [hlen] at hl ⊢
    have hd0 : (((r.length + 1 : Nat) : Int) == 0) = false := by simp; omega
    have HLP := hidd h.lp
    clear hp h hdc hd
    generalize r.length + 1 = N at *
    go_enter Tryd.func58, Tryd.ntmps58
    go_wp2_with fail
    go_ret
    refine ⟨_, ?_, HR.out.1, HR.out.2, ?_, (Below.refl _ _).alloc (Nat.le_refl _) _⟩
    · show Ending.returned _ = Ending.returned (.iface 158 (.pointer (some ⟨(m.pr ++ [w.heap.size]).getD σ.pairs.length 0, 0, none⟩)))
      rw [← HLP.out]
      simp
    · show σ.pairs.length < (m.pr ++ [w.heap.size]).length
      rw [← HLP.out]
      simp
end
section
set_option linter.unusedVariables false
set_option linter.unusedSimpArgs false
open Go.RowKit

theorem beq_dec (a b : Int) : (a == b) = decide (a = b) := by
  by_cases h : a = b <;> simp [h]
/-- A datum in memory. -/
def DatM (B : Nat) (w : World) (b o : Nat) (d : Dat) : Prop := b < B ∧ ∃ a c, w.cell? ⟨b, o, none⟩ = some (.int .i64 d.kind) ∧ w.cell? ⟨b, o + 1, none⟩ = some (.int .i64 d.n) ∧ w.cell? ⟨b, o + 2, none⟩ = some (.string d.name) ∧ w.cell? ⟨b, o + 5, none⟩ = some (.slice a d.kids.length c) ∧ (d.kind = 4 → DsV B w a c d.kids) ∧ d.kids.length ≤ 9223372036854775807 ∧ SmD d
theorem DsV.of {B : Nat} {w : World} {g : Nat} {a : Option Addr} {c : Nat} {ds : List Dat} (h : Dc (fun k => k < B) w g a ds) (hc : ds.length ≤ c) (hsm : ∀ x ∈ ds, SmD x) : DsV B w a c ds := by
  by_cases h0 : ds = []
  · exact Or.inl h0
  cases g with
  | zero => exact absurd h h0
  | succ g =>
    rcases h.2 with h1 | ⟨b, o, ha, hb, hh⟩
    · exact absurd h1 h0
    · subst ha
      exact Or.inr ⟨b, o, g + 1, rfl, hb, h, hc, hsm⟩
theorem Dc.len {ok : Nat → Prop} {w : World} {g : Nat} {a : Option Addr} {ds : List Dat} (h : Dc ok w g a ds) : ds.length ≤ 9223372036854775807 := by
  cases g with
  | zero => rw [show ds = [] from h]; exact Nat.zero_le _
  | succ g => exact h.1
theorem DatM.of {B : Nat} {w : World} {g b o i : Nat} {ds : List Dat} {d : Dat} (h : Dc (fun k => k < B) w g (some ⟨b, o, none⟩) ds) (hi : ds[i]? = some d) (hsm : SmD d) : DatM B w b (o + i * 6) d := by
  cases g with
  | zero => rw [show ds = [] from h] at hi; simp at hi
  | succ g =>
    rcases h.2 with h1 | ⟨b', o', ha, hb, hh⟩
    · rw [h1] at hi; simp at hi
    · cases ha
      obtain ⟨a', cap, c0, c1, c2, c3, c4, c5, hn, hc, hk⟩ := hh i d hi
      exact ⟨hb, a', cap, c0, c1, c2, c5, fun h4 => DsV.of hk hc (by cases hsm with | mk _ _ _ _ q => exact q h4), hk.len, hsm⟩
theorem DsV.tail {B : Nat} {w : World} {g b o c : Nat} {d : Dat} {r : List Dat} (h : Dc (fun k => k < B) w g (some ⟨b, o, none⟩) (d :: r)) (hb : b < B) (hc : r.length + 1 ≤ c) (hsm : ∀ x ∈ r, SmD x) : DsV B w (if c = 1 then some ⟨b, o, none⟩ else some ⟨b, o + 6, none⟩) (c - 1) r := by
  cases g with
  | zero => exact absurd h (by simp [Dc])
  | succ g =>
    rcases h.2 with h1 | ⟨b', o', ha, hb', hh⟩
    · cases h1
    · cases ha
      by_cases h0 : r = []
      · exact Or.inl h0
      have hpos : 0 < r.length := List.length_pos_iff.2 h0
      have hlen := h.1
      refine Or.inr ⟨b, o + 6, g + 1, by rw [if_neg (by omega)], hb, ⟨by simp at hlen; omega, Or.inr ⟨b, o + 6, rfl, hb, fun i x hx => ?_⟩⟩, by omega, hsm⟩
      have := hh (i + 1) x (by simpa using hx)
      have e : o + (i + 1) * 6 = o + 6 + i * 6 := by omega
      rw [e] at this
      exact this
theorem DatM.below {B : Nat} {w w' : World} {b o : Nat} {d : Dat} (h : DatM B w b o d) (hb : Below B w w') : DatM B w' b o d := by
  obtain ⟨h0, a, c, h1, h2, h3, h4, h5, h6, h7⟩ := h
  refine ⟨h0, a, c, (hb.cell (p := ⟨b, o, none⟩) h0).trans h1, (hb.cell (p := ⟨b, o + 1, none⟩) h0).trans h2, (hb.cell (p := ⟨b, o + 2, none⟩) h0).trans h3, (hb.cell (p := ⟨b, o + 5, none⟩) h0).trans h4, ?_, h6, h7⟩
  intro h4
  rcases h5 h4 with h5 | ⟨b', o', g, q1, q2, q3, q4, q5⟩
  · exact Or.inl h5
  · exact Or.inr ⟨b', o', g, q1, q2, Dc.stay (fun k hk => hb.block k hk) (fun _ hk => hk) _ _ _ q3, q4, q5⟩
theorem DsV.below {B : Nat} {w w' : World} {a : Option Addr} {c : Nat} {ds : List Dat} (h : DsV B w a c ds) (hb : Below B w w') : DsV B w' a c ds := by
  rcases h with h5 | ⟨b', o', g, q1, q2, q3, q4, q5⟩
  · exact Or.inl h5
  · exact Or.inr ⟨b', o', g, q1, q2, Dc.stay (fun k hk => hb.block k hk) (fun _ hk => hk) _ _ _ q3, q4, q5⟩
set_option maxRecDepth 100000 in
set_option maxHeartbeats 1600000 in
theorem quoted_any (B rb gb : Nat) (m : Mm) (σ : St) (b o : Nat) (d : Dat) (w : World) (h : Rel B rb gb m σ w) (hs : B ≤ w.heap.size) (hd : DatM B w b o d) :
    Calls Tryd.prog 40 #[.pointer (some ⟨b, o, none⟩)] w (ToldV B rb gb m w (quotedF d σ)) := by
  obtain ⟨h0, a, c, c0, c1, c2, c5, hds, hlen, hsm⟩ := hd
  obtain ⟨hs0, hs1, hs2⟩ : (d.kind = 1 ∨ d.kind = 2 ∨ d.kind = 3 ∨ d.kind = 4) ∧ (d.kind = 3 → d.name.size ≤ 100 ∧ d.name.size ≠ 0) ∧ (d.kind = 1 → inR d.n = true) := by
    cases hsm with
    | mk _ q0 q1 q2 _ => exact ⟨q0, q1, q2⟩
  have HSM : Hid ((d.kind = 3 → d.name.size ≤ 100 ∧ d.name.size ≠ 0) ∧ (d.kind = 1 → inR d.n = true) ∧ (d.kind = 1 ∨ d.kind = 2 ∨ d.kind = 3 ∨ d.kind = 4)) := ⟨hs1, hs2, hs0⟩
  clear hsm hs1 hs2 hs0
  have HL := hidd (fun h4 => listed_any B rb gb m σ a c d.kids w h hs (hds h4) hlen)
  have HR := hidd h
  clear h hds
  unfold quotedF
  by_cases k1 : d.kind = 1
  · rw [if_pos k1]
    rw [k1] at c0
    go_enter Tryd.func40, Tryd.ntmps40
    go_wp2_with fail
    go_ret
    exact ⟨m, rfl, HR.out, New.refl m w, HSM.out.2.1 k1, Below.refl _ _⟩
  rw [if_neg k1]
  have j1 : (d.kind == 1) = false := by simpa using k1
  by_cases k2 : d.kind = 2
  · rw [if_pos k2]
    rw [k2] at c0
    go_enter Tryd.func40, Tryd.ntmps40
    go_wp2_with fail
    go_ret
    exact ⟨m, by show Ending.returned _ = Ending.returned (.iface 105 (.bool (decide (d.n = 1)))); rw [beq_dec]; rfl, HR.out, New.refl m w, trivial, Below.refl _ _⟩
  rw [if_neg k2]
  have j2 : (d.kind == 2) = false := by simpa using k2
  by_cases k3 : d.kind = 3
  · rw [if_pos k3]
    rw [k3] at c0
    go_enter Tryd.func40, Tryd.ntmps40
    go_wp2_with fail
    go_ret
    exact ⟨m, rfl, HR.out, New.refl m w, HSM.out.1 k3, Below.refl _ _⟩
  rw [if_neg k3]
  have j3 : (d.kind == 3) = false := by simpa using k3
  go_enter Tryd.func40, Tryd.ntmps40
  go_wp2_with fail
  refine (HL.out (by have := HSM.out.2.2; omega)).mono ?_
  rintro e w1 ⟨m', rfl, g1, g2, g3, g4⟩
  go_wp2_with fail
  go_ret
  exact ⟨m', rfl, g1, g2, g3, g4⟩
end
end Go.Proofs.YthooljlikllnpaaDoor
