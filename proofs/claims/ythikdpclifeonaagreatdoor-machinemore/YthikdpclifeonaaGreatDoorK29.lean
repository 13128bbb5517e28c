/- Chapter 11: the store stays; a pair more Chapter 11: what is quoted Chapter 11: the two values of a pair -/
import Derived.Test.YthikdpclifeonaaGreatDoorK28
namespace Go.Proofs.YthikdpclifeonaaGreatDoor.V
section
set_option linter.unusedVariables false
set_option linter.unusedSimpArgs false
open Go.RowKit
open Go.Proofs.YthikdpclifeonaaGreatDoor

/-- Blocks of pairs, procedures, values and frames are as they were. -/
def Kd (w w' : World) : Prop := ∀ (k : Nat) (cs : Array Value) (t : TypeId), w.heap[k]? = some (.cells cs t (0, 0)) → (t = 245 ∨ t = 172 ∨ t = 155 ∨ t = 114) → w'.heap[k]? = some (.cells cs t (0, 0))
theorem Kd.ofBelow {w w' : World} (h : Below w.heap.size w w') : Kd w w' := fun k cs t hk _ => (h.block k (Array.getElem?_eq_some_iff.1 hk).1).trans hk
theorem Fr.kept {w w' : World} {m : Mm} {rows : List (List Val)} {fp : Nat} {e : List Nat} (h : Fr w m rows fp e) (hk : Kd w w') : Fr w' m rows fp e := by
  induction h with
  | root fp h => exact .root fp (hk fp _ _ h (by simp))
  | step fp ar far r cp e e' h1 h2 h3 h4 h5 h6 i1 i2 => exact .step fp ar far r cp e e' h1 h2 (hk fp _ _ h3 (by simp)) i1 i2 h6
theorem Fr.up {w : World} {m m' : Mm} {rows : List (List Val)} {fp : Nat} {e : List Nat} (h : Fr w m rows fp e) (x : MmX m m') : Fr w m' rows fp e := by
  induction h with
  | root fp h => exact .root fp h
  | step fp ar far r cp e e' h1 h2 h3 h4 h5 h6 i1 i2 =>
    obtain ⟨l, hl⟩ := x.rw
    refine .step fp ar far r cp e e' h1 (by rw [hl, List.length_append]; omega) ?_ i1 i2 h6
    rw [hl, getD_app h2]
    exact h3
theorem PM.kept {B : Nat} {m : Mm} {w w' : World} {k : Nat} {p : PairS} (h : PM B m w k p) (hk : Kd w w') (hb : Below B w w') : PM B m w' k p := by
  cases p with
  | made a b => exact ⟨h.1, h.2.1, hk k _ _ h.2.2 (by simp)⟩
  | unmade d ds =>
    obtain ⟨b, o, c, g, h1, h2, h3, h4, h5⟩ := h
    exact ⟨b, o, c, g, hk k _ _ h1 (by simp), h2, Dc.stay (fun q hq => hb.block q hq) (fun _ hq => hq) _ _ _ h3, h4, h5⟩
theorem PM.up {B : Nat} {m m' : Mm} {w : World} {k : Nat} {p : PairS} (h : PM B m w k p) (x : MmX m m') : PM B m' w k p := by
  cases p with
  | made a b =>
    obtain ⟨h1, h2, h3⟩ := h
    exact ⟨h1.up x, h2.up x, by rw [vV_up h1 x, vV_up h2 x]; exact h3⟩
  | unmade d ds => exact h
theorem vals_up {m m' : Mm} {vs : List Val} (h : ∀ v ∈ vs, VOk m v) (x : MmX m m') : vs.map (vV m') = vs.map (vV m) := List.map_congr_left fun v hv => vV_up (h v hv) x
/-- The store stays, where only other blocks change. -/
theorem Rel.keep {B rb : Nat} {gb : Rc} {m : Mm} {σ : St} {w w' : World} (h : Rel B rb gb m σ w) (hk : Kd w w') (hb : Below B w w') (o : List (List UInt8)) (hr : RT B rb o gb w') : Rel B rb gb m { σ with out := o } w' :=
  ⟨hr, h.hB, h.hg, h.lp, h.lc, h.lr, h.np, h.nr, h.nc, h.bp, h.br, h.bc, fun i k p h1 h2 => (h.pr i k p h1 h2).kept hk hb, fun i k q h1 h2 => by
    obtain ⟨fp, g1, g3⟩ := h.pc i k q h1 h2
    exact ⟨fp, hk k _ _ g1 (by simp), g3.kept hk⟩, fun r k vs h1 h2 => by
    obtain ⟨g1, c0, g2⟩ := h.rw r k vs h1 h2
    exact ⟨g1, c0, hk k _ _ g2 (by simp)⟩, trivial⟩
theorem Rel.below {B rb : Nat} {gb : Rc} {m : Mm} {σ : St} {w w' : World} (h : Rel B rb gb m σ w) (hb : Below w.heap.size w w') (hs : B ≤ w.heap.size) : Rel B rb gb m σ w' :=
  h.keep (Kd.ofBelow hb) (hb.mono hs) σ.out (h.run.below hb)
/-- A pair more. -/
theorem Rel.pair {B rb : Nat} {gb : Rc} {m : Mm} {σ : St} {w : World} (h : Rel B rb gb m σ w) (hs : B ≤ w.heap.size) (cs : Array Value) (p : PairS)
    (hp : PM B { m with pr := m.pr ++ [w.heap.size] } (w.alloc (.cells cs 245)) w.heap.size p) : Rel B rb gb { m with pr := m.pr ++ [w.heap.size] } { σ with pairs := σ.pairs ++ [p] } (w.alloc (.cells cs 245)) ∧ New m { m with pr := m.pr ++ [w.heap.size] } w := by
  have hb : Below w.heap.size w (w.alloc (.cells cs 245)) := (Below.refl _ _).alloc (Nat.le_refl _) _
  have x : MmX m { m with pr := m.pr ++ [w.heap.size] } := ⟨⟨_, rfl⟩, ⟨[], by simp⟩, ⟨[], by simp⟩⟩
  have h' := h.below hb hs
  have lt : ∀ k ∈ m.pr, k < w.heap.size := by
    intro k hk
    obtain ⟨i, hi, e⟩ := List.getElem_of_mem hk
    have h1 : m.pr[i]? = some k := by rw [List.getElem?_eq_getElem hi, e]
    have hil : i < σ.pairs.length := by rw [← h.lp]; exact hi
    have := h.pr i k _ (List.getElem?_eq_getElem hil) h1
    cases hp : σ.pairs[i] with
    | made a b => rw [hp] at this; exact (Array.getElem?_eq_some_iff.1 this.2.2).1
    | unmade d ds =>
      rw [hp] at this
      obtain ⟨b, o, c, g, q1, _⟩ := this
      exact (Array.getElem?_eq_some_iff.1 q1).1
  refine ⟨⟨h'.run, h.hB, h.hg, by simp [h.lp], h.lc, h.lr, ?_, h.nr, h.nc, ?_, h.br, h.bc, ?_, ?_, ?_, trivial⟩, x, ?_, fun k hk => Or.inl hk⟩
  · refine List.nodup_append.2 ⟨h.np, by simp, fun a ha b hb => ?_⟩
    simp at hb
    subst hb
    have := lt a ha
    omega
  · intro k hk
    rcases List.mem_append.1 hk with q | q
    · exact h.bp k q
    · simp at q; omega
  · intro i k p' h1 h2
    by_cases hi : i < σ.pairs.length
    · rw [List.getElem?_append_left hi] at h1
      rw [List.getElem?_append_left (by rw [h.lp]; exact hi)] at h2
      exact (h'.pr i k p' h1 h2).up x
    · have hil := (List.getElem?_eq_some_iff.1 h1).1
      simp at hil
      obtain rfl : i = σ.pairs.length := by omega
      rw [List.getElem?_append_right (Nat.le_refl _)] at h1
      rw [List.getElem?_append_right (by rw [h.lp]; exact Nat.le_refl _), h.lp] at h2
      simp at h1 h2
      subst h1
      subst h2
      exact hp
  · intro i k q h1 h2
    obtain ⟨fp, g1, g3⟩ := h'.pc i k q h1 h2
    exact ⟨fp, g1, g3.up x⟩
  · intro r k vs h1 h2
    obtain ⟨g1, c0, g2⟩ := h'.rw r k vs h1 h2
    exact ⟨fun v hv => (g1 v hv).up x, c0, by rw [vals_up g1 x]; exact g2⟩
  · intro k hk
    rcases List.mem_append.1 hk with q | q
    · exact Or.inl q
    · simp at q; exact Or.inr (by omega)
/-- What is told of a value that is made: the store, with nothing that was there changed. -/
def ToldV (B rb : Nat) (gb : Rc) (m : Mm) (w : World) (r : Val × St) (e : Ending) (w' : World) : Prop := ∃ m', e = .returned (vV m' r.1) ∧ Rel B rb gb m' r.2 w' ∧ New m m' w ∧ VOk m' r.1 ∧ Below w.heap.size w w'
/-- Data in a row, as a slice. -/
def DsV (B : Nat) (w : World) (a : Option Addr) (c : Nat) (ds : List Dat) : Prop := ds = [] ∨ ∃ b o g, a = some ⟨b, o, none⟩ ∧ b < B ∧ Dc (fun k => k < B) w g (some ⟨b, o, none⟩) ds ∧ ds.length ≤ c ∧ ∀ x ∈ ds, SmD x
set_option maxRecDepth 100000 in
set_option maxHeartbeats 1600000 in
theorem listed_any (B rb : Nat) (gb : Rc) (m : Mm) (σ : St) (a : Option Addr) (c : Nat) (ds : List Dat) (w : World) (h : Rel B rb gb m σ w) (hs : B ≤ w.heap.size) (hd : DsV B w a c ds) (hl : ds.length ≤ 9223372036854775807) :
    Calls Tryz.prog 106 #[.slice a ds.length c] w (ToldV B rb gb m w (listedF ds σ)) := by
  cases ds with
  | nil =>
    go_enter Tryz.func106, Tryz.ntmps106
    go_wp2_with fail
    go_ret
    exact ⟨m, rfl, h, New.refl m w, trivial, Below.refl _ _⟩
  | cons d r =>
    obtain ⟨b, o, g, rfl, hb, hdc, hc, hsm⟩ := hd.resolve_left (by simp)
    have hp : PM B { m with pr := m.pr ++ [w.heap.size] } (w.alloc (.cells #[.nilIface, .nilIface, .slice (some ⟨b, o, none⟩) (r.length + 1) c] 245)) w.heap.size (.unmade d r) :=
      ⟨b, o, c, g, World.alloc_heap_new w _, hb, Dc.stay (fun q hq => ((Below.refl w.heap.size w).alloc (Nat.le_refl _) _).block q (by omega)) (fun _ hq => hq) _ _ _ hdc, hc, hsm⟩
    have HR := hidd (h.pair hs _ _ hp)
    have hlen : (d :: r).length = r.length + 1 := rfl
    rw [hlen] at hl ⊢
    have hd0 : (((r.length + 1 : Nat) : Int) == 0) = false := by simp; omega
    have HLP := hidd h.lp
    clear hp h hdc hd
    generalize r.length + 1 = N at *
    go_enter Tryz.func106, Tryz.ntmps106
    go_wp2_with fail
    go_ret
    refine ⟨_, ?_, HR.out.1, HR.out.2, ?_, (Below.refl _ _).alloc (Nat.le_refl _) _⟩
    · show Ending.returned _ = Ending.returned (.iface 243 (.pointer (some ⟨(m.pr ++ [w.heap.size]).getD σ.pairs.length 0, 0, none⟩)))
      rw [← HLP.out]
      simp
    · show σ.pairs.length < (m.pr ++ [w.heap.size]).length
      rw [← HLP.out]
      simp
end
section
set_option linter.unusedVariables false
set_option linter.unusedSimpArgs false
open Go.RowKit
open Go.Proofs.YthikdpclifeonaaGreatDoor

theorem beq_dec (a b : Int) : (a == b) = decide (a = b) := by
  by_cases h : a = b <;> simp [h]
/-- A datum in memory. -/
def DatM (B : Nat) (w : World) (b o : Nat) (d : Dat) : Prop := b < B ∧ ∃ a c, w.cell? ⟨b, o, none⟩ = some (.int .i64 d.kind) ∧ w.cell? ⟨b, o + 1, none⟩ = some (.int .i64 d.n) ∧ w.cell? ⟨b, o + 2, none⟩ = some (.string d.name) ∧ w.cell? ⟨b, o + 5, none⟩ = some (.slice a d.kids.length c) ∧ (d.kind = 4 → DsV B w a c d.kids) ∧ d.kids.length ≤ 9223372036854775807 ∧ SmD d
theorem DsV.of {B : Nat} {w : World} {g : Nat} {a : Option Addr} {c : Nat} {ds : List Dat} (h : Dc (fun k => k < B) w g a ds) (hc : ds.length ≤ c) (hsm : ∀ x ∈ ds, SmD x) : DsV B w a c ds := by
  by_cases h0 : ds = []
  · exact Or.inl h0
  cases g with
  | zero => exact absurd h h0
  | succ g =>
    rcases h.2 with h1 | ⟨b, o, ha, hb, hh⟩
    · exact absurd h1 h0
    · subst ha
      exact Or.inr ⟨b, o, g + 1, rfl, hb, h, hc, hsm⟩
theorem _root_.Go.Proofs.YthikdpclifeonaaGreatDoor.Dc.len {ok : Nat → Prop} {w : World} {g : Nat} {a : Option Addr} {ds : List Dat} (h : Dc ok w g a ds) : ds.length ≤ 9223372036854775807 := by
  cases g with
  | zero => rw [show ds = [] from h]; exact Nat.zero_le _
  | succ g => exact h.1
theorem DatM.of {B : Nat} {w : World} {g b o i : Nat} {ds : List Dat} {d : Dat} (h : Dc (fun k => k < B) w g (some ⟨b, o, none⟩) ds) (hi : ds[i]? = some d) (hsm : SmD d) : DatM B w b (o + i * 6) d := by
  cases g with
  | zero => rw [show ds = [] from h] at hi; simp at hi
  | succ g =>
    rcases h.2 with h1 | ⟨b', o', ha, hb, hh⟩
    · rw [h1] at hi; simp at hi
    · cases ha
      obtain ⟨a', cap, c0, c1, c2, c3, c4, c5, hn, hc, hk⟩ := hh i d hi
      exact ⟨hb, a', cap, c0, c1, c2, c5, fun h4 => DsV.of hk hc (by cases hsm with | mk _ _ _ _ q => exact q h4), hk.len, hsm⟩
theorem DsV.tail {B : Nat} {w : World} {g b o c : Nat} {d : Dat} {r : List Dat} (h : Dc (fun k => k < B) w g (some ⟨b, o, none⟩) (d :: r)) (hb : b < B) (hc : r.length + 1 ≤ c) (hsm : ∀ x ∈ r, SmD x) : DsV B w (if c = 1 then some ⟨b, o, none⟩ else some ⟨b, o + 6, none⟩) (c - 1) r := by
  cases g with
  | zero => exact absurd h (by simp [Dc])
  | succ g =>
    rcases h.2 with h1 | ⟨b', o', ha, hb', hh⟩
    · cases h1
    · cases ha
      by_cases h0 : r = []
      · exact Or.inl h0
      have hpos : 0 < r.length := List.length_pos_iff.2 h0
      have hlen := h.1
      refine Or.inr ⟨b, o + 6, g + 1, by rw [if_neg (by omega)], hb, ⟨by simp at hlen; omega, Or.inr ⟨b, o + 6, rfl, hb, fun i x hx => ?_⟩⟩, by omega, hsm⟩
      have := hh (i + 1) x (by simpa using hx)
      have e : o + (i + 1) * 6 = o + 6 + i * 6 := by omega
      rw [e] at this
      exact this
theorem DatM.below {B : Nat} {w w' : World} {b o : Nat} {d : Dat} (h : DatM B w b o d) (hb : Below B w w') : DatM B w' b o d := by
  obtain ⟨h0, a, c, h1, h2, h3, h4, h5, h6, h7⟩ := h
  refine ⟨h0, a, c, (hb.cell (p := ⟨b, o, none⟩) h0).trans h1, (hb.cell (p := ⟨b, o + 1, none⟩) h0).trans h2, (hb.cell (p := ⟨b, o + 2, none⟩) h0).trans h3, (hb.cell (p := ⟨b, o + 5, none⟩) h0).trans h4, ?_, h6, h7⟩
  intro h4
  rcases h5 h4 with h5 | ⟨b', o', g, q1, q2, q3, q4, q5⟩
  · exact Or.inl h5
  · exact Or.inr ⟨b', o', g, q1, q2, Dc.stay (fun k hk => hb.block k hk) (fun _ hk => hk) _ _ _ q3, q4, q5⟩
theorem DsV.below {B : Nat} {w w' : World} {a : Option Addr} {c : Nat} {ds : List Dat} (h : DsV B w a c ds) (hb : Below B w w') : DsV B w' a c ds := by
  rcases h with h5 | ⟨b', o', g, q1, q2, q3, q4, q5⟩
  · exact Or.inl h5
  · exact Or.inr ⟨b', o', g, q1, q2, Dc.stay (fun k hk => hb.block k hk) (fun _ hk => hk) _ _ _ q3, q4, q5⟩
set_option maxRecDepth 100000 in
set_option maxHeartbeats 1600000 in
theorem quoted_any (B rb : Nat) (gb : Rc) (m : Mm) (σ : St) (b o : Nat) (d : Dat) (w : World) (h : Rel B rb gb m σ w) (hs : B ≤ w.heap.size) (hd : DatM B w b o d) :
    Calls Tryz.prog 67 #[.pointer (some ⟨b, o, none⟩)] w (ToldV B rb gb m w (quotedF d σ)) := by
  obtain ⟨h0, a, c, c0, c1, c2, c5, hds, hlen, hsm⟩ := hd
  obtain ⟨hs0, hs1, hs2⟩ : (d.kind = 1 ∨ d.kind = 2 ∨ d.kind = 3 ∨ d.kind = 4) ∧ (d.kind = 3 → d.name.size ≤ 100 ∧ d.name.size ≠ 0) ∧ (d.kind = 1 → inR d.n = true) := by
    cases hsm with
    | mk _ q0 q1 q2 _ => exact ⟨q0, q1, q2⟩
  have HSM : Hid ((d.kind = 3 → d.name.size ≤ 100 ∧ d.name.size ≠ 0) ∧ (d.kind = 1 → inR d.n = true) ∧ (d.kind = 1 ∨ d.kind = 2 ∨ d.kind = 3 ∨ d.kind = 4)) := ⟨hs1, hs2, hs0⟩
  clear hsm hs1 hs2 hs0
  have HL := hidd (fun h4 => listed_any B rb gb m σ a c d.kids w h hs (hds h4) hlen)
  have HR := hidd h
  clear h hds
  unfold quotedF
  by_cases k1 : d.kind = 1
  · rw [if_pos k1]
    rw [k1] at c0
    go_enter Tryz.func67, Tryz.ntmps67
    go_wp2_with fail
    go_ret
    exact ⟨m, rfl, HR.out, New.refl m w, HSM.out.2.1 k1, Below.refl _ _⟩
  rw [if_neg k1]
  have j1 : (d.kind == 1) = false := by simpa using k1
  by_cases k2 : d.kind = 2
  · rw [if_pos k2]
    rw [k2] at c0
    go_enter Tryz.func67, Tryz.ntmps67
    go_wp2_with fail
    go_ret
    exact ⟨m, by show Ending.returned _ = Ending.returned (.iface 163 (.bool (decide (d.n = 1)))); rw [beq_dec]; rfl, HR.out, New.refl m w, trivial, Below.refl _ _⟩
  rw [if_neg k2]
  have j2 : (d.kind == 2) = false := by simpa using k2
  by_cases k3 : d.kind = 3
  · rw [if_pos k3]
    rw [k3] at c0
    go_enter Tryz.func67, Tryz.ntmps67
    go_wp2_with fail
    go_ret
    exact ⟨m, rfl, HR.out, New.refl m w, HSM.out.1 k3, Below.refl _ _⟩
  rw [if_neg k3]
  have j3 : (d.kind == 3) = false := by simpa using k3
  go_enter Tryz.func67, Tryz.ntmps67
  go_wp2_with fail
  refine (HL.out (by have := HSM.out.2.2; omega)).mono ?_
  rintro e w1 ⟨m', rfl, g1, g2, g3, g4⟩
  go_wp2_with fail
  go_ret
  exact ⟨m', rfl, g1, g2, g3, g4⟩
end
section
set_option linter.unusedVariables false
set_option linter.unusedSimpArgs false
open Go.RowKit
open Go.Proofs.YthikdpclifeonaaGreatDoor

theorem Rel.lt {B rb : Nat} {gb : Rc} {m : Mm} {σ : St} {w : World} (h : Rel B rb gb m σ w) {i k : Nat} (h2 : m.pr[i]? = some k) : ∃ p, σ.pairs[i]? = some p ∧ PM B m w k p ∧ k < w.heap.size := by
  have hi : i < σ.pairs.length := by rw [← h.lp]; exact (List.getElem?_eq_some_iff.1 h2).1
  refine ⟨_, List.getElem?_eq_getElem hi, h.pr i k _ (List.getElem?_eq_getElem hi) h2, ?_⟩
  have := h.pr i k _ (List.getElem?_eq_getElem hi) h2
  cases hp : σ.pairs[i] with
  | made a b => rw [hp] at this; exact (Array.getElem?_eq_some_iff.1 this.2.2).1
  | unmade d ds =>
    rw [hp] at this
    obtain ⟨b, o, c, g, q1, _⟩ := this
    exact (Array.getElem?_eq_some_iff.1 q1).1
theorem PM.block {B : Nat} {m : Mm} {w : World} {k : Nat} {p : PairS} (h : PM B m w k p) : ∃ cs, w.heap[k]? = some (.cells cs 245 (0, 0)) := by
  cases p with
  | made a b => exact ⟨_, h.2.2⟩
  | unmade d ds =>
    obtain ⟨b, o, c, g, q1, _⟩ := h
    exact ⟨_, q1⟩
/-- A pair is made. -/
theorem Rel.make {B rb : Nat} {gb : Rc} {m : Mm} {σ : St} {w w' : World} {i k : Nat} {a b : Val} (h : Rel B rb gb m σ w) (hs : B ≤ w.heap.size) (hi : m.pr[i]? = some k) (ha : VOk m a) (hb : VOk m b) (hw : ∀ q, q ≠ k → w'.heap[q]? = w.heap[q]?) (hz : w'.heap.size = w.heap.size) (ho : w'.os = w.os) (ht : w'.tape = w.tape) (hp : w'.output = w.output)
    (hk : w'.heap[k]? = some (.cells #[vV m a, vV m b, .slice none 0 0] 245 (0, 0))) : Rel B rb gb m { σ with pairs := σ.pairs.set i (.made a b) } w' := by
  obtain ⟨p0, hp0, hpm, hkl⟩ := h.lt hi
  obtain ⟨cs0, hc0⟩ := hpm.block
  have hkb : B ≤ k := h.bp k (List.mem_of_getElem? hi)
  have hbB : Below B w w' := ⟨ho, ht, hp, by omega, fun q hq => hw q (by omega)⟩
  have kd : ∀ (q : Nat) (cs : Array Value) (t : TypeId), w.heap[q]? = some (.cells cs t (0, 0)) → t ≠ 245 → w'.heap[q]? = some (.cells cs t (0, 0)) := fun q cs t hq hne => (hw q (ne_type hc0 hq hne)).trans hq
  have frk : ∀ fp e, Fr w m σ.rows fp e → Fr w' m σ.rows fp e := by
    intro fp e hf
    induction hf with
    | root fp h => exact .root fp (kd fp _ _ h (by decide))
    | step fp ar far r cp e e' h1 h2 h3 h4 h5 h6 i1 i2 => exact .step fp ar far r cp e e' h1 h2 (kd fp _ _ h3 (by decide)) i1 i2 h6
  have hrun : RT B rb σ.out gb w' := by
    refine h.run.stay (by omega) ho ht hp (fun q hq hc => hw q ?_)
    rintro rfl
    rcases hc with rfl | ⟨cs, fz, hc⟩
    · obtain ⟨tv, hR, _⟩ := h.run
      rw [show w.heap[q]? = _ from hR] at hc0
      simp at hc0
    · rw [hc0] at hc
      simp at hc
  refine ⟨hrun, h.hB, h.hg, by simp [h.lp], h.lc, h.lr, h.np, h.nr, h.nc, h.bp, h.br, h.bc, ?_, ?_, ?_, trivial⟩
  · intro j q p h1 h2
    by_cases hij : i = j
    · subst hij
      rw [hi] at h2
      cases h2
      rw [List.getElem?_set_self (List.getElem?_eq_some_iff.1 hp0).1] at h1
      cases h1
      exact ⟨ha, hb, hk⟩
    · rw [List.getElem?_set_ne hij] at h1
      have hqk : q ≠ k := by
        rintro rfl
        have e1 := List.getElem?_eq_some_iff.1 hi
        have e2 := List.getElem?_eq_some_iff.1 h2
        obtain ⟨l1, e1⟩ := e1
        obtain ⟨l2, e2⟩ := e2
        have nd := List.pairwise_iff_getElem.1 h.np
        rcases Nat.lt_or_gt_of_ne hij with hl | hl
        · exact nd i j l1 l2 hl (e1.trans e2.symm)
        · exact nd j i l2 l1 hl (e2.trans e1.symm)
      have := h.pr j q p h1 h2
      cases p with
      | made x y => exact ⟨this.1, this.2.1, (hw q hqk).trans this.2.2⟩
      | unmade d ds =>
        obtain ⟨b', o', c', g', q1, q2, q3, q4, q5⟩ := this
        exact ⟨b', o', c', g', (hw q hqk).trans q1, q2, Dc.stay (fun z hz => hbB.block z hz) (fun _ hz => hz) _ _ _ q3, q4, q5⟩
  · intro j q p h1 h2
    obtain ⟨fp, g1, g3⟩ := h.pc j q p h1 h2
    exact ⟨fp, kd q _ _ g1 (by decide), frk fp _ g3⟩
  · intro r q vs h1 h2
    obtain ⟨g1, c0, g2⟩ := h.rw r q vs h1 h2
    exact ⟨g1, c0, kd q _ _ g2 (by decide)⟩
theorem MmX.at {m m' : Mm} (x : MmX m m') {i k : Nat} (h : m.pr[i]? = some k) : m'.pr[i]? = some k := by
  obtain ⟨l, e⟩ := x.pr
  rw [e, List.getElem?_append_left (List.getElem?_eq_some_iff.1 h).1]
  exact h
/-- The end of values: three cells are set. -/
theorem make_end {B rb : Nat} {gb : Rc} {m m2 : Mm} {σ2 : St} {w w2 : World} {i k : Nat} {a b : Val} {x0 x1 x2 : Value} (h : Rel B rb gb m2 σ2 w2) (hs : B ≤ w2.heap.size) (hb : Below w.heap.size w w2) (hi : m.pr[i]? = some k) (n : New m m2 w) (ha : VOk m2 a) (hbv : VOk m2 b) (hk : w2.heap[k]? = some (.cells #[x0, x1, x2] 245 (0, 0))) :
    Rel B rb gb m2 { σ2 with pairs := σ2.pairs.set i (.made a b) } (((w2.setCell ⟨k, 0, none⟩ (vV m2 a)).setCell ⟨k, 1, none⟩ (vV m2 b)).setCell ⟨k, 2, none⟩ (.slice none 0 0)).drew ∧ KR B rb gb m w (((w2.setCell ⟨k, 0, none⟩ (vV m2 a)).setCell ⟨k, 1, none⟩ (vV m2 b)).setCell ⟨k, 2, none⟩ (.slice none 0 0)).drew := by
  have hkk : Keep k w2 (((w2.setCell ⟨k, 0, none⟩ (vV m2 a)).setCell ⟨k, 1, none⟩ (vV m2 b)).setCell ⟨k, 2, none⟩ (.slice none 0 0)).drew := ((((Keep.refl k w2).setCell ⟨k, 0, none⟩ rfl _).setCell ⟨k, 1, none⟩ rfl _).setCell ⟨k, 2, none⟩ rfl _).drew
  have hz : (((w2.setCell ⟨k, 0, none⟩ (vV m2 a)).setCell ⟨k, 1, none⟩ (vV m2 b)).setCell ⟨k, 2, none⟩ (.slice none 0 0)).drew.heap.size = w2.heap.size := by simp
  have hne : ∀ q, q ≠ k → (((w2.setCell ⟨k, 0, none⟩ (vV m2 a)).setCell ⟨k, 1, none⟩ (vV m2 b)).setCell ⟨k, 2, none⟩ (.slice none 0 0)).drew.heap[q]? = w2.heap[q]? := by
    intro q hq
    by_cases hl : q < w2.heap.size
    · exact hkk.block q hl (by simpa using hq)
    · rw [Array.getElem?_eq_none (by omega), Array.getElem?_eq_none (by omega)]
  refine ⟨h.make hs (n.x.at hi) ha hbv hne hz rfl rfl rfl ?_, ?_⟩
  · have h1 := cell_setV (q := 0) hk (vV m2 a)
    have h2 := cell_setV (q := 1) h1 (vV m2 b)
    exact (cell_setV (q := 2) h2 (.slice none 0 0)).trans rfl
  · refine ⟨hkk.os.trans hb.os, hkk.tape.trans hb.tape, hkk.output.trans hb.output, Nat.le_trans hb.size hkk.size, fun q hq _ _ h3 _ _ => ?_⟩
    have hqk : q ≠ k := by
      rintro rfl
      exact h3 (List.mem_of_getElem? hi)
    exact (hne q hqk).trans (hb.block q hq)
/-- What is told of the two values of a pair. -/
def ToldP (B rb : Nat) (gb : Rc) (m : Mm) (w : World) (r : (Val × Val) × St) (e : Ending) (w' : World) : Prop := ∃ m', e = .returned (.tuple #[vV m' r.1.1, vV m' r.1.2]) ∧ Rel B rb gb m' r.2 w' ∧ New m m' w ∧ VOk m' r.1.1 ∧ VOk m' r.1.2 ∧ KR B rb gb m w w'
set_option maxRecDepth 100000 in
set_option maxHeartbeats 3200000 in
theorem values_any (B rb : Nat) (gb : Rc) (m : Mm) (σ : St) (i k : Nat) (w : World) (h : Rel B rb gb m σ w) (hs : B ≤ w.heap.size) (hi : m.pr[i]? = some k) :
    Calls Tryz.prog 143 #[.pointer (some ⟨k, 0, none⟩)] w (ToldP B rb gb m w (valuesF i σ)) := by
  obtain ⟨p, hp, hpm, hkl⟩ := h.lt hi
  unfold valuesF
  rw [hp]
  cases p with
  | made a b =>
    obtain ⟨ha, hb, hk⟩ := hpm
    have c0 : w.cell? ⟨k, 0, none⟩ = some (.iface (vT a) (vX m a)) := (cellO hk).trans rfl
    have c1 : w.cell? ⟨k, 1, none⟩ = some (.iface (vT b) (vX m b)) := (cellO hk).trans rfl
    have c2 : w.cell? ⟨k, 2, none⟩ = some (.slice none 0 0) := (cellO hk).trans rfl
    have HR := hidd (h.below (Below.drew (Below.refl _ _)) hs)
    have HA : Hid (VOk m a ∧ VOk m b) := ⟨ha, hb⟩
    clear h hk hp hi ha hb
    go_enter Tryz.func143, Tryz.ntmps143
    go_wp2_with fail
    go_region
    all_goals
      go_wp2_with fail
      exact bodyPost_ret (v := .tuple #[vV m a, vV m b]) (by simp [results, Tryz.results143, go_sem, vV]) rfl ⟨m, rfl, HR.out, New.refl m w, HA.out.1, HA.out.2, KR.ofBelow (Below.drew (Below.refl _ _))⟩
  | unmade d r =>
    obtain ⟨b, o, c, g, hk, hbB, hdc, hc, hsm⟩ := hpm
    have hlen := hdc.len
    simp at hlen
    have c0 : w.cell? ⟨k, 0, none⟩ = some .nilIface := (cellO hk).trans rfl
    have c1 : w.cell? ⟨k, 1, none⟩ = some .nilIface := (cellO hk).trans rfl
    have c2 : w.cell? ⟨k, 2, none⟩ = some (.slice (some ⟨b, o, none⟩) (r.length + 1) c) := (cellO hk).trans rfl
    have hD : DatM B w b o d := by simpa using DatM.of (i := 0) hdc rfl (hsm d (by simp))
    have hT := DsV.tail hdc hbB hc (fun x hx => hsm x (by simp [hx]))
    have HQ : Hid (∀ W, Below w.heap.size w W → Calls Tryz.prog 67 #[.pointer (some ⟨b, o, none⟩)] W (ToldV B rb gb m W (quotedF d σ))) := fun W hb => quoted_any B rb gb m σ b o d W (h.below hb hs) (Nat.le_trans hs hb.size) (hD.below (hb.mono hs))
    obtain ⟨a, σ1, hq1⟩ : ∃ a σ1, quotedF d σ = (a, σ1) := ⟨_, _, rfl⟩
    obtain ⟨v, σ2, hq2⟩ : ∃ v σ2, listedF r σ1 = (v, σ2) := ⟨_, _, rfl⟩
    simp only [hq1, hq2]
    rw [hq1] at HQ
    have HL : Hid (∀ m1 W, Below w.heap.size w W → Rel B rb gb m1 σ1 W → Calls Tryz.prog 106 #[.slice (if c = 1 then some ⟨b, o, none⟩ else some ⟨b, o + 6, none⟩) r.length (c - 1)] W (ToldV B rb gb m1 W (v, σ2))) := fun m1 W hb hr => by
      have := listed_any B rb gb m1 σ1 _ (c - 1) r W hr (Nat.le_trans hs hb.size) (hT.below (hb.mono hs)) (by omega)
      rw [hq2] at this
      exact this
    have HK : Hid (∀ W, Below w.heap.size w W → W.heap[k]? = some (.cells #[.nilIface, .nilIface, .slice (some ⟨b, o, none⟩) (r.length + 1) c] 245 (0, 0))) := fun W hb => (hb.block k hkl).trans hk
    have HS : Hid (B ≤ w.heap.size ∧ m.pr[i]? = some k) := ⟨hs, hi⟩
    have hn1 : ((r.length + 1 : Nat) : Int) - 1 = r.length := by omega
    clear h hp hi hdc hD hT hk hsm
    by_cases hc1 : c = 1
    · have hr0 : r.length = 0 := by omega
      rw [hr0] at HL HK c2 hlen hn1
      subst hc1
      simp only [if_true] at HL
      go_enter Tryz.func143, Tryz.ntmps143
      go_wp2_with fail
      go_region_with (first
        | (go_at_call 67; refine (HQ.out _ (Below.drew (Below.refl _ _))).mono ?_; rintro e w1 ⟨m1, rfl, r1, n1, o1, b1⟩; have HB1 : Hid (Below w.heap.size w w1) := (Below.drew (Below.refl _ _)).trans b1; have k1 := HK.out w1 HB1.out; have y2 : w1.cell? ⟨k, 2, none⟩ = some (.slice (some ⟨b, o, none⟩) _ _) := (cellO k1).trans rfl; have HR1 : Hid (Rel B rb gb m1 σ1 w1 ∧ New m m1 w ∧ VOk m1 a) := ⟨r1, ⟨n1.x, n1.pr, n1.rw⟩, o1⟩; clear r1 n1 o1 b1 k1; unfold vV)
        | (go_at_call 106; refine (HL.out m1 w1 HB1.out HR1.out.1).mono ?_; rintro e w2 ⟨m2, rfl, r2, n2, o2, b2⟩; have HB2 := hidd (HB1.out.trans (b2.mono HB1.out.size)); have k2 := HK.out w2 HB2.out; have x0 : w2.cell? ⟨k, 0, none⟩ = some .nilIface := (cellO k2).trans rfl; have x1 : w2.cell? ⟨k, 1, none⟩ = some .nilIface := (cellO k2).trans rfl; have f0 : w2.frozen? ⟨k, 0, none⟩ = false := looseO k2; have f1 : w2.frozen? ⟨k, 1, none⟩ = false := looseO k2; have f2 : w2.frozen? ⟨k, 2, none⟩ = false := looseO k2; have x2 : w2.cell? ⟨k, 2, none⟩ = some (.slice (some ⟨b, o, none⟩) _ _) := (cellO k2).trans rfl; have HE := hidd (make_end r2 (Nat.le_trans HS.out.1 HB2.out.size) HB2.out HS.out.2 (HR1.out.2.1.trans n2 HB1.out.size) (HR1.out.2.2.up n2.x) o2 k2); have HN : Hid (New m m2 w ∧ VOk m2 a ∧ VOk m2 v ∧ vX m2 a = vX m1 a) := ⟨HR1.out.2.1.trans n2 HB1.out.size, HR1.out.2.2.up n2.x, o2, vX_up HR1.out.2.2 n2.x⟩; clear r2 n2 o2 b2 k2; unfold vV))
      all_goals
        rw [← HN.out.2.2.2]
        clear HQ HL HK HR1 HB1
        go_wp2_with fail
        go_region
        all_goals
          go_wp2_with fail
          exact bodyPost_ret (v := .tuple #[vV m2 a, vV m2 v]) (by simp [results, Tryz.results143, go_sem, vV]) rfl ⟨m2, rfl, HE.out.1, HN.out.1, HN.out.2.1, HN.out.2.2.1, HE.out.2⟩
    · simp only [if_neg hc1] at HL
      go_enter Tryz.func143, Tryz.ntmps143
      go_wp2_with fail
      go_region_with (first
        | (go_at_call 67; refine (HQ.out _ (Below.drew (Below.refl _ _))).mono ?_; rintro e w1 ⟨m1, rfl, r1, n1, o1, b1⟩; have HB1 : Hid (Below w.heap.size w w1) := (Below.drew (Below.refl _ _)).trans b1; have k1 := HK.out w1 HB1.out; have y2 : w1.cell? ⟨k, 2, none⟩ = some (.slice (some ⟨b, o, none⟩) _ _) := (cellO k1).trans rfl; have HR1 : Hid (Rel B rb gb m1 σ1 w1 ∧ New m m1 w ∧ VOk m1 a) := ⟨r1, ⟨n1.x, n1.pr, n1.rw⟩, o1⟩; clear r1 n1 o1 b1 k1; unfold vV)
        | (go_at_call 106; refine (HL.out m1 w1 HB1.out HR1.out.1).mono ?_; rintro e w2 ⟨m2, rfl, r2, n2, o2, b2⟩; have HB2 := hidd (HB1.out.trans (b2.mono HB1.out.size)); have k2 := HK.out w2 HB2.out; have x0 : w2.cell? ⟨k, 0, none⟩ = some .nilIface := (cellO k2).trans rfl; have x1 : w2.cell? ⟨k, 1, none⟩ = some .nilIface := (cellO k2).trans rfl; have f0 : w2.frozen? ⟨k, 0, none⟩ = false := looseO k2; have f1 : w2.frozen? ⟨k, 1, none⟩ = false := looseO k2; have f2 : w2.frozen? ⟨k, 2, none⟩ = false := looseO k2; have x2 : w2.cell? ⟨k, 2, none⟩ = some (.slice (some ⟨b, o, none⟩) _ _) := (cellO k2).trans rfl; have HE := hidd (make_end r2 (Nat.le_trans HS.out.1 HB2.out.size) HB2.out HS.out.2 (HR1.out.2.1.trans n2 HB1.out.size) (HR1.out.2.2.up n2.x) o2 k2); have HN : Hid (New m m2 w ∧ VOk m2 a ∧ VOk m2 v ∧ vX m2 a = vX m1 a) := ⟨HR1.out.2.1.trans n2 HB1.out.size, HR1.out.2.2.up n2.x, o2, vX_up HR1.out.2.2 n2.x⟩; clear r2 n2 o2 b2 k2; unfold vV))
      all_goals
        rw [← HN.out.2.2.2]
        clear HQ HL HK HR1 HB1
        go_wp2_with fail
        go_region
        all_goals
          go_wp2_with fail
          exact bodyPost_ret (v := .tuple #[vV m2 a, vV m2 v]) (by simp [results, Tryz.results143, go_sem, vV]) rfl ⟨m2, rfl, HE.out.1, HN.out.1, HN.out.2.1, HN.out.2.2.1, HE.out.2⟩
end
end Go.Proofs.YthikdpclifeonaaGreatDoor.V
