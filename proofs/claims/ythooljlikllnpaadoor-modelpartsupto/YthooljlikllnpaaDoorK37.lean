/- Chapter 7: the store in memory: a global is given, a parameter is set, a procedure more, a row of parameters more. -/
import Derived.Test.YthooljlikllnpaaDoorK32
import Derived.Test.YthooljlikllnpaaDoorK33
import Derived.Test.YthooljlikllnpaaDoorK35
import Derived.Test.YthooljlikllnpaaDoorK36
namespace Go.Proofs.YthooljlikllnpaaDoor
set_option linter.unusedVariables false
set_option linter.unusedSimpArgs false
open Go.RowKit

/-- What is told of a value: one, or how the run ends. -/
def ToldR (B rb gb : Nat) (m : Mm) (w : World) (r : Res Val × St) (e : Ending) (w' : World) : Prop :=
  ∃ m', Rel B rb gb m' r.2 w' ∧ New m m' w ∧ KR B rb gb m w w' ∧ match r.1 with | .ok v => e = .returned (.iface (vT v) (vX m' v)) ∧ VOk m' v | .bad h => e = .panicked (endP h)
theorem Fr.rx {w : World} {m : Mm} {σ σ' : St} {fp : Nat} {e : List Nat} (h : Fr w m σ.rows fp e) (x : RX σ σ') : Fr w m σ'.rows fp e := by
  induction h with
  | root fp h => exact .root fp h
  | step fp ar far r e e' h1 h2 h3 h4 h5 h6 i1 i2 =>
    have hc : cnt σ'.rows (r :: e) = cnt σ.rows (r :: e) := cnt_rx x _ (fun q hq => by
      rcases List.mem_cons.1 hq with rfl | hq
      · exact h1.1
      · exact h4.len.2 q hq)
    have hl := x.lens r h1.1
    refine .step fp ar far r e e' ⟨Nat.lt_of_lt_of_le h1.1 x.len, by rw [hl]; exact h1.2⟩ h2 ?_ i1 i2 h6
    rw [hc, hl]
    exact h3
/-- A row of values that is no parameters' stays. -/
theorem KR.row {B rb gb : Nat} {m : Mm} {σ : St} {w w' : World} (h : KR B rb gb m w w') (r : Rel B rb gb m σ w) {k : Nat} {cs : Array Value} {fz : Nat × Nat} (hk : w.heap[k]? = some (.cells cs 77 fz)) (hm : k ∉ m.rw) : w'.heap[k]? = some (.cells cs 77 fz) := by
  refine (h.block k (Array.getElem?_eq_some_iff.1 hk).1 ?_ ?_ ?_ hm ?_).trans hk
  · obtain ⟨tv, hR, _⟩ := r.run
    exact ne_type hR hk (by decide)
  · exact fun e => r.gl.ne hk e.symm
  · intro hm
    obtain ⟨i, hi, e⟩ := List.getElem_of_mem hm
    obtain ⟨p, _, hp, _⟩ := r.lt (i := i) (k := k) (by rw [List.getElem?_eq_getElem hi, e])
    obtain ⟨ds, hd⟩ := hp.block
    exact absurd rfl (ne_type hd hk (by decide))
  · intro ds gz hx
    rw [hk] at hx
    simp at hx
/-- A global is given. -/
theorem Rel.glob {B rb gb : Nat} {m : Mm} {σ : St} {w w' : World} {gs : List (Gl × Val)} (h : Rel B rb gb m σ w) (hg : GM gb m gs w') (ho : w'.os = w.os) (ht : w'.tape = w.tape) (hp : w'.output = w.output) (hz : w'.heap.size = w.heap.size) (hw : ∀ q, q ≠ gb → w'.heap[q]? = w.heap[q]?) :
    Rel B rb gb m { σ with glob := gs } w' ∧ KR B rb gb m w w' := by
  have kd : ∀ (q : Nat) (cs : Array Value) (t : TypeId), w.heap[q]? = some (.cells cs t (0, 0)) → w'.heap[q]? = some (.cells cs t (0, 0)) := fun q cs t hq => (hw q (fun e => h.gl.ne hq e.symm)).trans hq
  have hbB : Below B w w' := ⟨ho, ht, hp, by omega, fun q hq => hw q (by have := h.hg; omega)⟩
  have frk : ∀ fp e, Fr w m σ.rows fp e → Fr w' m σ.rows fp e := by
    intro fp e hf
    induction hf with
    | root fp h => exact .root fp (kd fp _ _ h)
    | step fp ar far r e e' h1 h2 h3 h4 h5 h6 i1 i2 => exact .step fp ar far r e e' h1 h2 (kd fp _ _ h3) i1 i2 h6
  refine ⟨⟨?_, h.hB, h.hg, h.lp, h.lc, h.lr, h.np, h.nr, h.nc, h.bp, h.br, h.bc, ?_, ?_, ?_, hg⟩, ⟨ho, ht, hp, by omega, fun k _ _ h2 _ _ _ => hw k h2⟩⟩
  · refine h.run.stay (by omega) ho ht hp (fun q hq hc => hw q ?_)
    rintro rfl
    rcases hc with rfl | ⟨cs, fz, hc⟩
    · obtain ⟨tv, hR, _⟩ := h.run
      exact h.gl.ne hR rfl
    · exact h.gl.ne hc rfl
  · intro i k p h1 h2
    have := h.pr i k p h1 h2
    cases p with
    | made x y => exact ⟨this.1, this.2.1, kd k _ _ this.2.2⟩
    | unmade d ds =>
      obtain ⟨b', o', c', g', q1, q2, q3, q4, q5⟩ := this
      exact ⟨b', o', c', g', kd k _ _ q1, q2, Dc.stay (fun z hz => hbB.block z hz) (fun _ hz => hz) _ _ _ q3, q4, q5⟩
  · intro i k q h1 h2
    obtain ⟨lb, lo, g, fp, g1, g2, g3⟩ := h.pc i k q h1 h2
    exact ⟨lb, lo, g, fp, kd k _ _ g1, g2.below hbB, frk fp _ g3⟩
  · intro r k vs h1 h2
    obtain ⟨g1, c0, g2⟩ := h.rw r k vs h1 h2
    exact ⟨g1, c0, kd k _ _ g2⟩
theorem row_set (c0 : Value) (L : List Val) (f : Val → Value) (q : Nat) (v : Val) (hq : q < L.length) : (#[c0] ++ (L.map f).toArray).setIfInBounds (1 + q) (f v) = #[c0] ++ ((L.set q v).map f).toArray := by
  apply Array.toList_inj.1
  rw [Array.toList_setIfInBounds, Nat.add_comm]
  simp [List.map_set]
theorem Rel.rowAt {B rb gb : Nat} {m : Mm} {σ : St} {w : World} (h : Rel B rb gb m σ w) {r : Nat} (hr : r < σ.rows.length) : ∃ c0, m.rw[r]? = some (m.rw.getD r 0) ∧ (∀ v ∈ σ.rows.getD r [], VOk m v) ∧ w.heap[m.rw.getD r 0]? = some (.cells (#[c0] ++ ((σ.rows.getD r []).map (vV m)).toArray) 77 (0, 0)) := by
  have e : m.rw[r]? = some (m.rw.getD r 0) := by
    have : r < m.rw.length := by rw [h.lr]; exact hr
    simp [List.getD, List.getElem?_eq_getElem this]
  have e2 : σ.rows[r]? = some (σ.rows.getD r []) := by simp [List.getD, List.getElem?_eq_getElem hr]
  obtain ⟨h1, c0, h2⟩ := h.rw r _ _ e2 e
  exact ⟨c0, e, h1, h2⟩
/-- A parameter is set. -/
theorem Rel.setRow {B rb gb : Nat} {m : Mm} {σ : St} {w : World} (h : Rel B rb gb m σ w) (hs : B ≤ w.heap.size) {r q : Nat} (hr : r < σ.rows.length) (hq : q < (σ.rows.getD r []).length) {v : Val} (hv : VOk m v) :
    Rel B rb gb m { σ with rows := σ.rows.set r ((σ.rows.getD r []).set q v) } (w.setCell ⟨m.rw.getD r 0, 1 + q, none⟩ (vV m v)) ∧ KR B rb gb m w (w.setCell ⟨m.rw.getD r 0, 1 + q, none⟩ (vV m v)) := by
  obtain ⟨c0, hm, hvs, hk⟩ := h.rowAt hr
  generalize hK : m.rw.getD r 0 = K at *
  have hKB : B ≤ K := h.br K (List.mem_of_getElem? hm)
  have hw : ∀ k, k ≠ K → (w.setCell ⟨K, 1 + q, none⟩ (vV m v)).heap[k]? = w.heap[k]? := fun k hk => Below.heap_setCell _ _ _ _ (by simpa using hk)
  have hz : (w.setCell ⟨K, 1 + q, none⟩ (vV m v)).heap.size = w.heap.size := by simp
  have hbB : Below B w (w.setCell ⟨K, 1 + q, none⟩ (vV m v)) := ⟨rfl, rfl, rfl, by omega, fun k hk => hw k (by omega)⟩
  have kd : ∀ (k : Nat) (cs : Array Value) (t : TypeId), w.heap[k]? = some (.cells cs t (0, 0)) → t ≠ 77 → (w.setCell ⟨K, 1 + q, none⟩ (vV m v)).heap[k]? = some (.cells cs t (0, 0)) := fun k cs t hx hne => (hw k (ne_type hk hx hne)).trans hx
  have frk : ∀ fp e, Fr w m σ.rows fp e → Fr (w.setCell ⟨K, 1 + q, none⟩ (vV m v)) m (σ.rows.set r ((σ.rows.getD r []).set q v)) fp e := by
    intro fp e hf
    have h2 : Fr (w.setCell ⟨K, 1 + q, none⟩ (vV m v)) m σ.rows fp e := by
      induction hf with
      | root fp h => exact .root fp (kd fp _ _ h (by decide))
      | step fp ar far r e e' h1 h2 h3 h4 h5 h6 i1 i2 => exact .step fp ar far r e e' h1 h2 (kd fp _ _ h3 (by decide)) i1 i2 h6
    exact h2.rx (RX.set σ r q v)
  refine ⟨⟨?_, h.hB, h.hg, h.lp, h.lc, by simp [h.lr], h.np, h.nr, h.nc, h.bp, h.br, h.bc, ?_, ?_, ?_, h.gl.stay (hw gb (h.gl.ne hk))⟩, ⟨rfl, rfl, rfl, by omega, fun k _ _ _ _ h4 _ => hw k (fun e => h4 (by rw [e]; exact List.mem_of_getElem? hm))⟩⟩
  · exact h.run.set hk (by decide) (by
      rintro rfl
      obtain ⟨tv, hR, _⟩ := h.run
      rw [show w.heap[K]? = _ from hR] at hk
      simp at hk)
  · intro i k p h1 h2
    have := h.pr i k p h1 h2
    cases p with
    | made x y => exact ⟨this.1, this.2.1, kd k _ _ this.2.2 (by decide)⟩
    | unmade d ds =>
      obtain ⟨b', o', c', g', q1, q2, q3, q4, q5⟩ := this
      exact ⟨b', o', c', g', kd k _ _ q1 (by decide), q2, Dc.stay (fun z hz => hbB.block z hz) (fun _ hz => hz) _ _ _ q3, q4, q5⟩
  · intro i k p h1 h2
    obtain ⟨lb, lo, g, fp, g1, g2, g3⟩ := h.pc i k p h1 h2
    exact ⟨lb, lo, g, fp, kd k _ _ g1 (by decide), g2.below hbB, frk fp _ g3⟩
  · intro j k vs h1 h2
    by_cases hj : r = j
    · subst hj
      rw [hm] at h2
      cases h2
      have h1 : (σ.rows.set r ((σ.rows.getD r []).set q v))[r]? = some vs := h1
      rw [List.getElem?_set_self hr] at h1
      cases h1
      refine ⟨fun x hx => ?_, c0, ?_⟩
      · rcases List.mem_or_eq_of_mem_set hx with hx | rfl
        · exact hvs x hx
        · exact hv
      · rw [cell_setV hk]
        rw [row_set c0 (σ.rows.getD r []) (vV m) q v hq]
    · have h1 : (σ.rows.set r ((σ.rows.getD r []).set q v))[j]? = some vs := h1
      rw [List.getElem?_set_ne hj] at h1
      obtain ⟨g1, c1, g2⟩ := h.rw j k vs h1 h2
      refine ⟨g1, c1, (hw k ?_).trans g2⟩
      rintro rfl
      obtain ⟨l1, e1⟩ := List.getElem?_eq_some_iff.1 hm
      obtain ⟨l2, e2⟩ := List.getElem?_eq_some_iff.1 h2
      have nd := List.pairwise_iff_getElem.1 h.nr
      rcases Nat.lt_or_gt_of_ne hj with hl | hl
      · exact nd r j l1 l2 hl (e1.trans e2.symm)
      · exact nd j r l2 l1 hl (e2.trans e1.symm)
/-- A procedure more. -/
theorem Rel.proc {B rb gb : Nat} {m : Mm} {σ : St} {w : World} (h : Rel B rb gb m σ w) (hs : B ≤ w.heap.size) (n : Int) (lb lo g fp : Nat) (c : Cor) (e : List Nat) (hc : Cn B w g lb lo c) (hf : Fr w m σ.rows fp e) :
    Rel B rb gb { m with pc := m.pc ++ [w.heap.size] } { σ with procs := σ.procs ++ [⟨n, c, e⟩] } (w.alloc (.cells #[.int .i64 n, .pointer (some ⟨lb, lo, none⟩), .pointer (some ⟨fp, 0, none⟩)] 117)) ∧ New m { m with pc := m.pc ++ [w.heap.size] } w := by
  have hb : Below w.heap.size w (w.alloc (.cells #[.int .i64 n, .pointer (some ⟨lb, lo, none⟩), .pointer (some ⟨fp, 0, none⟩)] 117)) := (Below.refl _ _).alloc (Nat.le_refl _) _
  have x : MmX m { m with pc := m.pc ++ [w.heap.size] } := ⟨⟨[], by simp⟩, ⟨_, rfl⟩, ⟨[], by simp⟩⟩
  have h' := h.below hb hs
  have lt : ∀ k ∈ m.pc, k < w.heap.size := by
    intro k hk
    obtain ⟨i, hi, e⟩ := List.getElem_of_mem hk
    have h1 : m.pc[i]? = some k := by rw [List.getElem?_eq_getElem hi, e]
    have hil : i < σ.procs.length := by rw [← h.lc]; exact hi
    obtain ⟨_, _, _, _, q1, _⟩ := h.pc i k _ (List.getElem?_eq_getElem hil) h1
    exact (Array.getElem?_eq_some_iff.1 q1).1
  refine ⟨⟨h'.run, h.hB, h.hg, h.lp, by simp [h.lc], h.lr, h.np, h.nr, ?_, h.bp, h.br, ?_, ?_, ?_, ?_, h'.gl.up x⟩, x, fun k hk => Or.inl hk, fun k hk => Or.inl hk⟩
  · refine List.nodup_append.2 ⟨h.nc, by simp, fun a ha b hb => ?_⟩
    simp at hb
    subst hb
    have := lt a ha
    omega
  · intro k hk
    rcases List.mem_append.1 hk with q | q
    · exact h.bc k q
    · simp at q; omega
  · intro i k p h1 h2
    exact (h'.pr i k p h1 h2).up x
  · intro i k q h1 h2
    by_cases hi : i < σ.procs.length
    · rw [List.getElem?_append_left hi] at h1
      rw [List.getElem?_append_left (by rw [h.lc]; exact hi)] at h2
      obtain ⟨lb, lo, g, fp, g1, g2, g3⟩ := h'.pc i k q h1 h2
      exact ⟨lb, lo, g, fp, g1, g2, g3.up x⟩
    · have hil := (List.getElem?_eq_some_iff.1 h1).1
      simp at hil
      obtain rfl : i = σ.procs.length := by omega
      rw [List.getElem?_append_right (Nat.le_refl _)] at h1
      rw [List.getElem?_append_right (by rw [h.lc]; exact Nat.le_refl _), h.lc] at h2
      simp at h1 h2
      subst h1
      subst h2
      exact ⟨lb, lo, g, fp, World.alloc_heap_new w _, hc.below (hb.mono hs), (hf.stay hb).up x⟩
  · intro r k vs h1 h2
    obtain ⟨g1, c0, g2⟩ := h'.rw r k vs h1 h2
    exact ⟨fun v hv => (g1 v hv).up x, c0, by rw [vals_up g1 x]; exact g2⟩
/-- A row of values becomes parameters. -/
theorem Rel.with {B rb gb : Nat} {m : Mm} {σ : St} {w : World} (h : Rel B rb gb m σ w) {N : Nat} {c0 : Value} {a : Val} {t : List Val} (hN : w.heap[N]? = some (.cells (#[c0] ++ ((a :: t).map (vV m)).toArray) 77 (0, 0))) (hNr : N ∉ m.rw) (hNB : B ≤ N) (hv : ∀ v ∈ a :: t, VOk m v) :
    Rel B rb gb { m with rw := m.rw ++ [N] } { σ with rows := σ.rows ++ [a :: t] } w := by
  have x : MmX m { m with rw := m.rw ++ [N] } := ⟨⟨[], by simp⟩, ⟨[], by simp⟩, ⟨_, rfl⟩⟩
  have rx : RX σ { σ with rows := σ.rows ++ [a :: t] } := ⟨by simp, fun i hi => by simp [List.getD, List.getElem?_append_left hi]⟩
  have ev : ∀ v, vV { m with rw := m.rw ++ [N] } v = vV m v := by intro v; cases v <;> rfl
  have ek : ∀ v, VOk m v → VOk { m with rw := m.rw ++ [N] } v := fun v h => h.up x
  refine ⟨h.run, h.hB, h.hg, h.lp, h.lc, by simp [h.lr], h.np, ?_, h.nc, h.bp, ?_, h.bc, ?_, ?_, ?_, h.gl.up x⟩
  · exact List.nodup_append.2 ⟨h.nr, by simp, fun p hp b hb => by simp at hb; subst hb; rintro rfl; exact hNr hp⟩
  · intro k hk
    rcases List.mem_append.1 hk with q | q
    · exact h.br k q
    · simp at q; omega
  · intro i k p h1 h2
    exact (h.pr i k p h1 h2).up x
  · intro i k q h1 h2
    obtain ⟨lb, lo, g, fp, g1, g2, g3⟩ := h.pc i k q h1 h2
    exact ⟨lb, lo, g, fp, g1, g2, (g3.up x).rx rx⟩
  · intro r k vs h1 h2
    by_cases hi : r < σ.rows.length
    · rw [List.getElem?_append_left hi] at h1
      rw [List.getElem?_append_left (by rw [h.lr]; exact hi)] at h2
      obtain ⟨g1, c1, g2⟩ := h.rw r k vs h1 h2
      exact ⟨fun v hv => ek v (g1 v hv), c1, by rw [vals_up g1 x]; exact g2⟩
    · have hil := (List.getElem?_eq_some_iff.1 h1).1
      simp at hil
      obtain rfl : r = σ.rows.length := by omega
      rw [List.getElem?_append_right (Nat.le_refl _)] at h1
      rw [List.getElem?_append_right (by rw [h.lr]; exact Nat.le_refl _), h.lr] at h2
      simp at h1 h2
      subst h1
      subst h2
      exact ⟨fun v hv' => ek v (hv v hv'), c0, by rw [vals_up hv x]; exact hN⟩
end Go.Proofs.YthooljlikllnpaaDoor
