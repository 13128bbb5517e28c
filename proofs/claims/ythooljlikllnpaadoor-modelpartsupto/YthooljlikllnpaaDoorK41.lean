/- Chapter 7: a run at a moment; what evaluation tells; a row of expressions. Chapter 7: a value is given to what an expression names. -/
import Derived.Test.YthooljlikllnpaaDoorK37
import Derived.Test.YthooljlikllnpaaDoorK40
namespace Go.Proofs.YthooljlikllnpaaDoor
section
set_option linter.unusedVariables false
set_option linter.unusedSimpArgs false
open Go.RowKit

/-- A run, at a moment behind another. -/
structure Cur (B rb gb : Nat) (m0 : Mm) (σ0 : St) (w0 : World) (m : Mm) (σ : St) (w : World) : Prop where
  rel : Rel B rb gb m σ w
  sc : Sc σ
  rx : RX σ0 σ
  nw : New m0 m w0
  kr : KR B rb gb m0 w0 w
theorem Cur.refl {B rb gb : Nat} {m : Mm} {σ : St} {w : World} (h : Rel B rb gb m σ w) (s : Sc σ) : Cur B rb gb m σ w m σ w := ⟨h, s, RX.refl σ, New.refl m w, KR.refl _ _ _ _ _⟩
theorem Cur.trans {B rb gb : Nat} {m0 m m' : Mm} {σ0 σ σ' : St} {w0 w w' : World} (h : Cur B rb gb m0 σ0 w0 m σ w) (k : Cur B rb gb m σ w m' σ' w') : Cur B rb gb m0 σ0 w0 m' σ' w' :=
  ⟨k.rel, k.sc, h.rx.trans k.rx, h.nw.trans k.nw h.kr.size, h.kr.trans h.nw k.kr⟩
theorem Cur.below {B rb gb : Nat} {m0 m : Mm} {σ0 σ : St} {w0 w w' : World} (h : Cur B rb gb m0 σ0 w0 m σ w) (hb : Below w.heap.size w w') (hs : B ≤ w.heap.size) : Cur B rb gb m0 σ0 w0 m σ w' :=
  h.trans ⟨h.rel.below hb hs, h.sc, RX.refl σ, New.refl m w, KR.ofBelow hb⟩
/-- What is told of an expression's value, behind a moment. -/
def ToldE (B rb gb : Nat) (m0 : Mm) (σ0 : St) (w0 : World) (r : Res Val × St) (e : Ending) (w' : World) : Prop :=
  ∃ m', Cur B rb gb m0 σ0 w0 m' r.2 w' ∧ match r.1 with | .ok v => e = .returned (.iface (vT v) (vX m' v)) ∧ VOk m' v ∧ r.2.calls = σ0.calls | .bad h => e = .panicked (endP h)
theorem ToldE.trans {B rb gb : Nat} {m0 m : Mm} {σ0 σ : St} {w0 w w' : World} {r : Res Val × St} {e : Ending} (c : Cur B rb gb m0 σ0 w0 m σ w) (hc : σ.calls = σ0.calls) (h : ToldE B rb gb m σ w r e w') : ToldE B rb gb m0 σ0 w0 r e w' := by
  obtain ⟨m', h1, h2⟩ := h
  refine ⟨m', c.trans h1, ?_⟩
  cases hr : r.1 with
  | ok v => rw [hr] at h2; exact ⟨h2.1, h2.2.1, h2.2.2.trans hc⟩
  | bad q => rw [hr] at h2; exact h2
theorem ToldE.two {B rb gb : Nat} {m0 : Mm} {σ0 : St} {w0 w' : World} {r : Res Val × St} {e : Ending} (h : ToldE B rb gb m0 σ0 w0 r e w') : (∃ t x, e = .returned (.iface t x)) ∨ ∃ q, e = .panicked q := by
  obtain ⟨m', _, h⟩ := h
  cases hr : r.1 with
  | ok v => rw [hr] at h; exact Or.inl ⟨_, _, h.1⟩
  | bad q => rw [hr] at h; exact Or.inr ⟨_, h⟩
theorem ToldE.ofR {B rb gb : Nat} {m0 m : Mm} {σ0 σ : St} {w0 w w' : World} {r : Res Val × St} {e : Ending} (c : Cur B rb gb m0 σ0 w0 m σ w) (hc : σ.calls = σ0.calls) (h : ToldR B rb gb m w r e w') (q : Qt σ r.2) : ToldE B rb gb m0 σ0 w0 r e w' := by
  obtain ⟨m', h1, h2, h3, h4⟩ := h
  refine ⟨m', c.trans ⟨h1, c.sc.qt q, RX.of q.1, h2, h3⟩, ?_⟩
  cases hr : r.1 with
  | ok v => rw [hr] at h4; exact ⟨h4.1, h4.2, q.2.2.trans hc⟩
  | bad q => rw [hr] at h4; exact h4
/-- A frame stays, whatever is evaluated. -/
theorem Fr.go {B rb gb : Nat} {m m' : Mm} {σ σ' : St} {w w' : World} {fp : Nat} {e : List Nat} (h : Fr w m σ.rows fp e) (r : Rel B rb gb m σ w) (c : Cur B rb gb m σ w m' σ' w') : Fr w' m' σ'.rows fp e := by
  have kd : ∀ (k : Nat) (cs : Array Value), w.heap[k]? = some (.cells cs 83 (0, 0)) → w'.heap[k]? = some (.cells cs 83 (0, 0)) := fun k cs hk => c.kr.at r hk (by decide) (by decide) (by decide) (by decide)
  have h1 : Fr w' m σ.rows fp e := by
    induction h with
    | root fp h => exact .root fp (kd fp _ h)
    | step fp ar far r e e' h1 h2 h3 h4 h5 h6 i1 i2 => exact .step fp ar far r e e' h1 h2 (kd fp _ h3) i1 i2 h6
  exact (h1.up c.nw.x).rx c.rx
theorem Cur.belowB {B rb gb : Nat} {m0 m : Mm} {σ0 σ : St} {w0 w : World} (c : Cur B rb gb m0 σ0 w0 m σ w) (r : Rel B rb gb m0 σ0 w0) (hs : B ≤ w0.heap.size) : Below B w0 w := c.kr.toBelow r hs
/-- WHAT IS ASKED OF EVALUATION, with so much fuel. -/
def EOK (B rb gb T f : Nat) : Prop := ∀ (m : Mm) (σ : St) (c : Cor) (e : List Nat) (fp cb co g : Nat) (w : World), Rel B rb gb m σ w → Sc σ → B ≤ w.heap.size → Tab T w → Cn B w g cb co c → Gd ((cnt σ.rows e : Nat) : Int) c → Fr w m σ.rows fp e → σ.left ≤ 1000000 → σ.calls ≤ 200 → σ.left < f →
  Calls Tryd.prog 28 #[.pointer (some ⟨rb, 0, none⟩), .pointer (some ⟨cb, co, none⟩), .pointer (some ⟨fp, 0, none⟩)] w (ToldE B rb gb m σ w (evalF f c e σ))
/-- What is known where expressions are evaluated. -/
structure Env (B rb gb T f : Nat) (e : List Nat) (fp : Nat) (m : Mm) (σ : St) (w : World) : Prop where
  rel : Rel B rb gb m σ w
  sc : Sc σ
  hs : B ≤ w.heap.size
  tab : Tab T w
  fr : Fr w m σ.rows fp e
  left : σ.left ≤ 1000000
  calls : σ.calls ≤ 200
  fuel : σ.left < f
theorem Env.go {B rb gb T f : Nat} {e : List Nat} {fp : Nat} {m m' : Mm} {σ σ' : St} {w w' : World} (h : Env B rb gb T f e fp m σ w) (hT : T ≤ B) (c : Cur B rb gb m σ w m' σ' w') (hl : σ'.left ≤ σ.left) (hc : σ'.calls = σ.calls) : Env B rb gb T f e fp m' σ' w' :=
  ⟨c.rel, c.sc, Nat.le_trans h.hs c.kr.size, h.tab.below ((c.belowB h.rel h.hs).mono hT), h.fr.go h.rel c, Nat.le_trans hl h.left, by rw [hc]; exact h.calls, Nat.lt_of_le_of_lt hl h.fuel⟩
/-- A row of expressions, and where it lies. -/
structure Ks (B g lb lo : Nat) (ar : Nat) (ks : List Cor) (w : World) : Prop where
  cn : ∀ (i : Nat) (c : Cor), ks[i]? = some c → Cn B w g lb (lo + i * 12) c
  gd : ∀ c ∈ ks, Gd (ar : Int) c
  len : ks.length ≤ 3000
theorem Ks.go {B g lb lo ar : Nat} {ks : List Cor} {w w' : World} (h : Ks B g lb lo ar ks w) (hb : Below B w w') : Ks B g lb lo ar ks w' := ⟨fun i c hc => (h.cn i c hc).below hb, h.gd, h.len⟩
/-- One of a row is evaluated. -/
theorem EOK.at {B rb gb T f : Nat} (IH : EOK B rb gb T f) {e : List Nat} {fp : Nat} {m : Mm} {σ : St} {w : World} (h : Env B rb gb T f e fp m σ w) {g lb lo ar : Nat} {ks : List Cor} (hk : Ks B g lb lo ar ks w) (har : ar = cnt σ.rows e) {i : Nat} {c : Cor} (hi : ks[i]? = some c) :
    Calls Tryd.prog 28 #[.pointer (some ⟨rb, 0, none⟩), .pointer (some ⟨lb, lo + i * 12, none⟩), .pointer (some ⟨fp, 0, none⟩)] w (ToldE B rb gb m σ w (evalF f c e σ)) := by
  subst har
  exact IH m σ c e fp lb (lo + i * 12) g w h.rel h.sc h.hs h.tab (hk.cn i c hi) (hk.gd c (List.mem_of_getElem? hi)) h.fr h.left h.calls h.fuel
theorem Env.cnt {B rb gb T f : Nat} {e : List Nat} {fp : Nat} {m m' : Mm} {σ σ' : St} {w w' : World} (h : Env B rb gb T f e fp m σ w) (c : Cur B rb gb m σ w m' σ' w') : cnt σ'.rows e = cnt σ.rows e := cnt_rx c.rx e h.fr.len.2
/-- Values ahead of what is told. -/
def preR (vs : List Val) (r : Res (List Val) × St) : Res (List Val) × St := match r with
  | (.ok l, s) => (.ok (vs ++ l), s)
  | (.bad h, s) => (.bad h, s)
theorem pre_nil (r : Res (List Val) × St) : preR [] r = r := by
  obtain ⟨r, s⟩ := r
  cases r <;> rfl
theorem pre_pre (a b : List Val) (r : Res (List Val) × St) : preR a (preR b r) = preR (a ++ b) r := by
  obtain ⟨r, s⟩ := r
  cases r <;> simp [preR]
theorem all_step (g : Cor → St → Res Val × St) (ks : List Cor) (j : Nat) (c : Cor) (σ s : St) (v : Val) (h : ks[j]? = some c) (hg : g c σ = (.ok v, s)) : allF g (ks.drop j) σ = preR [v] (allF g (ks.drop (j + 1)) s) := by
  obtain ⟨hi, e⟩ := List.getElem?_eq_some_iff.1 h
  rw [List.drop_eq_getElem_cons hi, e]
  simp only [allF]
  rw [hg]
  simp only [bindR]
  cases h2 : allF g (ks.drop (j + 1)) s with
  | mk r t => cases r <;> rfl
theorem all_stop (g : Cor → St → Res Val × St) (ks : List Cor) (j : Nat) (c : Cor) (σ s : St) (q : Int) (h : ks[j]? = some c) (hg : g c σ = (.bad q, s)) : allF g (ks.drop j) σ = (.bad q, s) := by
  obtain ⟨hi, e⟩ := List.getElem?_eq_some_iff.1 h
  rw [List.drop_eq_getElem_cons hi, e]
  simp only [allF]
  rw [hg]
  rfl
theorem last_step (g : Cor → St → Res Val × St) (ks : List Cor) (j : Nat) (c : Cor) (σ s : St) (u v : Val) (h : ks[j]? = some c) (hg : g c σ = (.ok v, s)) : lastF g (ks.drop j) u σ = lastF g (ks.drop (j + 1)) v s := by
  obtain ⟨hi, e⟩ := List.getElem?_eq_some_iff.1 h
  rw [List.drop_eq_getElem_cons hi, e]
  simp only [lastF]
  rw [hg]
  rfl
theorem last_stop (g : Cor → St → Res Val × St) (ks : List Cor) (j : Nat) (c : Cor) (σ s : St) (u : Val) (q : Int) (h : ks[j]? = some c) (hg : g c σ = (.bad q, s)) : lastF g (ks.drop j) u σ = (.bad q, s) := by
  obtain ⟨hi, e⟩ := List.getElem?_eq_some_iff.1 h
  rw [List.drop_eq_getElem_cons hi, e]
  simp only [lastF]
  rw [hg]
  rfl
/-- A cell of a row of values that is nobody's is set. -/
theorem Rel.loose {B rb gb : Nat} {m : Mm} {σ : St} {w : World} (h : Rel B rb gb m σ w) {N q : Nat} {cs : Array Value} {v : Value} (hN : w.heap[N]? = some (.cells cs 77 (0, 0))) (hNr : N ∉ m.rw) (hNB : B ≤ N) : Rel B rb gb m σ (w.setCell ⟨N, q, none⟩ v) := by
  have hw : ∀ k, k ≠ N → (w.setCell ⟨N, q, none⟩ v).heap[k]? = w.heap[k]? := fun k hk => Below.heap_setCell _ _ _ _ (by simpa using hk)
  have hz : (w.setCell ⟨N, q, none⟩ v).heap.size = w.heap.size := by simp
  have hbB : Below B w (w.setCell ⟨N, q, none⟩ v) := ⟨rfl, rfl, rfl, by omega, fun k hk => hw k (by omega)⟩
  have kd : ∀ (k : Nat) (cs : Array Value) (t : TypeId), w.heap[k]? = some (.cells cs t (0, 0)) → t ≠ 77 → (w.setCell ⟨N, q, none⟩ v).heap[k]? = some (.cells cs t (0, 0)) := fun k cs t hx hne => (hw k (ne_type hN hx hne)).trans hx
  have frk : ∀ fp e, Fr w m σ.rows fp e → Fr (w.setCell ⟨N, q, none⟩ v) m σ.rows fp e := by
    intro fp e hf
    induction hf with
    | root fp h => exact .root fp (kd fp _ _ h (by decide))
    | step fp ar far r e e' h1 h2 h3 h4 h5 h6 i1 i2 => exact .step fp ar far r e e' h1 h2 (kd fp _ _ h3 (by decide)) i1 i2 h6
  refine ⟨?_, h.hB, h.hg, h.lp, h.lc, h.lr, h.np, h.nr, h.nc, h.bp, h.br, h.bc, ?_, ?_, ?_, h.gl.stay (hw gb (h.gl.ne hN))⟩
  · exact h.run.set hN (by decide) (by
      rintro rfl
      obtain ⟨tv, hR, _⟩ := h.run
      rw [show w.heap[N]? = _ from hR] at hN
      simp at hN)
  · intro i k p h1 h2
    have := h.pr i k p h1 h2
    cases p with
    | made x y => exact ⟨this.1, this.2.1, kd k _ _ this.2.2 (by decide)⟩
    | unmade d ds =>
      obtain ⟨b', o', c', g', q1, q2, q3, q4, q5⟩ := this
      exact ⟨b', o', c', g', kd k _ _ q1 (by decide), q2, Dc.stay (fun z hz => hbB.block z hz) (fun _ hz => hz) _ _ _ q3, q4, q5⟩
  · intro i k p h1 h2
    obtain ⟨lb, lo, g, fp, g1, g2, g3⟩ := h.pc i k p h1 h2
    exact ⟨lb, lo, g, fp, kd k _ _ g1 (by decide), g2.below hbB, frk fp _ g3⟩
  · intro j k vs h1 h2
    obtain ⟨g1, c1, g2⟩ := h.rw j k vs h1 h2
    exact ⟨g1, c1, (hw k (fun e => hNr (by rw [← e]; exact List.mem_of_getElem? h2))).trans g2⟩
theorem Cur.loose {B rb gb : Nat} {m0 m : Mm} {σ0 σ : St} {w0 w : World} (c : Cur B rb gb m0 σ0 w0 m σ w) {N q : Nat} {cs : Array Value} {v : Value} (hN : w.heap[N]? = some (.cells cs 77 (0, 0))) (hNr : N ∉ m.rw) (hNw : w0.heap.size ≤ N) (hs : B ≤ w0.heap.size) : Cur B rb gb m0 σ0 w0 m σ (w.setCell ⟨N, q, none⟩ v) :=
  ⟨c.rel.loose hN hNr (Nat.le_trans hs hNw), c.sc, c.rx, c.nw, ⟨c.kr.os, c.kr.tape, c.kr.output, by have := c.kr.size; simpa using this, fun k hk h1 h2 h3 h4 h5 => (Below.heap_setCell _ _ _ _ (by simp; omega)).trans (c.kr.block k hk h1 h2 h3 h4 h5)⟩⟩
theorem make_valsK (n : Nat) (hn : n ≤ 3000) (w : World) : (Instr.makeSlice 81 (.int .i64 n) (.int .i64 n)).run Tryd.prog w = .ok (.slice (some ⟨w.heap.size, 0, none⟩) n n) (w.alloc (.cells (List.replicate n Value.nilIface).toArray 77)) := by
  obtain ⟨i0, hinf, hz0, hz1, hz2⟩ := info_parts infoVal
  have := run_makeSlice (P := Tryd.prog) w 81 77 i0 .nilIface Tryd.underlying81 hinf hz0 .i64 .i64 n n (by omega) (Int.le_refl _) (by rw [hz1]; simp; omega) (by rw [hz2]; omega) (by omega)
  rw [hz1] at this
  simpa [Value.cells, made_oneV, Value.nilIface] using this
theorem Rel.rowLt {B rb gb : Nat} {m : Mm} {σ : St} {w : World} (h : Rel B rb gb m σ w) : ∀ k ∈ m.rw, k < w.heap.size := by
  intro k hk
  obtain ⟨i, hi, e⟩ := List.getElem_of_mem hk
  have hil : i < σ.rows.length := by rw [← h.lr]; exact hi
  obtain ⟨_, c0, hd⟩ := h.rw i k _ (List.getElem?_eq_getElem hil) (by rw [List.getElem?_eq_getElem hi, e])
  exact (Array.getElem?_eq_some_iff.1 hd).1
/-- What is told of a row of expressions' values. -/
def ToldA (B rb gb : Nat) (m0 : Mm) (σ0 : St) (w0 : World) (n : Nat) (r : Res (List Val) × St) (e : Ending) (w' : World) : Prop :=
  ∃ m', Cur B rb gb m0 σ0 w0 m' r.2 w' ∧ match r.1 with
    | .ok vs => ∃ N, w0.heap.size ≤ N ∧ N ∉ m'.rw ∧ e = .returned (.slice (some ⟨N, 0, none⟩) n n) ∧ w'.heap[N]? = some (.cells (vs.map (vV m')).toArray 77 (0, 0)) ∧ (∀ v ∈ vs, VOk m' v) ∧ vs.length = n ∧ r.2.calls = σ0.calls
    | .bad h => e = .panicked (endP h)
/-- What the loop of a row of expressions keeps. -/
structure LA (B rb gb T f : Nat) (e : List Nat) (fp : Nat) (ks : List Cor) (m0 : Mm) (σ0 : St) (w0 : World) (j : Nat) (vs : List Val) (m : Mm) (σ : St) (cs : Array Value) (w : World) : Prop where
  cur : Cur B rb gb m0 σ0 w0 m σ w
  left : σ.left ≤ σ0.left
  calls : σ.calls = σ0.calls
  len : vs.length = j
  nr : w0.heap.size ∉ m.rw
  sz : w0.heap.size < w.heap.size
  blk : w.heap[w0.heap.size]? = some (.cells cs 77 (0, 0))
  cn : cs.size = ks.length
  at' : ∀ (i : Nat) (v : Val), vs[i]? = some v → cs[i]? = some (vV m v)
  ok : ∀ v ∈ vs, VOk m v
  all : allF (fun k => evalF f k e) ks σ0 = preR vs (allF (fun k => evalF f k e) (ks.drop j) σ)
theorem LA.next {B rb gb T f : Nat} {e : List Nat} {fp : Nat} {ks : List Cor} {m0 m m' : Mm} {σ0 σ s : St} {w0 w w' : World} {j : Nat} {vs : List Val} {cs : Array Value} {c : Cor} {v : Val} (h : LA B rb gb T f e fp ks m0 σ0 w0 j vs m σ cs w) (hs : B ≤ w0.heap.size) (hi : ks[j]? = some c) (hg : evalF f c e σ = (.ok v, s)) (k : Cur B rb gb m σ w m' s w') (hv : VOk m' v) (hc : s.calls = σ.calls) :
    w'.heap[w0.heap.size]? = some (.cells cs 77 (0, 0)) ∧ LA B rb gb T f e fp ks m0 σ0 w0 (j + 1) (vs ++ [v]) m' s (cs.setIfInBounds j (vV m' v)) (w'.setCell ⟨w0.heap.size, j, none⟩ (vV m' v)) := by
  have hb : w'.heap[w0.heap.size]? = some (.cells cs 77 (0, 0)) := k.kr.row h.cur.rel h.blk h.nr
  have hnr : w0.heap.size ∉ m'.rw := fun q => (k.nw.rw _ q).elim h.nr (fun z => by have := h.sz; omega)
  have hj : j < cs.size := by rw [h.cn]; exact (List.getElem?_eq_some_iff.1 hi).1
  have hx := eval_ext f c e σ
  rw [hg] at hx
  refine ⟨hb, (h.cur.trans k).loose hb hnr (Nat.le_refl _) hs, Nat.le_trans hx.1 h.left, hc.trans h.calls, by simp [h.len], hnr, by have := h.sz; have := k.kr.size; simp; omega, cell_setV hb _, by simp [h.cn], ?_, ?_, ?_⟩
  · intro i u hu
    by_cases hij : i = j
    · subst hij
      rw [List.getElem?_append_right (by rw [h.len]; exact Nat.le_refl _), h.len, Nat.sub_self] at hu
      simp at hu
      subst hu
      simp [hj]
    · have hil : i < vs.length := by
        have := (List.getElem?_eq_some_iff.1 hu).1
        simp at this
        rw [h.len] at this ⊢
        omega
      rw [List.getElem?_append_left hil] at hu
      rw [Array.getElem?_setIfInBounds, if_neg (fun q => hij q.symm), h.at' i u hu, vV_up (h.ok u (List.mem_of_getElem? hu)) k.nw.x]
  · intro u hu
    rcases List.mem_append.1 hu with q | q
    · exact (h.ok u q).up k.nw.x
    · simp at q; subst q; exact hv
  · rw [h.all, all_step (fun k => evalF f k e) ks j c σ s v hi hg, pre_pre]
set_option maxRecDepth 100000 in
set_option maxHeartbeats 3200000 in
/-- A ROW OF EXPRESSIONS IS EVALUATED, from the left. -/
theorem allE (B rb gb T f : Nat) (IH : EOK B rb gb T f) (hT : T ≤ B) (m : Mm) (σ : St) (e : List Nat) (fp lb lo cap g : Nat) (ks : List Cor) (w : World) (h : Env B rb gb T f e fp m σ w) (hk : Ks B g lb lo (cnt σ.rows e) ks w) (hcap : ks.length ≤ cap) :
    Calls Tryd.prog 45 #[.pointer (some ⟨rb, 0, none⟩), .slice (some ⟨lb, lo, none⟩) ks.length cap, .pointer (some ⟨fp, 0, none⟩)] w (ToldA B rb gb m σ w ks.length (allF (fun k => evalF f k e) ks σ)) := by
  have hn := hk.len
  have HE : Hid (∀ j vs m1 σ1 cs wr c, LA B rb gb T f e fp ks m σ w j vs m1 σ1 cs wr → ks[j]? = some c → Calls Tryd.prog 28 #[.pointer (some ⟨rb, 0, none⟩), .pointer (some ⟨lb, lo + j * 12, none⟩), .pointer (some ⟨fp, 0, none⟩)] wr (ToldE B rb gb m1 σ1 wr (evalF f c e σ1))) := fun j vs m1 σ1 cs wr c L hc =>
    IH.at (h.go hT L.cur L.left L.calls) (hk.go (L.cur.belowB h.rel h.hs)) (h.cnt L.cur).symm hc
  have HS := hidd h.hs
  have hba : Below w.heap.size w (w.alloc (.cells (List.replicate ks.length Value.nilIface).toArray 77)) := (Below.refl w.heap.size w).alloc (Nat.le_refl _) _
  have H0 : Hid (LA B rb gb T f e fp ks m σ w 0 [] m σ (List.replicate ks.length Value.nilIface).toArray (w.alloc (.cells (List.replicate ks.length Value.nilIface).toArray 77))) :=
    ⟨(Cur.refl h.rel h.sc).below hba h.hs, Nat.le_refl _, rfl, rfl, fun q => Nat.lt_irrefl _ (h.rel.rowLt _ q), alloc_lt _ _, World.alloc_heap_new w _, by simp, fun i v hi => by simp at hi, fun v hv => by simp at hv, by rw [pre_nil]; rfl⟩
  have hmk := make_valsK ks.length hn w
  obtain ⟨n, hn'⟩ : ∃ n, n = ks.length := ⟨_, rfl⟩
  have HN := hidd hn'
  rw [← hn'] at hmk hn hcap H0 ⊢
  clear h hk hba IH hn'
  go_enter Tryd.func45, Tryd.ntmps45
  go_wp2_with fail
  go_loopw [14] (fun ix wr => ∃ (j : Nat) (vs : List Val) (m1 : Mm) (σ1 : St) (cs : Array Value), j ≤ n ∧ ix = .int .i64 j ∧ LA B rb gb T f e fp ks m σ w j vs m1 σ1 cs wr) (fun ix _ => n - (intOf ix).toNat)
  case atStart => exact ⟨0, [], m, σ, _, Nat.zero_le _, rfl, H0.out⟩
  case round =>
    obtain ⟨j, vs, m1, σ1, cs, hj, rfl, hL⟩ := hrel
    have HL := hidd hL
    clear hL
    by_cases hlt : j < n
    · obtain ⟨c, hc⟩ : ∃ c, ks[j]? = some c := ⟨_, List.getElem?_eq_getElem (by rw [← HN.out]; exact hlt)⟩
      have HC := hidd (HE.out j vs m1 σ1 cs wr c HL.out hc)
      have HCC := hidd hc
      clear hc HE H0 hmk
      cases hr : evalF f c e σ1 with
      | mk r s =>
        have HR := hidd hr
        rw [hr] at HC
        clear hr
        cases r with
        | bad q =>
          go_wp2_with fail
          refine HC.out.mono ?_
          rintro en w3 ⟨m3, k3, rfl⟩
          have HT : Hid (ToldA B rb gb m σ w n (allF (fun k => evalF f k e) ks σ) (.panicked (endP q)) w3) := by
            refine ⟨m3, ?_⟩
            rw [HL.out.all, all_stop (fun k => evalF f k e) ks j c σ1 s q HCC.out HR.out]
            exact ⟨HL.out.cur.trans k3, rfl⟩
          clear k3
          go_wp2_with fail
          exact ⟨rfl, HT.out⟩
        | ok v =>
          go_wp2_with fail
          refine HC.out.mono ?_
          rintro en w3 ⟨m3, k3, rfl, hv3, hc3⟩
          obtain ⟨hb3, hL3⟩ := HL.out.next HS.out HCC.out HR.out k3 hv3 hc3
          have HL3 := hidd hL3
          have hjs : j < cs.size := by rw [HL.out.cn, ← HN.out]; exact hlt
          have c1 : w3.cell? ⟨w.heap.size, j, none⟩ = some cs[j] := (cellO hb3).trans (by simp [hjs])
          have z1 := looseO (q := j) hb3
          clear hL3 hb3 k3 hv3 hc3 HC
          unfold vV at HL3
          go_wp2_with fail
          go_roundw
          case rel => exact ⟨j + 1, vs ++ [v], m3, s, _, hlt, by go_num, HL3.out⟩
          case measure => simp [intOf]; omega
    · obtain rfl : j = n := by omega
      have HT : Hid (ToldA B rb gb m σ w j (allF (fun k => evalF f k e) ks σ) (.returned (.slice (some ⟨w.heap.size, 0, none⟩) j j)) wr) := by
        refine ⟨m1, ?_⟩
        rw [HL.out.all, List.drop_eq_nil_of_le (by rw [← HN.out]; exact Nat.le_refl _)]
        show Cur B rb gb m σ w m1 σ1 wr ∧ _
        refine ⟨HL.out.cur, w.heap.size, Nat.le_refl _, HL.out.nr, rfl, ?_, ?_, ?_, HL.out.calls⟩
        · rw [HL.out.blk]
          congr 2
          apply Array.ext_getElem?
          intro i
          have e : ((vs ++ []).map (vV m1)).toArray[i]? = (vs.map (vV m1))[i]? := by rw [List.append_nil]; simp
          rw [e, List.getElem?_map]
          by_cases hi : i < vs.length
          · rw [List.getElem?_eq_getElem hi, HL.out.at' i _ (List.getElem?_eq_getElem hi)]
            rfl
          · rw [List.getElem?_eq_none (by omega), Array.getElem?_eq_none (by rw [HL.out.cn, ← HN.out, ← HL.out.len]; omega)]
            rfl
        · rw [List.append_nil]; exact HL.out.ok
        · rw [List.append_nil]; exact HL.out.len
      clear HE H0 hmk
      go_wp2_with fail
      go_ret
      exact HT.out
end
section
set_option linter.unusedVariables false
set_option linter.unusedSimpArgs false
open Go.RowKit

theorem spots_ok (rows : List (List Val)) : ∀ (e : List Nat) (i r s : Nat), (spotsF rows e)[i]? = some (r, s) → r ∈ e ∧ s < (rows.getD r []).length
  | [], i, r, s, h => by simp [spotsF] at h
  | q :: e, i, r, s, h => by
    rw [spotsF] at h
    have hm := List.mem_of_getElem? h
    rcases List.mem_append.1 hm with hm | hm
    · obtain ⟨x, hx, e1⟩ := List.mem_map.1 hm
      simp at hx e1
      obtain ⟨rfl, rfl⟩ := e1
      exact ⟨by simp, hx⟩
    · obtain ⟨j, hj, e2⟩ := List.getElem_of_mem hm
      obtain ⟨h1, h2⟩ := spots_ok rows e j r s (by rw [List.getElem?_eq_getElem hj, e2])
      exact ⟨by simp [h1], h2⟩
set_option maxRecDepth 100000 in
set_option maxHeartbeats 3200000 in
theorem set_local (B rb gb T f : Nat) (m : Mm) (σ : St) (e : List Nat) (fp cb co : Nat) (i : Nat) (v : Val) (w : World) (h : Env B rb gb T f e fp m σ w) (hv : VOk m v) (hi : i < cnt σ.rows e) (hc9 : cnt σ.rows e ≤ 600000)
    (k0 : w.cell? ⟨cb, co, none⟩ = some (.int .i64 10)) (k1 : w.cell? ⟨cb, co + 1, none⟩ = some (.int .i64 (i : Int))) (r s : Nat) (hsp : (spotsF σ.rows e)[i]? = some (r, s)) :
    Calls Tryd.prog 47 #[.pointer (some ⟨rb, 0, none⟩), .pointer (some ⟨cb, co, none⟩), .iface (vT v) (vX m v), .pointer (some ⟨fp, 0, none⟩)] w (ToldE B rb gb m σ w (.ok v, { σ with rows := σ.rows.set r ((σ.rows.getD r []).set s v) })) := by
  obtain ⟨hre, hsl⟩ := spots_ok σ.rows e i r s hsp
  have hrl := h.fr.len.2 r hre
  have HA : Hid (Calls Tryd.prog 41 #[.pointer (some ⟨fp, 0, none⟩), .int .i64 (i : Int)] w fun q w' => q = .returned (.pointer (some ⟨m.rw.getD r 0, 1 + s, none⟩)) ∧ Below w.heap.size w w') := by
    refine (At_any m σ.rows fp e i w h.fr hc9 hi).mono ?_
    rintro q w' ⟨r', s', h1, h2, h3⟩
    rw [hsp] at h1
    cases h1
    exact ⟨h2, h3⟩
  have HF : Hid (∀ w', Below w.heap.size w w' → (∃ cs, w'.heap[m.rw.getD r 0]? = some (.cells cs 77 (0, 0)) ∧ 1 + s < cs.size) ∧ ToldE B rb gb m σ w (.ok v, { σ with rows := σ.rows.set r ((σ.rows.getD r []).set s v) }) (.returned (.iface (vT v) (vX m v))) (w'.setCell ⟨m.rw.getD r 0, 1 + s, none⟩ (.iface (vT v) (vX m v)))) := fun w' hb => by
    have c1 := (Cur.refl h.rel h.sc).below hb h.hs
    obtain ⟨c0, _, _, hblk⟩ := c1.rel.rowAt hrl
    refine ⟨⟨_, hblk, by simp at hsl ⊢; omega⟩, m, ?_⟩
    obtain ⟨g1, g2⟩ := c1.rel.setRow (Nat.le_trans h.hs hb.size) hrl hsl hv
    exact ⟨c1.trans ⟨g1, h.sc.rx rfl (RX.set σ r s v), RX.set σ r s v, New.refl m w', g2⟩, rfl, hv, rfl⟩
  generalize m.rw.getD r 0 = K at *
  generalize vT v = t at *
  generalize vX m v = x at *
  clear h hv hi hc9 hsp hre hsl hrl
  go_enter Tryd.func47, Tryd.ntmps47
  go_wp2_with fail
  refine HA.out.mono ?_
  rintro en w1 ⟨rfl, hb⟩
  obtain ⟨⟨cs, hcs, hsz⟩, ht⟩ := HF.out w1 hb
  have HT := hidd ht
  have d1 : w1.cell? ⟨K, 1 + s, none⟩ = some cs[1 + s] := (cellO hcs).trans (by simp [hsz])
  have z1 : w1.frozen? ⟨K, 1 + s, none⟩ = false := looseO hcs
  clear ht hb HA HF hcs
  go_wp2_with fail
  go_ret
  exact HT.out
theorem Cur.glob {B rb gb : Nat} {m0 m : Mm} {σ0 σ : St} {w0 w : World} (c : Cur B rb gb m0 σ0 w0 m σ w) (k : Gl) (hk : smG k) (v : Val) (hv : VOk m v) :
    ∃ w', (Instr.mapUpdate 55 (.map (some gb)) (.agg #[.string k.1, .string k.2]) (.iface (vT v) (vX m v))).run Tryd.prog w = .ok () w' ∧ Cur B rb gb m0 σ0 w0 m { σ with glob := setG k v σ.glob } w' := by
  obtain ⟨w', h1, h2, h3, h4, h5, h6, h7⟩ := c.rel.gl.put k hk v hv
  obtain ⟨g1, g2⟩ := c.rel.glob h2 h3 h4 h5 h6 h7
  exact ⟨w', h1, c.trans ⟨g1, c.sc.rx rfl (RX.of rfl), RX.of rfl, New.refl m w, g2⟩⟩
theorem box_new (w : World) (A : Array Value) (t : TypeId) : (w.alloc (.cells A t)).heap[w.heap.size]? = some (.cells A t (0, 0)) := World.alloc_heap_new w _
set_option maxRecDepth 100000 in
set_option maxHeartbeats 3200000 in
theorem set_define (B rb gb T f : Nat) (m : Mm) (σ : St) (e : List Nat) (fp cb co : Nat) (lib own : ByteArray) (v : Val) (w : World) (h : Env B rb gb T f e fp m σ w) (hv : VOk m v) (hcb : cb < B) (hk : smG (lib, own))
    (k0 : w.cell? ⟨cb, co, none⟩ = some (.int .i64 13)) (k3 : w.cell? ⟨cb, co + 3, none⟩ = some (.string lib)) (k4 : w.cell? ⟨cb, co + 4, none⟩ = some (.string own)) :
    Calls Tryd.prog 47 #[.pointer (some ⟨rb, 0, none⟩), .pointer (some ⟨cb, co, none⟩), .iface (vT v) (vX m v), .pointer (some ⟨fp, 0, none⟩)] w (ToldE B rb gb m σ w (.ok v, { σ with glob := setG (lib, own) v σ.glob })) := by
  have hcw : cb < w.heap.size := by have := h.hs; omega
  have HG := hidd (globalOf_any cb co lib own w k3 k4 hcw)
  have H0 : Hid (∀ W, Below w.heap.size w W → W.cell? ⟨cb, co, none⟩ = some (.int .i64 13) ∧ W.cell? ⟨rb, 3, none⟩ = some (.map (some gb)) ∧ ∃ w', (Instr.mapUpdate 55 (.map (some gb)) (.agg #[.string lib, .string own]) (.iface (vT v) (vX m v))).run Tryd.prog W = .ok () w' ∧ ToldE B rb gb m σ w (.ok v, { σ with glob := setG (lib, own) v σ.glob }) (.returned (.iface (vT v) (vX m v))) w') := fun W hb => by
    have c1 := (Cur.refl h.rel h.sc).below hb h.hs
    obtain ⟨tv, hR, _⟩ := c1.rel.run
    obtain ⟨w', h1, h2⟩ := c1.glob (lib, own) hk v hv
    exact ⟨(hb.cell (p := ⟨cb, co, none⟩) hcw).trans k0, (cellO hR).trans rfl, w', h1, m, h2, rfl, hv, rfl⟩
  generalize vT v = t at *
  generalize vX m v = x at *
  clear h hv hk k3 k4
  go_enter Tryd.func47, Tryd.ntmps47
  go_wp2_with fail
  refine HG.out.mono ?_
  rintro en w1 ⟨rfl, hb⟩
  have HB := hidd hb
  have hba : Below w.heap.size w (w1.alloc (.cells #[.string lib, .string own] 112)) := hb.alloc hb.size _
  obtain ⟨y0, y1, _⟩ := H0.out _ hba
  have HBA := hidd hba
  have hbx := box_new w1 #[.string lib, .string own] 112
  have b0 : (w1.alloc (.cells #[.string lib, .string own] 112)).cell? ⟨w1.heap.size, 0, none⟩ = some (.string lib) := (cellO hbx).trans rfl
  have b1 : (w1.alloc (.cells #[.string lib, .string own] 112)).cell? ⟨w1.heap.size, 1, none⟩ = some (.string own) := (cellO hbx).trans rfl
  clear hb hba HG hbx
  obtain ⟨_, _, w5, hmu, ht⟩ := H0.out _ (Below.drew HBA.out)
  have HT := hidd ht
  clear ht H0
  go_wp2_with fail
  go_region
  all_goals
    go_wp2_with fail
    go_ret
    exact HT.out
set_option maxRecDepth 100000 in
set_option maxHeartbeats 3200000 in
theorem set_global (B rb gb T f : Nat) (m : Mm) (σ : St) (e : List Nat) (fp cb co : Nat) (lib own : ByteArray) (v : Val) (w : World) (h : Env B rb gb T f e fp m σ w) (hv : VOk m v) (hcb : cb < B) (hk : smG (lib, own))
    (k0 : w.cell? ⟨cb, co, none⟩ = some (.int .i64 11)) (k3 : w.cell? ⟨cb, co + 3, none⟩ = some (.string lib)) (k4 : w.cell? ⟨cb, co + 4, none⟩ = some (.string own)) :
    Calls Tryd.prog 47 #[.pointer (some ⟨rb, 0, none⟩), .pointer (some ⟨cb, co, none⟩), .iface (vT v) (vX m v), .pointer (some ⟨fp, 0, none⟩)] w (ToldE B rb gb m σ w (if globF (lib, own) σ.glob = none then (.bad 3, σ) else (.ok v, { σ with glob := setG (lib, own) v σ.glob }))) := by
  have hcw : cb < w.heap.size := by have := h.hs; omega
  have HG := hidd (globalOf_any cb co lib own w k3 k4 hcw)
  have H0 : Hid (∀ W, Below w.heap.size w W → W.cell? ⟨cb, co, none⟩ = some (.int .i64 11) ∧ W.cell? ⟨rb, 3, none⟩ = some (.map (some gb)) ∧ (Instr.lookup 55 (.map (some gb)) (.agg #[.string lib, .string own]) true).run Tryd.prog W = .ok (.tuple #[lookV m (globF (lib, own) σ.glob), .bool (globF (lib, own) σ.glob).isSome]) W ∧ ToldE B rb gb m σ w (.bad 3, σ) (.panicked (endP 3)) W ∧ ∃ w', (Instr.mapUpdate 55 (.map (some gb)) (.agg #[.string lib, .string own]) (.iface (vT v) (vX m v))).run Tryd.prog W = .ok () w' ∧ ToldE B rb gb m σ w (.ok v, { σ with glob := setG (lib, own) v σ.glob }) (.returned (.iface (vT v) (vX m v))) w') := fun W hb => by
    have c1 := (Cur.refl h.rel h.sc).below hb h.hs
    obtain ⟨tv, hR, _⟩ := c1.rel.run
    obtain ⟨w', h1, h2⟩ := c1.glob (lib, own) hk v hv
    exact ⟨(hb.cell (p := ⟨cb, co, none⟩) hcw).trans k0, (cellO hR).trans rfl, c1.rel.gl.look (lib, own) hk, ⟨m, c1, rfl⟩, w', h1, m, h2, rfl, hv, rfl⟩
  generalize vT v = t at *
  generalize vX m v = x at *
  clear h hv hk k3 k4
  cases hgl : globF (lib, own) σ.glob with
  | none =>
    rw [if_pos rfl]
    rw [hgl] at H0
    clear hgl
    unfold lookV at H0
    simp only [Option.isSome_none] at H0
    go_enter Tryd.func47, Tryd.ntmps47
    go_wp2_with fail
    refine HG.out.mono ?_
    rintro en w1 ⟨rfl, hb⟩
    have hba : Below w.heap.size w (w1.alloc (.cells #[.string lib, .string own] 112)) := hb.alloc hb.size _
    obtain ⟨y0, y1, _⟩ := H0.out _ hba
    have hbx := box_new w1 #[.string lib, .string own] 112
    have b0 : (w1.alloc (.cells #[.string lib, .string own] 112)).cell? ⟨w1.heap.size, 0, none⟩ = some (.string lib) := (cellO hbx).trans rfl
    have b1 : (w1.alloc (.cells #[.string lib, .string own] 112)).cell? ⟨w1.heap.size, 1, none⟩ = some (.string own) := (cellO hbx).trans rfl
    obtain ⟨_, _, hlk, ht, _⟩ := H0.out _ (Below.drew hba)
    have HT := hidd ht
    clear hb hba HG hbx ht H0
    go_wp2_with fail
    go_region
    all_goals
      go_wp2_with fail
      refine (Must_no _ _).mono ?_
      rintro en w2 ⟨rfl, rfl⟩
      go_wp2_with fail
      exact ⟨rfl, HT.out⟩
  | some u =>
    rw [if_neg (by simp)]
    rw [hgl] at H0
    clear hgl
    unfold lookV at H0
    simp only [Option.isSome_some] at H0
    go_enter Tryd.func47, Tryd.ntmps47
    go_wp2_with fail
    refine HG.out.mono ?_
    rintro en w1 ⟨rfl, hb⟩
    have hba : Below w.heap.size w (w1.alloc (.cells #[.string lib, .string own] 112)) := hb.alloc hb.size _
    obtain ⟨y0, y1, _⟩ := H0.out _ hba
    have hbx := box_new w1 #[.string lib, .string own] 112
    have b0 : (w1.alloc (.cells #[.string lib, .string own] 112)).cell? ⟨w1.heap.size, 0, none⟩ = some (.string lib) := (cellO hbx).trans rfl
    have b1 : (w1.alloc (.cells #[.string lib, .string own] 112)).cell? ⟨w1.heap.size, 1, none⟩ = some (.string own) := (cellO hbx).trans rfl
    obtain ⟨_, _, hlk, _, _⟩ := H0.out _ (Below.drew hba)
    obtain ⟨_, _, _, _, w5, hmu, ht⟩ := H0.out _ (Below.drew (Below.drew hba))
    have HT := hidd ht
    clear hb hba HG hbx ht H0
    go_wp2_with fail
    go_region
    all_goals
      go_wp2_with fail
      refine (Must_yes _ _).mono ?_
      rintro en w2 ⟨rfl, rfl⟩
      go_wp2_with fail
      go_region
      all_goals
        go_wp2_with fail
        go_ret
        exact HT.out
end
end Go.Proofs.YthooljlikllnpaaDoor
