/- Chapter 7: the two values of a pair. -/
import Derived.Test.YthooljlikllnpaaDoorK31
namespace Go.Proofs.YthooljlikllnpaaDoor
set_option linter.unusedVariables false
set_option linter.unusedSimpArgs false
open Go.RowKit

theorem Rel.lt {B rb gb : Nat} {m : Mm} {σ : St} {w : World} (h : Rel B rb gb m σ w) {i k : Nat} (h2 : m.pr[i]? = some k) : ∃ p, σ.pairs[i]? = some p ∧ PM B m w k p ∧ k < w.heap.size := by
  have hi : i < σ.pairs.length := by rw [← h.lp]; exact (List.getElem?_eq_some_iff.1 h2).1
  refine ⟨_, List.getElem?_eq_getElem hi, h.pr i k _ (List.getElem?_eq_getElem hi) h2, ?_⟩
  have := h.pr i k _ (List.getElem?_eq_getElem hi) h2
  cases hp : σ.pairs[i] with
  | made a b => rw [hp] at this; exact (Array.getElem?_eq_some_iff.1 this.2.2).1
  | unmade d ds =>
    rw [hp] at this
    obtain ⟨b, o, c, g, q1, _⟩ := this
    exact (Array.getElem?_eq_some_iff.1 q1).1
theorem PM.block {B : Nat} {m : Mm} {w : World} {k : Nat} {p : PairS} (h : PM B m w k p) : ∃ cs, w.heap[k]? = some (.cells cs 160 (0, 0)) := by
  cases p with
  | made a b => exact ⟨_, h.2.2⟩
  | unmade d ds =>
    obtain ⟨b, o, c, g, q1, _⟩ := h
    exact ⟨_, q1⟩
/-- A pair is made. -/
theorem Rel.make {B rb gb : Nat} {m : Mm} {σ : St} {w w' : World} {i k : Nat} {a b : Val} (h : Rel B rb gb m σ w) (hs : B ≤ w.heap.size) (hi : m.pr[i]? = some k) (ha : VOk m a) (hb : VOk m b) (hw : ∀ q, q ≠ k → w'.heap[q]? = w.heap[q]?) (hz : w'.heap.size = w.heap.size) (ho : w'.os = w.os) (ht : w'.tape = w.tape) (hp : w'.output = w.output)
    (hk : w'.heap[k]? = some (.cells #[vV m a, vV m b, .slice none 0 0] 160 (0, 0))) : Rel B rb gb m { σ with pairs := σ.pairs.set i (.made a b) } w' := by
  obtain ⟨p0, hp0, hpm, hkl⟩ := h.lt hi
  obtain ⟨cs0, hc0⟩ := hpm.block
  have hkb : B ≤ k := h.bp k (List.mem_of_getElem? hi)
  have hbB : Below B w w' := ⟨ho, ht, hp, by omega, fun q hq => hw q (by omega)⟩
  have kd : ∀ (q : Nat) (cs : Array Value) (t : TypeId), w.heap[q]? = some (.cells cs t (0, 0)) → t ≠ 160 → w'.heap[q]? = some (.cells cs t (0, 0)) := fun q cs t hq hne => (hw q (ne_type hc0 hq hne)).trans hq
  have frk : ∀ fp e, Fr w m σ.rows fp e → Fr w' m σ.rows fp e := by
    intro fp e hf
    induction hf with
    | root fp h => exact .root fp (kd fp _ _ h (by decide))
    | step fp ar far r e e' h1 h2 h3 h4 h5 h6 i1 i2 => exact .step fp ar far r e e' h1 h2 (kd fp _ _ h3 (by decide)) i1 i2 h6
  have hrun : RT B rb σ.out σ.left σ.calls (.map (some gb)) w' := by
    refine h.run.stay (by omega) ho ht hp (fun q hq hc => hw q ?_)
    rintro rfl
    rcases hc with rfl | ⟨cs, fz, hc⟩
    · obtain ⟨tv, hR, _⟩ := h.run
      rw [show w.heap[q]? = _ from hR] at hc0
      simp at hc0
    · rw [hc0] at hc
      simp at hc
  refine ⟨hrun, h.hB, h.hg, by simp [h.lp], h.lc, h.lr, h.np, h.nr, h.nc, h.bp, h.br, h.bc, ?_, ?_, ?_, h.gl.stay (hw gb (h.gl.ne hc0))⟩
  · intro j q p h1 h2
    by_cases hij : i = j
    · subst hij
      rw [hi] at h2
      cases h2
      rw [List.getElem?_set_self (List.getElem?_eq_some_iff.1 hp0).1] at h1
      cases h1
      exact ⟨ha, hb, hk⟩
    · rw [List.getElem?_set_ne hij] at h1
      have hqk : q ≠ k := by
        rintro rfl
        have e1 := List.getElem?_eq_some_iff.1 hi
        have e2 := List.getElem?_eq_some_iff.1 h2
        obtain ⟨l1, e1⟩ := e1
        obtain ⟨l2, e2⟩ := e2
        have nd := List.pairwise_iff_getElem.1 h.np
        rcases Nat.lt_or_gt_of_ne hij with hl | hl
        · exact nd i j l1 l2 hl (e1.trans e2.symm)
        · exact nd j i l2 l1 hl (e2.trans e1.symm)
      have := h.pr j q p h1 h2
      cases p with
      | made x y => exact ⟨this.1, this.2.1, (hw q hqk).trans this.2.2⟩
      | unmade d ds =>
        obtain ⟨b', o', c', g', q1, q2, q3, q4, q5⟩ := this
        exact ⟨b', o', c', g', (hw q hqk).trans q1, q2, Dc.stay (fun z hz => hbB.block z hz) (fun _ hz => hz) _ _ _ q3, q4, q5⟩
  · intro j q p h1 h2
    obtain ⟨lb, lo, g, fp, g1, g2, g3⟩ := h.pc j q p h1 h2
    exact ⟨lb, lo, g, fp, kd q _ _ g1 (by decide), g2.below hbB, frk fp _ g3⟩
  · intro r q vs h1 h2
    obtain ⟨g1, c0, g2⟩ := h.rw r q vs h1 h2
    exact ⟨g1, c0, kd q _ _ g2 (by decide)⟩
theorem MmX.at {m m' : Mm} (x : MmX m m') {i k : Nat} (h : m.pr[i]? = some k) : m'.pr[i]? = some k := by
  obtain ⟨l, e⟩ := x.pr
  rw [e, List.getElem?_append_left (List.getElem?_eq_some_iff.1 h).1]
  exact h
/-- The end of values: three cells are set. -/
theorem make_end {B rb gb : Nat} {m m2 : Mm} {σ2 : St} {w w2 : World} {i k : Nat} {a b : Val} {x0 x1 x2 : Value} (h : Rel B rb gb m2 σ2 w2) (hs : B ≤ w2.heap.size) (hb : Below w.heap.size w w2) (hi : m.pr[i]? = some k) (n : New m m2 w) (ha : VOk m2 a) (hbv : VOk m2 b) (hk : w2.heap[k]? = some (.cells #[x0, x1, x2] 160 (0, 0))) :
    Rel B rb gb m2 { σ2 with pairs := σ2.pairs.set i (.made a b) } (((w2.setCell ⟨k, 0, none⟩ (vV m2 a)).setCell ⟨k, 1, none⟩ (vV m2 b)).setCell ⟨k, 2, none⟩ (.slice none 0 0)).drew ∧ KR B rb gb m w (((w2.setCell ⟨k, 0, none⟩ (vV m2 a)).setCell ⟨k, 1, none⟩ (vV m2 b)).setCell ⟨k, 2, none⟩ (.slice none 0 0)).drew := by
  have hkk : Keep k w2 (((w2.setCell ⟨k, 0, none⟩ (vV m2 a)).setCell ⟨k, 1, none⟩ (vV m2 b)).setCell ⟨k, 2, none⟩ (.slice none 0 0)).drew := ((((Keep.refl k w2).setCell ⟨k, 0, none⟩ rfl _).setCell ⟨k, 1, none⟩ rfl _).setCell ⟨k, 2, none⟩ rfl _).drew
  have hz : (((w2.setCell ⟨k, 0, none⟩ (vV m2 a)).setCell ⟨k, 1, none⟩ (vV m2 b)).setCell ⟨k, 2, none⟩ (.slice none 0 0)).drew.heap.size = w2.heap.size := by simp
  have hne : ∀ q, q ≠ k → (((w2.setCell ⟨k, 0, none⟩ (vV m2 a)).setCell ⟨k, 1, none⟩ (vV m2 b)).setCell ⟨k, 2, none⟩ (.slice none 0 0)).drew.heap[q]? = w2.heap[q]? := by
    intro q hq
    by_cases hl : q < w2.heap.size
    · exact hkk.block q hl (by simpa using hq)
    · rw [Array.getElem?_eq_none (by omega), Array.getElem?_eq_none (by omega)]
  refine ⟨h.make hs (n.x.at hi) ha hbv hne hz rfl rfl rfl ?_, ?_⟩
  · have h1 := cell_setV (q := 0) hk (vV m2 a)
    have h2 := cell_setV (q := 1) h1 (vV m2 b)
    exact (cell_setV (q := 2) h2 (.slice none 0 0)).trans rfl
  · refine ⟨hkk.os.trans hb.os, hkk.tape.trans hb.tape, hkk.output.trans hb.output, Nat.le_trans hb.size hkk.size, fun q hq _ _ h3 _ _ => ?_⟩
    have hqk : q ≠ k := by
      rintro rfl
      exact h3 (List.mem_of_getElem? hi)
    exact (hne q hqk).trans (hb.block q hq)
/-- What is told of the two values of a pair. -/
def ToldP (B rb gb : Nat) (m : Mm) (w : World) (r : (Val × Val) × St) (e : Ending) (w' : World) : Prop := ∃ m', e = .returned (.tuple #[vV m' r.1.1, vV m' r.1.2]) ∧ Rel B rb gb m' r.2 w' ∧ New m m' w ∧ VOk m' r.1.1 ∧ VOk m' r.1.2 ∧ KR B rb gb m w w'
set_option maxRecDepth 100000 in
set_option maxHeartbeats 3200000 in
theorem values_any (B rb gb : Nat) (m : Mm) (σ : St) (i k : Nat) (w : World) (h : Rel B rb gb m σ w) (hs : B ≤ w.heap.size) (hi : m.pr[i]? = some k) :
    Calls Tryd.prog 84 #[.pointer (some ⟨k, 0, none⟩)] w (ToldP B rb gb m w (valuesF i σ)) := by
  obtain ⟨p, hp, hpm, hkl⟩ := h.lt hi
  unfold valuesF
  rw [hp]
  cases p with
  | made a b =>
    obtain ⟨ha, hb, hk⟩ := hpm
    have c0 : w.cell? ⟨k, 0, none⟩ = some (.iface (vT a) (vX m a)) := (cellO hk).trans rfl
    have c1 : w.cell? ⟨k, 1, none⟩ = some (.iface (vT b) (vX m b)) := (cellO hk).trans rfl
    have c2 : w.cell? ⟨k, 2, none⟩ = some (.slice none 0 0) := (cellO hk).trans rfl
    have HR := hidd (h.below (Below.drew (Below.refl _ _)) hs)
    have HA : Hid (VOk m a ∧ VOk m b) := ⟨ha, hb⟩
    clear h hk hp hi ha hb
    go_enter Tryd.func84, Tryd.ntmps84
    go_wp2_with fail
    go_region
    all_goals
      go_wp2_with fail
      exact bodyPost_ret (v := .tuple #[vV m a, vV m b]) (by simp [results, Tryd.results84, go_sem, vV]) rfl ⟨m, rfl, HR.out, New.refl m w, HA.out.1, HA.out.2, KR.ofBelow (Below.drew (Below.refl _ _))⟩
  | unmade d r =>
    obtain ⟨b, o, c, g, hk, hbB, hdc, hc, hsm⟩ := hpm
    have hlen := hdc.len
    simp at hlen
    have c0 : w.cell? ⟨k, 0, none⟩ = some .nilIface := (cellO hk).trans rfl
    have c1 : w.cell? ⟨k, 1, none⟩ = some .nilIface := (cellO hk).trans rfl
    have c2 : w.cell? ⟨k, 2, none⟩ = some (.slice (some ⟨b, o, none⟩) (r.length + 1) c) := (cellO hk).trans rfl
    have hD : DatM B w b o d := by simpa using DatM.of (i := 0) hdc rfl (hsm d (by simp))
    have hT := DsV.tail hdc hbB hc (fun x hx => hsm x (by simp [hx]))
    have HQ : Hid (∀ W, Below w.heap.size w W → Calls Tryd.prog 40 #[.pointer (some ⟨b, o, none⟩)] W (ToldV B rb gb m W (quotedF d σ))) := fun W hb => quoted_any B rb gb m σ b o d W (h.below hb hs) (Nat.le_trans hs hb.size) (hD.below (hb.mono hs))
    obtain ⟨a, σ1, hq1⟩ : ∃ a σ1, quotedF d σ = (a, σ1) := ⟨_, _, rfl⟩
    obtain ⟨v, σ2, hq2⟩ : ∃ v σ2, listedF r σ1 = (v, σ2) := ⟨_, _, rfl⟩
    simp only [hq1, hq2]
    rw [hq1] at HQ
    have HL : Hid (∀ m1 W, Below w.heap.size w W → Rel B rb gb m1 σ1 W → Calls Tryd.prog 58 #[.slice (if c = 1 then some ⟨b, o, none⟩ else some ⟨b, o + 6, none⟩) r.length (c - 1)] W (ToldV B rb gb m1 W (v, σ2))) := fun m1 W hb hr => by
      have := listed_any B rb gb m1 σ1 _ (c - 1) r W hr (Nat.le_trans hs hb.size) (hT.below (hb.mono hs)) (by omega)
      rw [hq2] at this
      exact this
    have HK : Hid (∀ W, Below w.heap.size w W → W.heap[k]? = some (.cells #[.nilIface, .nilIface, .slice (some ⟨b, o, none⟩) (r.length + 1) c] 160 (0, 0))) := fun W hb => (hb.block k hkl).trans hk
    have HS : Hid (B ≤ w.heap.size ∧ m.pr[i]? = some k) := ⟨hs, hi⟩
    have hn1 : ((r.length + 1 : Nat) : Int) - 1 = r.length := by omega
    clear h hp hi hdc hD hT hk hsm
    by_cases hc1 : c = 1
    · have hr0 : r.length = 0 := by omega
      rw [hr0] at HL HK c2 hlen hn1
      subst hc1
      simp only [if_true] at HL
      go_enter Tryd.func84, Tryd.ntmps84
      go_wp2_with fail
      go_region_with (first
        | (go_at_call 40; refine (HQ.out _ (Below.drew (Below.refl _ _))).mono ?_; rintro e w1 ⟨m1, rfl, r1, n1, o1, b1⟩; have HB1 : Hid (Below w.heap.size w w1) := (Below.drew (Below.refl _ _)).trans b1; have k1 := HK.out w1 HB1.out; have y2 : w1.cell? ⟨k, 2, none⟩ = some (.slice (some ⟨b, o, none⟩) _ _) := (cellO k1).trans rfl; have HR1 : Hid (Rel B rb gb m1 σ1 w1 ∧ New m m1 w ∧ VOk m1 a) := ⟨r1, ⟨n1.x, n1.pr, n1.rw⟩, o1⟩; clear r1 n1 o1 b1 k1; unfold vV)
        | (go_at_call 58; refine (HL.out m1 w1 HB1.out HR1.out.1).mono ?_; rintro e w2 ⟨m2, rfl, r2, n2, o2, b2⟩; have HB2 := hidd (HB1.out.trans (b2.mono HB1.out.size)); have k2 := HK.out w2 HB2.out; have x0 : w2.cell? ⟨k, 0, none⟩ = some .nilIface := (cellO k2).trans rfl; have x1 : w2.cell? ⟨k, 1, none⟩ = some .nilIface := (cellO k2).trans rfl; have f0 : w2.frozen? ⟨k, 0, none⟩ = false := looseO k2; have f1 : w2.frozen? ⟨k, 1, none⟩ = false := looseO k2; have f2 : w2.frozen? ⟨k, 2, none⟩ = false := looseO k2; have x2 : w2.cell? ⟨k, 2, none⟩ = some (.slice (some ⟨b, o, none⟩) _ _) := (cellO k2).trans rfl; have HE := hidd (make_end r2 (Nat.le_trans HS.out.1 HB2.out.size) HB2.out HS.out.2 (HR1.out.2.1.trans n2 HB1.out.size) (HR1.out.2.2.up n2.x) o2 k2); have HN : Hid (New m m2 w ∧ VOk m2 a ∧ VOk m2 v ∧ vX m2 a = vX m1 a) := ⟨HR1.out.2.1.trans n2 HB1.out.size, HR1.out.2.2.up n2.x, o2, vX_up HR1.out.2.2 n2.x⟩; clear r2 n2 o2 b2 k2; unfold vV))
      all_goals
        rw [← HN.out.2.2.2]
        clear HQ HL HK HR1 HB1
        go_wp2_with fail
        go_region
        all_goals
          go_wp2_with fail
          exact bodyPost_ret (v := .tuple #[vV m2 a, vV m2 v]) (by simp [results, Tryd.results84, go_sem, vV]) rfl ⟨m2, rfl, HE.out.1, HN.out.1, HN.out.2.1, HN.out.2.2.1, HE.out.2⟩
    · simp only [if_neg hc1] at HL
      go_enter Tryd.func84, Tryd.ntmps84
      go_wp2_with fail
      go_region_with (first
        | (go_at_call 40; refine (HQ.out _ (Below.drew (Below.refl _ _))).mono ?_; rintro e w1 ⟨m1, rfl, r1, n1, o1, b1⟩; have HB1 : Hid (Below w.heap.size w w1) := (Below.drew (Below.refl _ _)).trans b1; have k1 := HK.out w1 HB1.out; have y2 : w1.cell? ⟨k, 2, none⟩ = some (.slice (some ⟨b, o, none⟩) _ _) := (cellO k1).trans rfl; have HR1 : Hid (Rel B rb gb m1 σ1 w1 ∧ New m m1 w ∧ VOk m1 a) := ⟨r1, ⟨n1.x, n1.pr, n1.rw⟩, o1⟩; clear r1 n1 o1 b1 k1; unfold vV)
        | (go_at_call 58; refine (HL.out m1 w1 HB1.out HR1.out.1).mono ?_; rintro e w2 ⟨m2, rfl, r2, n2, o2, b2⟩; have HB2 := hidd (HB1.out.trans (b2.mono HB1.out.size)); have k2 := HK.out w2 HB2.out; have x0 : w2.cell? ⟨k, 0, none⟩ = some .nilIface := (cellO k2).trans rfl; have x1 : w2.cell? ⟨k, 1, none⟩ = some .nilIface := (cellO k2).trans rfl; have f0 : w2.frozen? ⟨k, 0, none⟩ = false := looseO k2; have f1 : w2.frozen? ⟨k, 1, none⟩ = false := looseO k2; have f2 : w2.frozen? ⟨k, 2, none⟩ = false := looseO k2; have x2 : w2.cell? ⟨k, 2, none⟩ = some (.slice (some ⟨b, o, none⟩) _ _) := (cellO k2).trans rfl; have HE := hidd (make_end r2 (Nat.le_trans HS.out.1 HB2.out.size) HB2.out HS.out.2 (HR1.out.2.1.trans n2 HB1.out.size) (HR1.out.2.2.up n2.x) o2 k2); have HN : Hid (New m m2 w ∧ VOk m2 a ∧ VOk m2 v ∧ vX m2 a = vX m1 a) := ⟨HR1.out.2.1.trans n2 HB1.out.size, HR1.out.2.2.up n2.x, o2, vX_up HR1.out.2.2 n2.x⟩; clear r2 n2 o2 b2 k2; unfold vV))
      all_goals
        rw [← HN.out.2.2.2]
        clear HQ HL HK HR1 HB1
        go_wp2_with fail
        go_region
        all_goals
          go_wp2_with fail
          exact bodyPost_ret (v := .tuple #[vV m2 a, vV m2 v]) (by simp [results, Tryd.results84, go_sem, vV]) rfl ⟨m2, rfl, HE.out.1, HN.out.1, HN.out.2.1, HN.out.2.2.1, HE.out.2⟩
end Go.Proofs.YthooljlikllnpaaDoor
