/- Chapter 11: WHAT IS CALLED: call 70 tells callM. Chapter 11: ONE INSTRUCTION: step 32 tells stepM. -/
import Derived.Test.YthikdpclifeonaaGreatDoorK41
import Derived.Test.YthikdpclifeonaaGreatDoorK42
import Derived.Test.YthikdpclifeonaaGreatDoorK43
namespace Go.Proofs.YthikdpclifeonaaGreatDoor.V
section
set_option linter.unusedVariables false
set_option linter.unusedSimpArgs false
open Go.RowKit
open Go.Proofs.YthikdpclifeonaaGreatDoor

/-- What is told of a call. -/
def ToldCall (B rb T : Nat) (PP : List Pro) (G : Nat) (w : World) (r : Res Bool × Mc) (e : Ending) (w' : World) : Prop :=
  (e = .returned (.tuple #[]) ∧ ∃ d, r = (.ok true, d) ∧ OkM B rb T PP G w d w') ∨ ∃ q, e = .panicked (endP q) ∧ ∃ d, r = (.bad q, d) ∧ BadM B rb w d w'
set_option maxHeartbeats 1600000 in
theorem call_any {B rb T : Nat} {PP : List Pro} {G : Nat} {gb : Rc} {m : Mm} {c : Mc} {w : World} {a : Nat} (h : MR B rb T PP G gb m c w) (ha : a + 1 ≤ c.stack.length) (ha9 : a ≤ 2000) (hn9 : c.stack.length ≤ 1000000) (hpg : ∀ q ∈ c.st.procs, ∃ P, PP[q.proto]? = some P ∧ ((cnt c.st.rows q.env : Nat) : Int) + P.args ≤ 50000000) :
    Calls Tryz.prog 70 #[.pointer (some ⟨rb, 0, none⟩), .int .i64 (a : Int)] w (ToldCall B rb T PP G w (callM PP a c)) := by
  obtain ⟨tv, hR⟩ := h.rn
  obtain ⟨g, cap, hst, hcap, hcm, hBg, ⟨cur, hcur⟩, hcells⟩ := own_cell h.st.own (by omega)
  obtain ⟨k, hk⟩ : ∃ k, c.stack.length = k + 1 + a := ⟨c.stack.length - a - 1, by omega⟩
  have hkl : k < c.stack.length := by omega
  obtain ⟨v, hv⟩ : ∃ v, c.stack[k]? = some v := ⟨_, List.getElem?_eq_getElem hkl⟩
  rw [callM_eq PP a c k v hk hv]
  have hgr : g ≠ rb := own_rb h.st.own hR (by decide) g (by rw [hst]; rfl)
  have c1 : w.cell? ⟨rb, 1, none⟩ = some (.slice (some ⟨g, 0, none⟩) c.stack.length cap) := hR.at1.trans (congrArg some hst)
  have HK := take_rawX rb g (k + 1) a c.stack.length cap w c1 (looseO hR) hk hcap hn9
  obtain ⟨h1, hb1⟩ := h.taken hst (n := k + 1) (by omega)
  have R1 := hR.set1 (.slice (some ⟨g, 0, none⟩) (k + 1) cap)
  have hb1' : ∀ q, q ≠ rb → (w.setCell ⟨rb, 1, none⟩ (.slice (some ⟨g, 0, none⟩) (k + 1) cap)).heap[q]? = w.heap[q]? := fun q hq => Below.heap_setCell _ _ _ _ (by simpa using hq)
  generalize hw1 : w.setCell ⟨rb, 1, none⟩ (.slice (some ⟨g, 0, none⟩) (k + 1) cap) = w1 at *
  have kc : w1.cell? ⟨g, k, none⟩ = some (.iface (vT v) (vX m v)) := (World.cell?_of_block (hb1' g hgr)).trans (hcells k (vV m v) (by rw [List.getElem?_map, hv]; rfl))
  have HO := pop_raw rb g k cap (vT v) (vX m v) w1 R1.at1 (looseO R1) kc (by omega) (by omega)
  obtain ⟨h2, hb2⟩ := h1.taken (g := g) (cap := cap) (n := k) (by show Value.slice _ _ _ = Value.slice _ _ _; congr 1; show k + 1 = (c.stack.take (k + 1)).length; rw [List.length_take]; omega) (by show k ≤ (c.stack.take (k + 1)).length; rw [List.length_take]; omega)
  have R2 := R1.set1 (.slice (some ⟨g, 0, none⟩) k cap)
  have hb2' : ∀ q, q ≠ rb → (w1.setCell ⟨rb, 1, none⟩ (.slice (some ⟨g, 0, none⟩) k cap)).heap[q]? = w.heap[q]? := fun q hq => (Below.heap_setCell _ _ _ _ (by simpa using hq)).trans (hb1' q hq)
  generalize hw2 : w1.setCell ⟨rb, 1, none⟩ (.slice (some ⟨g, 0, none⟩) k cap) = w2 at *
  have et : (c.stack.take (k + 1)).take k = c.stack.take k := by rw [List.take_take, Nat.min_eq_left (by omega)]
  have hM2 : MR B rb T PP G { gb with stack := .slice (some ⟨g, 0, none⟩) k cap } m { c with stack := c.stack.take k } w2 := by
    have := h2
    simp only [et] at this
    exact this
  clear h2 h1
  have hbw2 : Bel B w w2 := hb1.trans hb2
  have hg2 : w2.heap[g]? = some (.cells cur 155 (0, 0)) := (hb2' g hgr).trans hcur
  have hla : (c.stack.drop (k + 1)).length = a := by rw [List.length_drop]; omega
  have hokA : ∀ u ∈ c.stack.drop (k + 1), VOk m u := fun u hu => h.st.ok u (List.mem_of_mem_drop hu)
  have hcur2 : ∀ i u, (c.stack.drop (k + 1))[i]? = some u → cur[k + 1 + i]? = some (vV m u) := fun i u hu => by
    rw [List.getElem?_drop] at hu
    have := hcells (k + 1 + i) (vV m u) (by rw [List.getElem?_map, hu]; rfl)
    rw [cellO hcur] at this
    exact this
  have hvo : VOk m v := h.st.ok v (List.mem_of_getElem? hv)
  have hgm : g ∉ m.rw := h.st.nr g (by rw [hst]; rfl)
  obtain ⟨gb2, hgb2⟩ : ∃ gb2 : Rc, gb2 = { gb with stack := .slice (some ⟨g, 0, none⟩) k cap } := ⟨_, rfl⟩
  have R2' : RN rb tv gb2 w2 := by rw [hgb2]; exact R2
  rw [← hgb2] at hM2
  have hstk : ∀ q, gb2.stack.ownBlock = some q → q = g := fun q hq => by
    rw [hgb2] at hq
    simpa [Value.ownBlock] using hq.symm
  clear R2 R1 hcells hb1 hb2 hb1'
  have bad : ∀ q : Int, BadM B rb w { c with stack := c.stack.take k } w2 := fun _ => ⟨hbw2, gb2, hM2.rel.run⟩
  have hma : (c.stack.drop (k + 1)) ≠ [] → (some (⟨g, if cap - (k + 1) = 0 then 0 else k + 1, none⟩ : Addr)) = some ⟨g, k + 1, none⟩ := fun hne => by
    have : 0 < (c.stack.drop (k + 1)).length := List.length_pos_iff.2 hne
    rw [if_neg (by omega)]
  obtain ⟨ad, had⟩ : ∃ ad : Nat, ad = if cap - (k + 1) = 0 then 0 else k + 1 := ⟨_, rfl⟩
  rw [← had] at HK hma
  have oth : vT v ≠ 168 → vT v ≠ 169 → callV PP a c k v = (.bad 4, { c with stack := c.stack.take k }) → Calls Tryz.prog 70 #[.pointer (some ⟨rb, 0, none⟩), .int .i64 (a : Int)] w (ToldCall B rb T PP G w (callV PP a c k v)) := fun t1 t2 ev => by
    refine (call_other rb a (cap - (k + 1)) (some ⟨g, ad, none⟩) (vT v) (vX m v) t1 t2 w w1 w2 HK HO).mono ?_
    rintro e w' ⟨rfl, rfl⟩
    exact Or.inr ⟨4, rfl, _, ev, bad 4⟩
  cases v with
  | num n => exact oth (by simp [vT]) (by simp [vT]) rfl
  | tru b => exact oth (by simp [vT]) (by simp [vT]) rfl
  | sym s => exact oth (by simp [vT]) (by simp [vT]) rfl
  | nil => exact oth (by simp [vT]) (by simp [vT]) rfl
  | pair i => exact oth (by simp [vT]) (by simp [vT]) rfl
  | prim p =>
    clear oth
    have hM3 := hM2.stay (w' := w2.drew) (Below.drew (Below.refl _ _))
    have HP := prim_any B rb gb2 T m c.st p (c.stack.drop (k + 1)) g (k + 1) (cap - (k + 1)) cur (some ⟨g, ad, none⟩) w2.drew hM3.rel hM3.hs hM3.hT hM3.tab hvo hokA hg2 hgm hcur2 hma (by omega)
    rw [hla] at HP
    have hq := prim_qt p (c.stack.drop (k + 1)) c.st
    unfold callV
    simp only
    cases hpf : primF p (c.stack.drop (k + 1)) c.st with
    | mk r s =>
      rw [hpf] at HP hq
      cases r with
      | ok v' =>
        refine (call_prim_okX rb a (cap - (k + 1)) (some ⟨g, ad, none⟩) p (vT v') (fun x' W => ∃ m', x' = vX m' v' ∧ VOk m' v' ∧ MR B rb T PP G gb2 m' { c with stack := c.stack.take k, st := s } W ∧ Bel B w W) (fun W => OkM B rb T PP G w { c with st := s, stack := c.stack.take k ++ [v'] } W) w w1 w2 HK HO (HP.mono ?_) ?_).mono ?_
        · rintro e W ⟨m', r1, r2, r3, r4, r5⟩
          obtain ⟨x1, x2⟩ := hM3.kr r3 r1 r2 (RX.of hq.1)
          exact ⟨vX m' v', r4, m', rfl, r5, x1, hbw2.trans ((Bel.drew0 B w2).trans x2)⟩
        · rintro x' W ⟨m', rfl, r5, x1, x2⟩
          refine (push_mr x1 r5 (by show (c.stack.take k).length ≤ _; rw [List.length_take]; omega)).mono ?_
          rintro e W' ⟨rfl, gb', y1, y2⟩
          exact ⟨rfl, x2.trans y2, gb', m', y1⟩
        · rintro e W ⟨rfl, hW⟩
          exact Or.inl ⟨rfl, _, rfl, hW⟩
      | bad q =>
        refine (call_prim_bad rb a (cap - (k + 1)) (some ⟨g, ad, none⟩) p q (fun W => BadM B rb w { c with st := s, stack := c.stack.take k } W) w w1 w2 HK HO (HP.mono ?_)).mono ?_
        · rintro e W ⟨m', r1, r2, r3, r4⟩
          exact ⟨r4, hbw2.trans ((Bel.drew0 B w2).trans (hM3.kr r3 r1 r2 (RX.of hq.1)).2), gb2, r1.run⟩
        · rintro e W ⟨rfl, hW⟩
          exact Or.inr ⟨q, rfl, _, rfl, hW⟩
  | proc i =>
    clear oth
    have hi : i < m.pc.length := hvo
    have hi' : i < c.st.procs.length := by rw [← h.rel.lc]; exact hi
    obtain ⟨q, hq⟩ : ∃ q, c.st.procs[i]? = some q := ⟨_, List.getElem?_eq_getElem hi'⟩
    obtain ⟨f, hf⟩ : ∃ f, f = m.pc.getD i 0 := ⟨_, rfl⟩
    have hfi : m.pc[i]? = some f := by rw [hf, List.getD_eq_getElem?_getD, List.getElem?_eq_getElem hi]; rfl
    obtain ⟨fp, hfb, hfr⟩ := hM2.rel.pc i f q hq hfi
    obtain ⟨P, hP, hPc⟩ := hpg q (List.mem_of_getElem? hq)
    obtain ⟨hpB, hpv⟩ := hM2.pv
    obtain ⟨cv, pv1, pv2, pv3⟩ := hpv q.proto P hP
    have e2 : gb2.po + 2 * q.proto = gb2.po + q.proto * 2 := by omega
    rw [e2] at hfb
    have hgP : PP.getD q.proto pro0 = P := by simp [List.getD, hP]
    have HO' : Calls Tryz.prog 71 #[.pointer (some ⟨rb, 1, none⟩)] w1 fun e w' => e = .returned (.iface 169 (.pointer (some ⟨f, 0, none⟩))) ∧ w' = w2 := by rw [hf]; exact HO
    have k0 : w2.cell? ⟨f, 0, none⟩ = some (.pointer (some ⟨gb2.pb, gb2.po + q.proto * 2, none⟩)) := (cellO hfb).trans rfl
    unfold callV
    simp only [hq, hgP]
    by_cases hA : (a : Int) = P.args
    · rw [if_pos hA]
      have hbd : a + cnt c.st.rows q.env ≤ 50000000 := by omega
      obtain ⟨vs, hc1, hc2⟩ := hM2.ca
      by_cases hC : c.calls.length < 200
      · rw [if_pos hC]
        obtain ⟨⟨P0, b0, o0, cc0, hP0, hco, hb0, hcc0, hil⟩, hnx, fp0, har, hfr0⟩ := hM2.pl
        obtain ⟨P1, b1, o1, cc1, hP1, rfl, hb1, hcc1, hil1⟩ := pv3
        have hfrb : f ≠ rb := by
          rintro rfl
          rw [show w2.heap[f]? = _ from R2'] at hfb
          simp at hfb
        have hprb : gb2.pb ≠ rb := by have := h.rel.hB; omega
        have gfacts : ∀ W : World, Bel B w W → W.heap[f]? = some (.cells #[.pointer (some ⟨gb2.pb, gb2.po + q.proto * 2, none⟩), .pointer (some ⟨fp, 0, none⟩)] 172 (0, 0)) → W.cell? ⟨f, 0, none⟩ = some (.pointer (some ⟨gb2.pb, gb2.po + q.proto * 2, none⟩)) ∧ W.cell? ⟨gb2.pb, gb2.po + q.proto * 2 + 1, none⟩ = some (.slice (some ⟨b1, o1, none⟩) P1.code.length cc1) ∧ W.cell? ⟨f, 1, none⟩ = some (.pointer (some ⟨fp, 0, none⟩)) := fun W hbW hW => ⟨(cellO hW).trans rfl, (hbW.cell (p := ⟨gb2.pb, gb2.po + q.proto * 2 + 1, none⟩) hpB).trans ((hbw2.cell (p := ⟨gb2.pb, gb2.po + q.proto * 2 + 1, none⟩) hpB).symm.trans pv2), (cellO hW).trans rfl⟩
        obtain ⟨cM, hcM⟩ : ∃ cM : Mc, cM = { c with stack := c.stack.take k, calls := c.calls ++ [(c.p, c.next, c.env)] } := ⟨_, rfl⟩
        have hcMr : cM.st = c.st := by rw [hcM]
        refine (call_proc B rb a (cap - (k + 1)) (some ⟨g, ad, none⟩) f gb2.pb (gb2.po + q.proto * 2) c.calls.length fp P.args tv gb2 vs (some ⟨b0, o0, none⟩) (some ⟨b1, o1, none⟩) P0.code.length cc0 P1.code.length cc1 (c.next : Int) (some ⟨fp0, 0, none⟩)
          (fun W => ∃ gv, MR B rb T PP G { gb2 with calls := gv } m cM W ∧ Bel B w W ∧ W.heap[f]? = some (.cells #[.pointer (some ⟨gb2.pb, gb2.po + q.proto * 2, none⟩), .pointer (some ⟨fp, 0, none⟩)] 172 (0, 0)) ∧ Fr W m c.st.rows fp q.env ∧ W.heap[g]? = some (.cells cur 155 (0, 0)))
          (fun a' c' W => ∃ gv, MR B rb T PP G { gb2 with calls := gv } m cM W ∧ Bel B w W ∧ W.heap[f]? = some (.cells #[.pointer (some ⟨gb2.pb, gb2.po + q.proto * 2, none⟩), .pointer (some ⟨fp, 0, none⟩)] 172 (0, 0)) ∧ Fr W m c.st.rows fp q.env ∧ (a ≠ 0 → ∃ N c0, a' = some ⟨N, 0, none⟩ ∧ B ≤ N ∧ N ∉ m.rw ∧ N ≠ g ∧ G ≠ N ∧ W.heap[N]? = some (.cells (((c.stack.drop (k + 1)).map (vV m)).toArray ++ c0) 155 (0, 0))))
          (fun gf W => ∃ gv m2 s2 env2, MR B rb T PP G { gb2 with calls := gv } m2 { cM with st := s2 } W ∧ Bel B w W ∧ W.heap[f]? = some (.cells #[.pointer (some ⟨gb2.pb, gb2.po + q.proto * 2, none⟩), .pointer (some ⟨fp, 0, none⟩)] 172 (0, 0)) ∧ Fr W m2 s2.rows gf env2 ∧ ((c.stack.drop (k + 1) = [] ∧ s2 = c.st ∧ env2 = q.env) ∨ (∃ x t, c.stack.drop (k + 1) = x :: t ∧ s2 = { c.st with rows := c.st.rows ++ [x :: t] } ∧ env2 = c.st.rows.length :: q.env)))
          w w1 w2 HK HO' R2' hc1 hC hM2.hs hco hnx har k0 pv1 hA ?_ ?_ ?_ ?_ ?_ hfrb hprb ?_).mono ?_
        · intro g' cap' w4 hown hgrow hat
          obtain ⟨y1, y2, y3, y4⟩ := hM2.wait R2' hco hnx har hc1 hc2 hown hgrow
          refine ⟨_, by rw [hcM]; exact y1, hbw2.trans y2, y4 f _ 172 hfb (by decide) (by decide), hfr.on (fun k' cs hk' => y4 k' cs 114 hk' (by decide) (by decide)), y4 g _ 155 hg2 (by decide) (by decide)⟩
        · rintro W ⟨gv, y1, y2, y3, y4, y5⟩
          exact gfacts W y2 y3
        · rintro W ⟨gv, y1, y2, y3, y4, y5⟩
          by_cases ha0 : a = 0
          · subst ha0
            refine (clone_none g ad (cap - (k + 1)) W).mono ?_
            rintro e W' ⟨a', c', rfl, hbW⟩
            exact ⟨a', c', rfl, gv, y1.stay hbW, y2.trans (Bel.of hbW y1.hs), (hbW.block f (Array.getElem?_eq_some_iff.1 y3).1).trans y3, y4.stay hbW, fun z => absurd rfl z⟩
          · have hne : c.stack.drop (k + 1) ≠ [] := fun z => by rw [z] at hla; exact ha0 hla.symm
            have had' : ad = k + 1 := by simpa using hma hne
            rw [had']
            refine (clone_raw g (k + 1) a (cap - (k + 1)) ((c.stack.drop (k + 1)).map (vV m)) W (by rw [List.length_map]; exact hla) (by omega) (by omega) ?_ ?_).mono ?_
            · intro j u hj
              rw [List.getElem?_map] at hj
              cases hjj : (c.stack.drop (k + 1))[j]? with
              | none => rw [hjj] at hj; cases hj
              | some u' =>
                rw [hjj] at hj
                simp at hj
                subst hj
                rw [cellO y5]
                exact hcur2 j u' hjj
            · intro u hu
              obtain ⟨u', _, rfl⟩ := List.mem_map.1 hu
              rfl
            · rintro e W' ⟨N, cp, rfl, hN, hbW, c0, hNc⟩
              refine ⟨_, cp, rfl, gv, y1.stay hbW, y2.trans (Bel.of hbW y1.hs), (hbW.block f (Array.getElem?_eq_some_iff.1 y3).1).trans y3, y4.stay hbW, fun _ => ⟨N, c0, rfl, ?_, ?_, ?_, ?_, hNc⟩⟩
              · have := y1.hs; omega
              · intro hm
                obtain ⟨j, hj, ej⟩ := List.getElem_of_mem hm
                have hj' : j < cM.st.rows.length := by rw [← y1.rel.lr]; exact hj
                obtain ⟨_, c9, hx⟩ := y1.rel.rw j N _ (List.getElem?_eq_getElem hj') (by rw [List.getElem?_eq_getElem hj, ej])
                have := (Array.getElem?_eq_some_iff.1 hx).1
                omega
              · have := (Array.getElem?_eq_some_iff.1 y5).1
                omega
              · have := y1.gl.lt
                omega
        · rintro W a' c' ⟨gv, y1, y2, y3, y4, y5⟩
          exact gfacts W y2 y3
        · rintro W a' c' ⟨gv, y1, y2, y3, y4, y5⟩
          by_cases ha0 : a = 0
          · subst ha0
            have hnil : c.stack.drop (k + 1) = [] := List.length_eq_zero_iff.1 hla
            refine (With_none fp a' c' W).mono ?_
            rintro e W' ⟨rfl, rfl⟩
            refine ⟨fp, rfl, gv, m, c.st, q.env, ?_, y2, y3, y4, Or.inl ⟨hnil, rfl, rfl⟩⟩
            rw [← hcMr]
            exact y1
          · obtain ⟨N, c0, rfl, z1, z2, z3, z4, z5⟩ := y5 ha0
            refine (With_any m c.st.rows fp q.env N a c' W y4 hbd (Nat.pos_of_ne_zero ha0)).mono ?_
            rintro e W' ⟨gf, far, e', rfl, u1, u2, u3, u4, u5, u6⟩
            cases hdr : c.stack.drop (k + 1) with
            | nil => rw [hdr] at hla; exact absurd hla.symm ha0
            | cons x t =>
              rw [hdr] at z5 hokA hla
              have y1' := (y1.stay u4).with (a := x) (t := t) (c0 := c0) ((u4.block N (Array.getElem?_eq_some_iff.1 z5).1).trans z5) z2 z1 hokA (fun q' hq' => by rw [hstk q' hq']; exact fun e => z3 e.symm) z4
              have hlr : m.rw.length = c.st.rows.length := by rw [y1.rel.lr, hcMr]
              have xx : MmX m { m with rw := m.rw ++ [N] } := ⟨⟨[], by simp⟩, ⟨[], by simp⟩, ⟨_, rfl⟩⟩
              have rx : RX c.st { c.st with rows := c.st.rows ++ [x :: t] } := RX.more _ _
              have er : (c.st.rows ++ [x :: t]).getD c.st.rows.length [] = x :: t := by simp [List.getD]
              have em : (m.rw ++ [N]).getD c.st.rows.length 0 = N := by rw [← hlr]; simp [List.getD]
              have ec : cnt (c.st.rows ++ [x :: t]) (c.st.rows.length :: q.env) = a + cnt c.st.rows q.env := by
                show ((c.st.rows ++ [x :: t]).getD c.st.rows.length []).length + cnt (c.st.rows ++ [x :: t]) q.env = _
                rw [er, hla, cnt_rx rx q.env y4.len.2]
              refine ⟨gf, rfl, gv, { m with rw := m.rw ++ [N] }, { c.st with rows := c.st.rows ++ [x :: t] }, c.st.rows.length :: q.env, by rw [← hcMr]; exact y1', y2.trans (Bel.of u4 y1.hs), (u4.block f (Array.getElem?_eq_some_iff.1 y3).1).trans y3, ?_, Or.inr ⟨x, t, rfl, rfl, rfl⟩⟩
              refine Fr.step gf fp far c.st.rows.length c' q.env e' ⟨by simp, by show 0 < ((c.st.rows ++ [x :: t]).getD c.st.rows.length []).length; rw [er]; simp⟩ (by show c.st.rows.length < (m.rw ++ [N]).length; rw [List.length_append, hlr]; simp) ?_ ((u1.up xx).rx rx) ((u2.up xx).rx rx) u3
              show W'.heap[gf]? = some (.cells #[.slice (some ⟨(m.rw ++ [N]).getD c.st.rows.length 0, 0, none⟩) ((c.st.rows ++ [x :: t]).getD c.st.rows.length []).length c', .int .i64 ((cnt (c.st.rows ++ [x :: t]) (c.st.rows.length :: q.env) : Nat) : Int), _, _, _] 114 (0, 0))
              rw [em, er, ec, hla]
              exact u6
        · rintro W gf ⟨gv, m2, s2, env2, y1, y2, y3, y4, y5⟩
          obtain ⟨tv', hR'⟩ := y1.rn
          exact ⟨gfacts W y2 y3, _, tv', hR'⟩
        · rintro e w' ⟨rfl, gf, W, ⟨gv, m2, s2, env2, y1, y2, y3, y4, y5⟩, rfl⟩
          refine Or.inl ⟨rfl, { cM with st := s2, p := q.proto, next := 0, env := env2 }, ?_, ?_⟩
          · rcases y5 with ⟨z1, rfl, rfl⟩ | ⟨x, t, z1, rfl, rfl⟩
            · rw [z1, hcM]
            · rw [z1, hcM]
          · have hcoV : ∀ W' : World, Below B W W' → CoV B PP W' q.proto (.slice (some ⟨b1, o1, none⟩) P1.code.length cc1) := fun W' hW' => ⟨P1, b1, o1, cc1, hP1, rfl, hb1, hcc1, fun j x hx => by
                obtain ⟨qa, qc, hj⟩ := hil1 j x hx
                have hbx : Below B w2 W := by
                  have s1 : w2.heap.size ≤ W.heap.size := by
                    have e1 : w2.heap.size = w.heap.size := by rw [← hw2, ← hw1]; simp
                    rw [e1]
                    exact y2.toBelow.size
                  exact ⟨y2.toBelow.os.trans hbw2.toBelow.os.symm, y2.toBelow.tape.trans hbw2.toBelow.tape.symm, y2.toBelow.output.trans hbw2.toBelow.output.symm, s1, fun z hz => (y2.toBelow.block z hz).trans (hbw2.toBelow.block z hz).symm⟩
                exact ⟨qa, qc, (hj.below hb1 hbx).below hb1 hW'⟩⟩
            obtain ⟨v1, v2⟩ := y1.cell (gb' := { gb2 with calls := gv, code := .slice (some ⟨b1, o1, none⟩) P1.code.length cc1, next := .int .i64 0, around := .pointer (some ⟨gf, 0, none⟩) }) (d := { cM with st := s2, p := q.proto, next := 0, env := env2 }) ((((KM.refl rb none W).set _).set _).set _) (fun tv hR => ((hR.set2 _).set3 _).set4 _) ⟨rfl, rfl, rfl, rfl⟩ rfl rfl (fun o hb => ⟨hcoV _ o.below, rfl, gf, rfl, y4.on o.fr⟩) (fun hb => y1.st0 hb) y1.sg (fun o hb => y1.ca0 o hb) y1.lf
            exact ⟨y2.trans v2, _, _, v1⟩
      · rw [if_neg hC]
        obtain ⟨va, vc, hva, _⟩ := own_slice hc1
        refine (call_much rb a (cap - (k + 1)) (some ⟨g, ad, none⟩) f gb2.pb (gb2.po + q.proto * 2) c.calls.length va vc P.args w w1 w2 HK HO' k0 pv1 hA (((cellO R2').trans rfl).trans (congrArg some hva)) (by omega)).mono ?_
        rintro e w' ⟨rfl, rfl⟩
        exact Or.inr ⟨7, rfl, _, rfl, bad 7⟩
    · rw [if_neg hA]
      refine (call_args rb a (cap - (k + 1)) (some ⟨g, ad, none⟩) f gb2.pb (gb2.po + q.proto * 2) P.args w w1 w2 HK HO' k0 pv1 hA).mono ?_
      rintro e w' ⟨rfl, rfl⟩
      exact Or.inr ⟨5, rfl, _, rfl, bad 5⟩
end
section
set_option linter.unusedVariables false
set_option linter.unusedSimpArgs false
open Go.RowKit
open Go.Proofs.YthikdpclifeonaaGreatDoor

/-- What is told of a step. -/
def ToldStep (B rb T : Nat) (PP : List Pro) (G : Nat) (w : World) (r : Res Bool × Mc) (e : Ending) (w' : World) : Prop :=
  match r with
  | (.ok b, d) => e = .returned (.bool b) ∧ OkM B rb T PP G w d w'
  | (.bad q, d) => e = .panicked (endP q) ∧ BadM B rb w d w'
/-- The runner behind the count. -/
def gbC (gb : Rc) (c : Mc) : Rc := { gb with left := .int .i64 ((c.left : Int) - 1), next := .int .i64 ((c.next : Int) + 1) }
def cC (c : Mc) : Mc := { c with left := c.left - 1, next := c.next + 1 }
theorem MR.countC {B rb T : Nat} {PP : List Pro} {G : Nat} {gb : Rc} {m : Mm} {c : Mc} {w : World} (h : MR B rb T PP G gb m c w) (hl : c.left ≠ 0) (nq : Nat) : MR B rb T PP G (gbC gb c) m (cC c) (W1 rb (c.left : Int) c.next nq w) ∧ Bel B w (W1 rb (c.left : Int) c.next nq w) := by
  unfold W1
  exact h.cell (gb' := gbC gb c) (d := cC c) (w' := ((w.setCell ⟨rb, 8, none⟩ (.int .i64 ((c.left : Int) - 1))).drewN nq).setCell ⟨rb, 3, none⟩ (.int .i64 ((c.next : Int) + 1))) (((KM.refl rb none w).set _).drewN.set _) (fun tv hR => ((hR.set8 _).drewN.set3 _)) ⟨rfl, rfl, rfl, rfl⟩ rfl rfl (fun o hb => by
      obtain ⟨z1, z2, z3⟩ := h.pl.on o
      exact ⟨z1, by simp [gbC, cC], z3⟩) (fun hb => h.st0 hb) h.sg (fun o hb => h.ca0 o hb) (by simp [gbC, cC]; omega)
theorem MR.countD {B rb T : Nat} {PP : List Pro} {G : Nat} {gb : Rc} {m : Mm} {c : Mc} {w : World} (h : MR B rb T PP G gb m c w) (hl : c.left ≠ 0) (nq : Nat) : MR B rb T PP G (gbC gb c) m (cC c) (W1 rb (c.left : Int) c.next nq w).drew ∧ Bel B w (W1 rb (c.left : Int) c.next nq w).drew :=
  ⟨(h.countC hl nq).1.stay (Below.drew (Below.refl _ _)), (h.countC hl nq).2.trans (Bel.drew0 _ _)⟩
/-- What a step meets. -/
theorem MR.at0 {B rb T : Nat} {PP : List Pro} {G : Nat} {gb : Rc} {m : Mm} {c : Mc} {w : World} {P : Pro} {x : In} (h : MR B rb T PP G gb m c w) (hP : PP[c.p]? = some P) (hn : c.next < P.code.length) (h6 : P.code.length ≤ 6000) (hx : P.code[c.next]? = some x) (hl : c.left ≠ 0) (hl9 : c.left ≤ 1000000) :
    ∃ cb co cc qa qc, At0 rb cb co P.code.length cc (c.left : Int) c.next w ∧ IL B w cb (co + c.next * 11) x qa qc ∧ cb < B := by
  obtain ⟨tv, hR⟩ := h.rn
  obtain ⟨⟨P0, b0, o0, cc0, hP0, hco, hb0, hcc0, hil⟩, hnx, _⟩ := h.pl
  have : P0 = P := by
    have e : PP[c.p]? = some P0 := hP0
    rw [hP] at e
    exact (Option.some.inj e).symm
  subst this
  obtain ⟨qa, qc, hi⟩ := hil c.next x hx
  have := h.rel.hB
  refine ⟨b0, o0, cc0, qa, qc, ⟨((cellO hR).trans rfl).trans (congrArg some h.lf), ((cellO hR).trans rfl).trans (congrArg some hco), ((cellO hR).trans rfl).trans (congrArg some hnx), looseO hR, looseO hR, by omega, by omega, by omega, hn, h6⟩, hi, hb0⟩
/-- The top of the stack, in memory. -/
theorem MR.topc {B rb T : Nat} {PP : List Pro} {G : Nat} {gb : Rc} {m : Mm} {c : Mc} {w : World} (h : MR B rb T PP G gb m c w) (h1 : 1 ≤ c.stack.length) : ∃ g cap n, gb.stack = .slice (some ⟨g, 0, none⟩) (n + 1) cap ∧ c.stack.length = n + 1 ∧ n + 1 ≤ cap ∧ w.cell? ⟨g, n, none⟩ = some (.iface (vT c.top) (vX m c.top)) ∧ VOk m c.top ∧ g ∉ m.rw ∧ c.stack.take n = c.stack.dropLast := by
  obtain ⟨g, cap, hst, hcap, hcm, hBg, ⟨cur, hcur⟩, hcells⟩ := own_cell h.st.own (by omega)
  obtain ⟨n, hn⟩ : ∃ n, c.stack.length = n + 1 := ⟨c.stack.length - 1, by omega⟩
  have ht : c.stack[n]? = some c.top := by
    unfold Mc.top
    rw [List.getLast?_eq_getElem?, hn, Nat.add_sub_cancel]
    cases e : c.stack[n]? with
    | none => rw [List.getElem?_eq_none_iff] at e; omega
    | some v => rfl
  refine ⟨g, cap, n, by rw [← hn]; exact hst, hn, by omega, hcells n (vV m c.top) (by rw [List.getElem?_map, ht]; rfl), h.st.ok _ (List.mem_of_getElem? ht), h.st.nr g (by rw [hst]; rfl), ?_⟩
  rw [List.dropLast_eq_take, hn, Nat.add_sub_cancel]
/-- A pop, where the machine lies in memory. -/
theorem pop_mr {B rb T : Nat} {PP : List Pro} {G : Nat} {gb : Rc} {m : Mm} {c : Mc} {w : World} (h : MR B rb T PP G gb m c w) (h1 : 1 ≤ c.stack.length) (h9 : c.stack.length ≤ 1000000) : ∃ sv, Calls Tryz.prog 71 #[.pointer (some ⟨rb, 1, none⟩)] w fun e w' => e = .returned (.iface (vT c.top) (vX m c.top)) ∧ w' = w.setCell ⟨rb, 1, none⟩ sv ∧ MR B rb T PP G { gb with stack := sv } m c.pop w' ∧ Bel B w w' := by
  obtain ⟨tv, hR⟩ := h.rn
  obtain ⟨g, cap, n, e1, e2, e3, e4, e5, e6, e7⟩ := h.topc h1
  refine ⟨.slice (some ⟨g, 0, none⟩) n cap, (pop_raw rb g n cap (vT c.top) (vX m c.top) w (hR.at1.trans (congrArg some e1)) (looseO hR) e4 e3 (by omega)).mono ?_⟩
  rintro e w' ⟨rfl, rfl⟩
  obtain ⟨y1, y2⟩ := h.taken (g := g) (cap := cap) (n := n) (by rw [e2]; exact e1) (by omega)
  refine ⟨rfl, rfl, ?_, y2⟩
  unfold Mc.pop
  rw [← e7]
  exact y1
/-- What is on top, where the machine lies in memory. -/
theorem top_mr {B rb T : Nat} {PP : List Pro} {G : Nat} {gb : Rc} {m : Mm} {c : Mc} {w : World} (h : MR B rb T PP G gb m c w) (h1 : 1 ≤ c.stack.length) (h9 : c.stack.length ≤ 1000000) : Calls Tryz.prog 72 #[gb.stack] w fun e w' => e = .returned (.iface (vT c.top) (vX m c.top)) ∧ w' = w := by
  obtain ⟨g, cap, n, e1, e2, e3, e4, e5, e6, e7⟩ := h.topc h1
  rw [e1]
  exact top_raw g n cap (vT c.top) (vX m c.top) w e4 (by omega)
/-- A procedure is made. -/
theorem MR.proc {B rb T : Nat} {PP : List Pro} {G : Nat} {gb : Rc} {m : Mm} {c : Mc} {w : World} (h : MR B rb T PP G gb m c w) (a fp : Nat) (hf : Fr w m c.st.rows fp c.env) : MR B rb T PP G gb { m with pc := m.pc ++ [w.heap.size] } { c with st := { c.st with procs := c.st.procs ++ [⟨a, c.env⟩] } } (w.alloc (.cells #[.pointer (some ⟨gb.pb, gb.po + 2 * a, none⟩), .pointer (some ⟨fp, 0, none⟩)] 172)) ∧ Bel B w (w.alloc (.cells #[.pointer (some ⟨gb.pb, gb.po + 2 * a, none⟩), .pointer (some ⟨fp, 0, none⟩)] 172)) := by
  obtain ⟨r, n⟩ := h.rel.proc h.hs a fp c.env hf
  exact h.kr (KR.ofBelow ((Below.refl _ _).alloc (Nat.le_refl _) _)) r n (RX.of rfl)
theorem getD_top (l : List (Option Val)) (i : Nat) (hi : i < l.length) : l[i]? = some (l.getD i none) := by
  rw [List.getD_eq_getElem?_getD, List.getElem?_eq_getElem hi]; rfl
theorem GlM.cell {B : Nat} {m : Mm} {G : Nat} {gl : List (Option Val)} {w : World} (h : GlM B m G gl w) {a : Nat} (ha : a < gl.length) : w.cell? ⟨G, a, none⟩ = some (gV m (gl.getD a none)) := by
  rw [cellO h.blk]
  show (gl.map (gV m)).toArray[a]? = _
  rw [List.getElem?_toArray, List.getElem?_map, getD_top gl a ha]
  rfl
theorem smd_quote {d : Dat} (h : (wrong [d]).1 = 0) : SmD d := by
  unfold wrong wrongFrom at h
  by_cases z : (chk 40 d 0).1 = 0
  · exact smd_of 40 _ 0 z
  · rw [if_neg z] at h
    exact absurd h z
end
end Go.Proofs.YthikdpclifeonaaGreatDoor.V
