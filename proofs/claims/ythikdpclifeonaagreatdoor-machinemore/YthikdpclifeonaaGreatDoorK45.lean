/- Chapter 11: ONE INSTRUCTION: step 32 tells stepM. -/
import Derived.Test.YthikdpclifeonaaGreatDoorK44
namespace Go.Proofs.YthikdpclifeonaaGreatDoor.V
set_option linter.unusedVariables false
set_option linter.unusedSimpArgs false
open Go.RowKit
open Go.Proofs.YthikdpclifeonaaGreatDoor

theorem spots_in (rows : List (List Val)) : ∀ (e : List Nat) (i r s : Nat), (spotsF rows e)[i]? = some (r, s) → r < rows.length ∧ s < (rows.getD r []).length
  | [], i, r, s, h => by simp [spotsF] at h
  | r0 :: e, i, r, s, h => by
    have hm := List.mem_of_getElem? h
    unfold spotsF at hm
    rcases List.mem_append.1 hm with q | q
    · obtain ⟨q0, hq0, e0⟩ := List.mem_map.1 q
      simp at hq0
      cases e0
      refine ⟨?_, by simpa [List.getD] using hq0⟩
      by_cases z : r0 < rows.length
      · exact z
      · rw [List.getElem?_eq_none (by omega)] at hq0
        simp at hq0
    · obtain ⟨j, hj⟩ := List.getElem?_of_mem q
      exact spots_in rows e j r s hj
theorem CaV.last {B : Nat} {PP : List Pro} {w : World} {m : Mm} {rows : List (List Val)} {l : List (Nat × Nat × List Nat)} {pl : Nat × Nat × List Nat} {vs : List Value} (h : CaV B PP w m rows (l ++ [pl]) vs) : ∃ vs' v0 v1 v2, vs = vs' ++ [v0, v1, v2] ∧ CaV B PP w m rows l vs' ∧ PlV B PP w m rows pl v0 v1 v2 := by
  generalize hl : l ++ [pl] = l2 at h
  cases h with
  | nil => simp at hl
  | snoc l' vs' pl' v0 v1 v2 h hp =>
    obtain ⟨rfl, e⟩ := List.append_inj' hl rfl
    simp at e
    subst e
    exact ⟨vs', v0, v1, v2, rfl, h, hp⟩
set_option maxHeartbeats 1600000 in
theorem step_any {B rb T : Nat} {PP : List Pro} {G : Nat} {gb : Rc} {m : Mm} {c : Mc} {w : World} {ss : List Int} {gl : In → Int} {K : Kn} {HF : Nat → List Int} {ng : Nat} (im : Img PP ss gl K HF) (hgl : ∀ x, gl x = 0 → 0 ≤ x.a ∧ x.a < (ng : Int)) (wf : WF PP K HF ng c) (hM : MR B rb T PP G gb m c w) (hb1 : c.stack.length + c.left ≤ 1000000) (hb2 : c.calls.length ≤ 200) (hPP : PP.length ≤ 20000) (hng : ng ≤ 500) :
    Calls Tryz.prog 32 #[.pointer (some ⟨rb, 0, none⟩)] w (ToldStep B rb T PP G w (stepM PP c)) := by
  obtain ⟨tv, hR⟩ := hM.rn
  by_cases hl : c.left = 0
  · unfold stepM
    rw [if_pos hl]
    refine (step_out rb w (by rw [cellO hR]; show some gb.left = _; rw [hM.lf, hl]; rfl)).mono ?_
    rintro e w' ⟨rfl, rfl⟩
    exact ⟨rfl, Bel.refl _ _, gb, hM.rel.run⟩
  obtain ⟨_, P, ar, bd, hP, hnx, hx, hK, hr, hcnt, har, hmv⟩ := step_wf im wf hl
  have h6 : P.code.length ≤ 6000 := ((im.pro c.p P hP).1).2.1
  have hpl : c.p < PP.length := (List.getElem?_eq_some_iff.1 hP).1
  have hjmp : (nextM PP c).op = 9 ∨ (nextM PP c).op = 10 → ∃ a : Nat, (nextM PP c).a = (a : Int) := fun ho => by
    obtain ⟨_, bd', ar', _, _, _, _, p5⟩ := im.pro c.p P hP
    obtain ⟨k, _, _, _, s3, _⟩ := p5 _ _ hx
    obtain ⟨a, ha, _⟩ := s3 ho
    exact ⟨a, ha⟩
  obtain ⟨cb, co, cc, qa, qc, A0, hil, hcb⟩ := hM.at0 hP hnx h6 hx hl (by omega)
  unfold stepM
  rw [if_neg hl]
  generalize nextM PP c = x at *
  have hst : (cC c).stack = c.stack := rfl
  have hsl : c.stack.length ≤ 1000000 := by omega
  have fin : ∀ (W : World) (d : Mc) (w' : World), Bel B w W → (∃ gb', MR B rb T PP G gb' m d w' ∧ Bel B W w') → OkM B rb T PP G w d w' := fun W d w' h1 ⟨gb', h2, h3⟩ => ⟨h1.trans h3, gb', m, h2⟩
  have mono : ∀ (d : Mc) {e : Ending} {w' : World}, (e = .returned (.bool true) ∧ OkM B rb T PP G w d w') → ToldStep B rb T PP G w (.ok true, d) e w' := fun d _ _ h => h
  refine ins_cases2 (fun r => Calls Tryz.prog 32 #[.pointer (some ⟨rb, 0, none⟩)] w (ToldStep B rb T PP G w r)) PP x (cC c) (fun o => ?_) (fun o => ?_) (fun o => ?_) (fun o => ?_) (fun o => ?_) (fun o => ?_) (fun o => ?_) (fun o => ?_) (fun o => ?_) (fun o => ?_) (fun o => ?_) (fun o => ?_) (fun o => ?_) (fun o => ?_) (fun o => ?_) hr.op
  · refine (step_num rb cb co P.code.length cc c.left c.next x.n (fun w' => OkM B rb T PP G w ((cC c).push (.num x.n)) w') w A0 (by rw [hil.c0, o]) hil.c2 (fun nq => ?_)).mono (fun e w' h => h)
    obtain ⟨y1, y2⟩ := hM.countD hl nq
    refine (push_mr (v := .num x.n) y1 ?_ hsl).mono ?_
    · have := hr.num o
      show inR x.n = true
      unfold inR
      simp
      omega
    · rintro e w' ⟨rfl, h⟩
      exact ⟨rfl, fin _ _ _ y2 h⟩
  · refine (step_bool rb cb co P.code.length cc c.left c.next x.n (fun w' => OkM B rb T PP G w ((cC c).push (.tru (decide (x.n = 1)))) w') w A0 (by rw [hil.c0, o]) hil.c2 (fun nq => ?_)).mono (fun e w' h => h)
    obtain ⟨y1, y2⟩ := hM.countD hl nq
    rw [beq_dec]
    refine (push_mr (v := .tru (decide (x.n = 1))) y1 trivial hsl).mono ?_
    rintro e w' ⟨rfl, h⟩
    exact ⟨rfl, fin _ _ _ y2 h⟩
  · have hsm := smd_quote (hr.quo o)
    have hdm : ∀ W, Bel B w W → DatM B W cb (co + c.next * 11 + 5) x.quote := fun W hW => by
      obtain ⟨f, hdc⟩ := hil.lk
      have hd : DatM B w cb (co + c.next * 11 + 5) x.quote := ⟨hcb, qa, qc, hil.c5, hil.c6, hil.c7, hil.c10, fun k4 => DsV.of hdc hil.lq (by cases hsm with | mk _ _ _ _ hk => exact hk k4), hdc.len, hsm⟩
      exact hd.below hW.toBelow
    refine (step_quoteX rb cb co P.code.length cc c.left c.next (vT (quotedF x.quote c.st).1) (fun xv W => ∃ m', xv = vX m' (quotedF x.quote c.st).1 ∧ VOk m' (quotedF x.quote c.st).1 ∧ MR B rb T PP G (gbC gb c) m' { cC c with st := (quotedF x.quote c.st).2 } W ∧ Bel B w W) (fun w' => OkM B rb T PP G w { cC c with st := (quotedF x.quote c.st).2, stack := c.stack ++ [(quotedF x.quote c.st).1] } w') w A0 (by rw [hil.c0, o]) (fun nq => ?_) ?_).mono (fun e w' h => h)
    · obtain ⟨y1, y2⟩ := hM.countD hl nq
      refine (quoted_any B rb (gbC gb c) m c.st cb (co + c.next * 11 + 5) x.quote _ y1.rel y1.hs (hdm _ y2)).mono ?_
      rintro e W ⟨m', rfl, r1, r2, r3, r4⟩
      obtain ⟨z1, z2⟩ := y1.kr (KR.ofBelow r4) r1 r2 (RX.of (quoted_qt x.quote c.st).1)
      exact ⟨_, rfl, m', rfl, r3, z1, y2.trans z2⟩
    · rintro xv W ⟨m', rfl, r3, z1, z2⟩
      refine (push_mr z1 r3 hsl).mono ?_
      rintro e w' ⟨rfl, gb', h1, h2⟩
      exact ⟨rfl, z2.trans h2, gb', m', h1⟩
  · obtain ⟨a0, a1⟩ := hr.loc (Or.inl o)
    obtain ⟨i, hi⟩ : ∃ i : Nat, x.a = (i : Int) := ⟨x.a.toNat, by omega⟩
    have hic : i < cnt c.st.rows c.env := by omega
    obtain ⟨_, _, fp, hfp, hfr⟩ := hM.pl
    obtain ⟨⟨r, s⟩, hsp⟩ : ∃ rs, (spotsF c.st.rows c.env)[i]? = some rs := ⟨_, List.getElem?_eq_getElem (by rw [spots_len]; exact hic)⟩
    obtain ⟨hrl, hsl'⟩ := spots_in c.st.rows c.env i r s hsp
    have hr1 : r < c.st.rows.length := hrl
    obtain ⟨c0, hmr, hvs, hrow⟩ := hM.rel.rowAt hr1
    obtain ⟨v, hv⟩ : ∃ v, (c.st.rows.getD r [])[s]? = some v := ⟨_, List.getElem?_eq_getElem hsl'⟩
    have hlk : (lookF c.st.rows c.env x.a.toNat).getD .nil = v := by
      rw [hi, Int.toNat_natCast]
      unfold lookF
      rw [hsp]
      simp only
      rw [hv]
      rfl
    show Calls _ _ _ _ (ToldStep B rb T PP G w (.ok true, (cC c).push ((lookF c.st.rows c.env x.a.toNat).getD .nil)))
    rw [hlk]
    refine (step_local rb cb co P.code.length cc c.left c.next fp (m.rw.getD r 0) s (i : Int) (vT v) (vX m v) (fun W => MR B rb T PP G (gbC gb c) m (cC c) W ∧ Bel B w W) (fun w' => OkM B rb T PP G w ((cC c).push v) w') w A0 (by rw [hil.c0, o]) (by rw [hil.c1, hi]) (((cellO hR).trans rfl).trans (congrArg some hfp)) (fun nq => ?_) ?_).mono (fun e w' h => h)
    · obtain ⟨y1, y2⟩ := hM.countD hl nq
      obtain ⟨_, _, fp', hfp', hfr'⟩ := y1.pl
      have : fp' = fp := by
        have e : gb.around = _ := hfp'
        rw [hfp] at e
        simpa using e.symm
      subst this
      refine (At_any m c.st.rows fp' c.env i _ hfr' (by omega) hic).mono ?_
      rintro e W ⟨r', s', g1, rfl, g2⟩
      rw [hsp] at g1
      cases g1
      have y3 := y1.stay g2
      obtain ⟨c9, _, _, hrow'⟩ := y3.rel.rowAt hr1
      refine ⟨rfl, ?_, y3, y2.trans (Bel.of g2 y1.hs)⟩
      rw [cellO hrow']
      show ((List.map (vV m) (c.st.rows.getD r [])).toArray ++ c9)[s]? = some (vV m v)
      rw [Array.getElem?_append_left (by simpa using hsl'), List.getElem?_toArray, List.getElem?_map, hv]
      rfl
    · rintro W ⟨y1, y2⟩
      refine (push_mr y1 (hvs v (List.mem_of_getElem? hv)) hsl).mono ?_
      rintro e w' ⟨rfl, h⟩
      exact ⟨rfl, fin _ _ _ y2 h⟩
  · obtain ⟨a0, a1⟩ := hgl x (hr.glo (Or.inl o))
    obtain ⟨i, hi⟩ : ∃ i : Nat, x.a = (i : Int) := ⟨x.a.toNat, by omega⟩
    have hil2 : i < c.glob.length := by rw [wf.glob]; omega
    obtain ⟨gc, hgc⟩ := hM.gs
    show Calls _ _ _ _ (ToldStep B rb T PP G w (match c.glob.getD x.a.toNat none with | some v => (.ok true, (cC c).push v) | none => (.bad 3, cC c)))
    rw [hi, Int.toNat_natCast]
    have hcell : ∀ W, MR B rb T PP G (gbC gb c) m (cC c) W → W.cell? ⟨rb, 7, none⟩ = some (.slice (some ⟨G, 0, none⟩) c.glob.length gc) ∧ W.cell? ⟨G, i, none⟩ = some (gV m (c.glob.getD i none)) := fun W hW => by
      obtain ⟨tv', hR'⟩ := hW.rn
      exact ⟨((cellO hR').trans rfl).trans (congrArg some hgc), hW.gl.cell hil2⟩
    cases hgv : c.glob.getD i none with
    | some v =>
      rw [hgv] at hcell
      refine (step_glob rb cb co P.code.length cc c.left c.next G i (vT v) (vX m v) (fun W => MR B rb T PP G (gbC gb c) m (cC c) W ∧ Bel B w W) (fun w' => OkM B rb T PP G w ((cC c).push v) w') w A0 (by rw [hil.c0, o]) (by rw [hil.c1, hi]) (fun nq => ?_) ?_).mono (fun e w' h => h)
      · obtain ⟨y1, y2⟩ := hM.countD hl nq
        obtain ⟨k7, kG⟩ := hcell _ y1
        refine (defined_yes rb G i c.glob.length gc (vT v) (vX m v) _ k7 kG hil2 (by rw [wf.glob]; omega)).mono ?_
        rintro e W ⟨rfl, rfl⟩
        exact ⟨rfl, kG, y1, y2⟩
      · rintro W ⟨y1, y2⟩
        refine (push_mr y1 (hM.gl.ok v ?_) hsl).mono ?_
        · rw [← hgv]
          exact List.mem_of_getElem? (getD_top c.glob i hil2)
        · rintro e w' ⟨rfl, h⟩
          exact ⟨rfl, fin _ _ _ y2 h⟩
    | none =>
      rw [hgv] at hcell
      refine (step_glob_no rb cb co P.code.length cc c.left c.next i (fun w' => BadM B rb w (cC c) w') w A0 (by rw [hil.c0, o]) (by rw [hil.c1, hi]) (fun nq => ?_)).mono (fun e w' h => h)
      obtain ⟨y1, y2⟩ := hM.countD hl nq
      obtain ⟨k7, kG⟩ := hcell _ y1
      refine (defined_no rb G i c.glob.length gc _ k7 kG hil2 (by rw [wf.glob]; omega)).mono ?_
      rintro e W ⟨rfl, rfl⟩
      exact ⟨rfl, y2, _, y1.rel.run⟩
  · refine (step_prim rb cb co P.code.length cc c.left c.next x.own (fun w' => OkM B rb T PP G w ((cC c).push (.prim x.own)) w') w A0 (by rw [hil.c0, o]) hil.c4 (fun nq => ?_)).mono (fun e w' h => h)
    obtain ⟨y1, y2⟩ := hM.countD hl nq
    refine (push_mr (v := .prim x.own) y1 (hr.pri o) hsl).mono ?_
    rintro e w' ⟨rfl, h⟩
    exact ⟨rfl, fin _ _ _ y2 h⟩
  · obtain ⟨i, hi, _, hiP, _⟩ := hr.clo o
    obtain ⟨_, _, fp, hfp, hfr⟩ := hM.pl
    obtain ⟨pc, hpc⟩ := hM.pr
    show Calls _ _ _ _ (ToldStep B rb T PP G w (.ok true, { cC c with st := { c.st with procs := c.st.procs ++ [⟨x.a.toNat, c.env⟩] }, stack := c.stack ++ [.proc c.st.procs.length] }))
    rw [hi, Int.toNat_natCast]
    refine (step_clos rb cb co P.code.length cc c.left c.next fp gb.pb gb.po PP.length pc i (fun w' => OkM B rb T PP G w { cC c with st := { c.st with procs := c.st.procs ++ [⟨i, c.env⟩] }, stack := c.stack ++ [.proc c.st.procs.length] } w') w A0 (by rw [hil.c0, o]) (by rw [hil.c1, hi]) (((cellO hR).trans rfl).trans (congrArg some hfp)) (((cellO hR).trans rfl).trans (congrArg some hpc)) hiP (by omega) (fun nq => ?_)).mono (fun e w' h => h)
    obtain ⟨y1, y2⟩ := hM.countC hl nq
    obtain ⟨_, _, fp', hfp', hfr'⟩ := y1.pl
    have : fp' = fp := by
      have e : gb.around = _ := hfp'
      rw [hfp] at e
      simpa using e.symm
    subst this
    have hsz : (W1 rb (c.left : Int) c.next nq w).heap.size = w.heap.size := by unfold W1; simp
    obtain ⟨z1, z2⟩ := y1.proc i fp' hfr'
    have e2 : (gbC gb c).po + 2 * i = gb.po + i * 2 := by show gb.po + 2 * i = _; omega
    rw [e2] at z1 z2
    rw [hsz] at z1
    have z3 := z1.stay (Below.drew (Below.refl _ _))
    have hlc := hM.rel.lc
    have hvx : vX { m with pc := m.pc ++ [w.heap.size] } (.proc c.st.procs.length) = .pointer (some ⟨w.heap.size, 0, none⟩) := by
      show Value.pointer (some ⟨(m.pc ++ [w.heap.size]).getD c.st.procs.length 0, 0, none⟩) = _
      rw [← hlc]
      simp [List.getD]
    have HP := push_mr (v := .proc c.st.procs.length) z3 (by show c.st.procs.length < (m.pc ++ [w.heap.size]).length; rw [List.length_append, hlc]; simp) hsl
    rw [hvx] at HP
    refine HP.mono ?_
    rintro e w' ⟨rfl, gb', h1, h2⟩
    exact ⟨rfl, (y2.trans z2).trans ((Bel.drew0 _ _).trans h2), gb', _, h1⟩
  · obtain ⟨a0, a1⟩ := hr.cal o
    obtain ⟨i, hi⟩ : ∃ i : Nat, x.a = (i : Int) := ⟨x.a.toNat, by omega⟩
    rw [hi, Int.toNat_natCast]
    have hm8 : (movesI x).1 = x.a + 1 := by
      unfold movesI
      rw [if_neg (by omega), if_pos o]
    have hpg : ∀ q ∈ c.st.procs, ∃ P, PP[q.proto]? = some P ∧ ((cnt c.st.rows q.env : Nat) : Int) + P.args ≤ 50000000 := fun q hq => by
      obtain ⟨P', ar', p1, p2, p3, p4, p5⟩ := wf.procs q hq
      have : q.proto < PP.length := (List.getElem?_eq_some_iff.1 p1).1
      exact ⟨P', p1, by omega⟩
    refine (step_call rb cb co P.code.length cc c.left c.next (i : Int) (fun w' => ∃ d, callM PP i (cC c) = (.ok true, d) ∧ OkM B rb T PP G w d w') (fun q w' => ∃ d, callM PP i (cC c) = (.bad q, d) ∧ BadM B rb w d w') w A0 (by rw [hil.c0, o]) (by rw [hil.c1, hi]) (fun nq => ?_)).mono ?_
    · obtain ⟨y1, y2⟩ := hM.countC hl nq
      refine (call_any (a := i) y1 (by show i + 1 ≤ c.stack.length; omega) (by omega) hsl hpg).mono ?_
      rintro e w' (⟨rfl, d, hd, g1, g2⟩ | ⟨q, rfl, d, hd, g1, g2⟩)
      · exact Or.inl ⟨rfl, d, hd, y2.trans g1, g2⟩
      · exact Or.inr ⟨q, rfl, d, hd, y2.trans g1, g2⟩
    · rintro e w' (⟨rfl, d, hd, g1⟩ | ⟨q, rfl, d, hd, g1⟩)
      · rw [hd]
        exact ⟨rfl, g1⟩
      · rw [hd]
        exact ⟨rfl, g1⟩
  · obtain ⟨i, hi⟩ := hjmp (Or.inl o)
    rw [hi, Int.toNat_natCast]
    refine (step_jump rb cb co P.code.length cc c.left c.next (i : Int) w A0 (by rw [hil.c0, o]) (by rw [hil.c1, hi])).mono ?_
    rintro e w' ⟨rfl, nq, rfl⟩
    obtain ⟨y1, y2⟩ := hM.countC hl nq
    exact ⟨rfl, fin _ _ _ y2 (y1.jump i)⟩
  · obtain ⟨i, hi⟩ := hjmp (Or.inr o)
    have hm10 : (movesI x).1 = 1 := by
      unfold movesI
      rw [if_neg (by omega), if_neg (by omega), if_pos (Or.inl o)]
    have hs1 : 1 ≤ c.stack.length := by omega
    rw [hi, Int.toNat_natCast]
    have hpop : ∀ nq, ∃ sv, Calls Tryz.prog 71 #[.pointer (some ⟨rb, 1, none⟩)] (W1 rb (c.left : Int) c.next nq w) fun e w' => e = .returned (.iface (vT c.top) (vX m c.top)) ∧ w' = (W1 rb (c.left : Int) c.next nq w).setCell ⟨rb, 1, none⟩ sv ∧ MR B rb T PP G { gbC gb c with stack := sv } m (cC c).pop w' ∧ Bel B (W1 rb (c.left : Int) c.next nq w) w' := fun nq => pop_mr (hM.countC hl nq).1 hs1 hsl
    have hfact : ∀ nq, Calls Tryz.prog 71 #[.pointer (some ⟨rb, 1, none⟩)] (W1 rb (c.left : Int) c.next nq w) fun e w' => e = .returned (.iface (vT c.top) (vX m c.top)) ∧ w'.cell? ⟨cb, co + c.next * 11 + 1, none⟩ = some (.int .i64 (i : Int)) ∧ w'.cell? ⟨rb, 3, none⟩ = some (.int .i64 ((c.next : Int) + 1)) ∧ w'.frozen? ⟨rb, 3, none⟩ = false ∧ (binOp .eql 155 (.iface (vT c.top) (vX m c.top)) (.iface 163 (.bool false))).run Tryz.prog w' = .ok (.bool (decide (c.top = .tru false))) w' ∧ ∃ gb', MR B rb T PP G gb' m (cC c).pop w' ∧ Bel B w w' := fun nq => by
      obtain ⟨y1, y2⟩ := hM.countC hl nq
      obtain ⟨sv, hc⟩ := hpop nq
      refine hc.mono ?_
      rintro e w' ⟨rfl, _, h3, h4⟩
      obtain ⟨tv', hR'⟩ := h3.rn
      obtain ⟨_, _, _, _, _, _, _, hok, _⟩ := hM.topc hs1
      refine ⟨rfl, ?_, (cellO hR').trans rfl, looseO hR', ?_, _, h3, y2.trans h4⟩
      · rw [(y2.trans h4).cell (p := ⟨cb, co + c.next * 11 + 1, none⟩) hcb, hil.c1, hi]
      · exact eql_any h3.rel c.top (.tru false) hok trivial
    show Calls _ _ _ _ (ToldStep B rb T PP G w (.ok true, if c.top = .tru false then { (cC c).pop with next := i } else (cC c).pop))
    by_cases ht : c.top = .tru false
    · rw [if_pos ht]
      refine (step_unless_true rb cb co P.code.length cc c.left c.next (i : Int) (vT c.top) (vX m c.top) (fun w' => ∃ gb', MR B rb T PP G gb' m (cC c).pop w' ∧ Bel B w w') w A0 (by rw [hil.c0, o]) (by rw [hil.c1, hi]) (fun nq => (hfact nq).mono (fun e w' ⟨z1, z2, z3, z4, z5, z6⟩ => ⟨z1, z2, z3, z4, by rw [z5]; simp [ht], z6⟩))).mono ?_
      rintro e w' ⟨rfl, w2, ⟨gb', z1, z2⟩, rfl⟩
      exact ⟨rfl, fin _ _ _ z2 (z1.jump i)⟩
    · rw [if_neg ht]
      refine (step_unless_false rb cb co P.code.length cc c.left c.next (i : Int) (vT c.top) (vX m c.top) (fun w' => ∃ gb', MR B rb T PP G gb' m (cC c).pop w' ∧ Bel B w w') w A0 (by rw [hil.c0, o]) (by rw [hil.c1, hi]) (fun nq => (hfact nq).mono (fun e w' ⟨z1, z2, z3, z4, z5, z6⟩ => ⟨z1, z2, z3, z4, by rw [z5]; simp [ht], z6⟩))).mono ?_
      rintro e w' ⟨rfl, w2, ⟨gb', z1, z2⟩, rfl⟩
      exact ⟨rfl, z2, gb', m, z1⟩
  · obtain ⟨a0, a1⟩ := hr.loc (Or.inr o)
    have hm11 : (movesI x).1 = 1 := by
      unfold movesI
      rw [if_neg (by omega), if_neg (by omega), if_neg (by omega), if_pos (Or.inl o)]
    have hs1 : 1 ≤ c.stack.length := by omega
    obtain ⟨i, hi⟩ : ∃ i : Nat, x.a = (i : Int) := ⟨x.a.toNat, by omega⟩
    have hic : i < cnt c.st.rows c.env := by omega
    obtain ⟨_, _, fp, hfp, hfr⟩ := hM.pl
    obtain ⟨⟨r, s⟩, hsp⟩ : ∃ rs, (spotsF c.st.rows c.env)[i]? = some rs := ⟨_, List.getElem?_eq_getElem (by rw [spots_len]; exact hic)⟩
    obtain ⟨hrl, hsl'⟩ := spots_in c.st.rows c.env i r s hsp
    obtain ⟨v, hv⟩ : ∃ v, (c.st.rows.getD r [])[s]? = some v := ⟨_, List.getElem?_eq_getElem hsl'⟩
    show Calls _ _ _ _ (ToldStep B rb T PP G w (match (spotsF c.st.rows c.env)[x.a.toNat]? with | some (r, q) => (.ok true, { cC c with st := { c.st with rows := c.st.rows.set r ((c.st.rows.getD r []).set q c.top) } }) | none => (.ok true, cC c)))
    rw [hi, Int.toNat_natCast, hsp]
    obtain ⟨_, _, _, _, _, _, _, hok, _⟩ := hM.topc hs1
    refine (step_setl rb cb co P.code.length cc c.left c.next fp (m.rw.getD r 0) s (i : Int) (vT c.top) (vX m c.top) gb.stack (vV m v) (fun nq W => MR B rb T PP G (gbC gb c) m (cC c) W ∧ Bel B w W) w A0 (by rw [hil.c0, o]) (by rw [hil.c1, hi]) (((cellO hR).trans rfl).trans (congrArg some hfp)) ((cellO hR).trans rfl) ?_ (fun nq => hM.countD hl nq) ?_ ?_).mono ?_
    · rintro nq W ⟨y1, y2⟩
      obtain ⟨tv', hR'⟩ := y1.rn
      obtain ⟨c9, _, _, hrow'⟩ := y1.rel.rowAt (r := r) hrl
      refine ⟨(cellO hR').trans rfl, ((cellO hR').trans rfl).trans (congrArg some hfp), ?_, ?_, looseO hrow'⟩
      · rw [y2.cell (p := ⟨cb, co + c.next * 11 + 1, none⟩) hcb, hil.c1, hi]
      · rw [cellO hrow']
        show ((List.map (vV m) (c.st.rows.getD r [])).toArray ++ c9)[s]? = some (vV m v)
        rw [Array.getElem?_append_left (by simpa using hsl'), List.getElem?_toArray, List.getElem?_map, hv]
        rfl
    · rintro nq W ⟨y1, y2⟩
      obtain ⟨_, _, fp', hfp', hfr'⟩ := y1.pl
      have : fp' = fp := by
        have e : gb.around = _ := hfp'
        rw [hfp] at e
        simpa using e.symm
      subst this
      refine (At_any m c.st.rows fp' c.env i _ hfr' (by omega) hic).mono ?_
      rintro e W' ⟨r', s', g1, rfl, g2⟩
      rw [hsp] at g1
      cases g1
      exact ⟨rfl, y1.stay g2, y2.trans (Bel.of g2 y1.hs)⟩
    · rintro nq W ⟨y1, y2⟩
      refine (top_mr y1 hs1 hsl).mono ?_
      rintro e w' ⟨rfl, rfl⟩
      exact ⟨rfl, y1, y2⟩
    · rintro e w' ⟨rfl, nq, W, ⟨y1, y2⟩, rfl⟩
      obtain ⟨z1, z2⟩ := y1.rel.setRow y1.hs hrl hsl' (v := c.top) hok
      obtain ⟨u1, u2⟩ := y1.kr z2 z1 (New.refl m W) (RX.set _ _ _ _)
      exact ⟨rfl, y2.trans u2, _, _, u1⟩
  · obtain ⟨a0, a1⟩ := hgl x (hr.glo (Or.inr (Or.inl o)))
    have hm12 : (movesI x).1 = 1 := by
      unfold movesI
      rw [if_neg (by omega), if_neg (by omega), if_neg (by omega), if_pos (Or.inr (Or.inl o))]
    have hs1 : 1 ≤ c.stack.length := by omega
    have htop : ∀ nq, Calls Tryz.prog 72 #[gb.stack] (W1 rb (c.left : Int) c.next nq w).drew fun e w' => e = .returned (.iface (vT c.top) (vX m c.top)) ∧ w' = (W1 rb (c.left : Int) c.next nq w).drew := fun nq => by
      have := top_mr (gb := gbC gb c) (c := cC c) (hM.countD hl nq).1 hs1 hsl
      exact this
    obtain ⟨i, hi⟩ : ∃ i : Nat, x.a = (i : Int) := ⟨x.a.toNat, by omega⟩
    have hil2 : i < c.glob.length := by rw [wf.glob]; omega
    obtain ⟨gc, hgc⟩ := hM.gs
    obtain ⟨_, _, _, _, _, _, _, hok, _⟩ := hM.topc hs1
    show Calls _ _ _ _ (ToldStep B rb T PP G w (match c.glob.getD x.a.toNat none with | some _ => (.ok true, { cC c with glob := c.glob.set x.a.toNat (some c.top) }) | none => (.bad 3, cC c)))
    rw [hi, Int.toNat_natCast]
    have hcell : ∀ W, MR B rb T PP G (gbC gb c) m (cC c) W → W.cell? ⟨rb, 7, none⟩ = some (.slice (some ⟨G, 0, none⟩) c.glob.length gc) ∧ W.cell? ⟨G, i, none⟩ = some (gV m (c.glob.getD i none)) := fun W hW => by
      obtain ⟨tv', hR'⟩ := hW.rn
      exact ⟨((cellO hR').trans rfl).trans (congrArg some hgc), hW.gl.cell hil2⟩
    have hGr : rb ≠ G := by
      rintro rfl
      have := hM.gl.blk
      rw [show w.heap[rb]? = _ from hR] at this
      simp at this
    cases hgv : c.glob.getD i none with
    | some v =>
      rw [hgv] at hcell
      refine (step_setg rb cb co P.code.length cc c.left c.next G i (vT c.top) (vX m c.top) gb.stack (vV m v) w A0 (by rw [hil.c0, o]) (by rw [hil.c1, hi]) ((cellO hR).trans rfl) (by rw [hM.gl.cell hil2, hgv]; rfl) (looseO hM.gl.blk) hGr (fun nq => ?_) htop).mono ?_
      · obtain ⟨y1, y2⟩ := hM.countD hl nq
        obtain ⟨k7, kG⟩ := hcell _ y1
        exact defined_yes rb G i c.glob.length gc (vT v) (vX m v) _ k7 kG hil2 (by rw [wf.glob]; omega)
      · rintro e w' ⟨rfl, nq, rfl⟩
        obtain ⟨y1, y2⟩ := hM.countD hl nq
        obtain ⟨z1, z2⟩ := y1.glob (a := i) (v := c.top) hil2 hok
        exact ⟨rfl, y2.trans z2, _, _, z1⟩
    | none =>
      rw [hgv] at hcell
      refine (step_setg_no rb cb co P.code.length cc c.left c.next i (vT c.top) (vX m c.top) gb.stack w A0 (by rw [hil.c0, o]) (by rw [hil.c1, hi]) ((cellO hR).trans rfl) (fun nq => ?_) htop).mono ?_
      · obtain ⟨y1, y2⟩ := hM.countD hl nq
        obtain ⟨k7, kG⟩ := hcell _ y1
        exact defined_no rb G i c.glob.length gc _ k7 kG hil2 (by rw [wf.glob]; omega)
      · rintro e w' ⟨rfl, nq, rfl⟩
        obtain ⟨y1, y2⟩ := hM.countD hl nq
        exact ⟨rfl, y2, _, y1.rel.run⟩
  · obtain ⟨a0, a1⟩ := hgl x (hr.glo (Or.inr (Or.inr o)))
    have hm13 : (movesI x).1 = 1 := by
      unfold movesI
      rw [if_neg (by omega), if_neg (by omega), if_neg (by omega), if_pos (Or.inr (Or.inr o))]
    have hs1 : 1 ≤ c.stack.length := by omega
    have htop : ∀ nq, Calls Tryz.prog 72 #[gb.stack] (W1 rb (c.left : Int) c.next nq w).drew fun e w' => e = .returned (.iface (vT c.top) (vX m c.top)) ∧ w' = (W1 rb (c.left : Int) c.next nq w).drew := fun nq => by
      have := top_mr (gb := gbC gb c) (c := cC c) (hM.countD hl nq).1 hs1 hsl
      exact this
    obtain ⟨i, hi⟩ : ∃ i : Nat, x.a = (i : Int) := ⟨x.a.toNat, by omega⟩
    have hil2 : i < c.glob.length := by rw [wf.glob]; omega
    obtain ⟨gc, hgc⟩ := hM.gs
    obtain ⟨_, _, _, _, _, _, _, hok, _⟩ := hM.topc hs1
    have hGr : rb ≠ G := by
      rintro rfl
      have := hM.gl.blk
      rw [show w.heap[rb]? = _ from hR] at this
      simp at this
    show Calls _ _ _ _ (ToldStep B rb T PP G w (.ok true, { cC c with glob := c.glob.set x.a.toNat (some c.top) }))
    rw [hi, Int.toNat_natCast]
    refine (step_def rb cb co P.code.length cc c.left c.next G i c.glob.length gc (vT c.top) (vX m c.top) gb.stack (gV m (c.glob.getD i none)) w A0 (by rw [hil.c0, o]) (by rw [hil.c1, hi]) (((cellO hR).trans rfl).trans (congrArg some hgc)) ((cellO hR).trans rfl) hil2 (by rw [wf.glob]; omega) (hM.gl.cell hil2) (looseO hM.gl.blk) hGr htop).mono ?_
    rintro e w' ⟨rfl, nq, rfl⟩
    obtain ⟨y1, y2⟩ := hM.countD hl nq
    obtain ⟨z1, z2⟩ := y1.glob (a := i) (v := c.top) hil2 hok
    exact ⟨rfl, y2.trans z2, _, _, z1⟩
  · have hm14 : (movesI x).1 = 1 := by
      unfold movesI
      rw [if_neg (by omega), if_neg (by omega), if_pos (Or.inr o)]
    have hs1 : 1 ≤ c.stack.length := by omega
    refine (step_pop rb cb co P.code.length cc c.left c.next (vT c.top) (vX m c.top) (fun w' => OkM B rb T PP G w (cC c).pop w') w A0 (by rw [hil.c0, o]) (fun nq => ?_)).mono (fun e w' h => h)
    obtain ⟨y1, y2⟩ := hM.countC hl nq
    obtain ⟨sv, hc⟩ := pop_mr y1 hs1 hsl
    refine hc.mono ?_
    rintro e w' ⟨rfl, _, h3, h4⟩
    exact ⟨rfl, y2.trans h4, _, _, h3⟩
  · rcases List.eq_nil_or_concat c.calls with hcl | ⟨l, ⟨p', n', e'⟩, hcl⟩
    · have hle : leaveM (cC c) = (.ok false, cC c) := leave_nil hcl
      rw [hle]
      refine (step_ret rb cb co P.code.length cc c.left c.next false (fun w' => OkM B rb T PP G w (cC c) w') w A0 (by rw [hil.c0, o]) (fun nq => ?_)).mono (fun e w' h => h)
      obtain ⟨y1, y2⟩ := hM.countC hl nq
      obtain ⟨tv', hR'⟩ := y1.rn
      obtain ⟨vs, hc1, hc2⟩ := y1.ca
      obtain ⟨va, vc, hva, _⟩ := own_slice hc1
      rw [show (cC c).calls = [] from hcl] at hva
      refine (leave_none rb vc va _ (((cellO hR').trans rfl).trans (congrArg some hva))).mono ?_
      rintro e w' ⟨rfl, rfl⟩
      exact ⟨rfl, y2, _, _, y1⟩
    · rw [List.concat_eq_append] at hcl
      have hle : leaveM (cC c) = (.ok true, { cC c with p := p', next := n', env := e', calls := l }) := leave_snoc (d := cC c) hcl
      rw [hle]
      refine (step_ret rb cb co P.code.length cc c.left c.next true (fun w' => OkM B rb T PP G w { cC c with p := p', next := n', env := e', calls := l } w') w A0 (by rw [hil.c0, o]) (fun nq => ?_)).mono (fun e w' h => h)
      obtain ⟨y1, y2⟩ := hM.countC hl nq
      obtain ⟨tv', hR'⟩ := y1.rn
      generalize W1 rb (c.left : Int) c.next nq w = W at *
      obtain ⟨vs, hc1, hc2⟩ := y1.ca
      have hcl' : (cC c).calls = l ++ [(p', n', e')] := hcl
      rw [hcl'] at hc1 hc2
      obtain ⟨vs', v0, v1, v2, rfl, hca, hpl'⟩ := hc2.last
      have hll : c.calls.length = l.length + 1 := by rw [hcl]; simp
      have hvl := hca.len
      rw [List.length_append, List.length_singleton] at hc1
      have hc1' := hc1
      rcases hc1.2 with ⟨hn1, hn2⟩ | ⟨C, cap, cur, hcv, hBC, hC, hC2, hC3, hC4, hC5⟩
      · omega
      · have hrbC : C ≠ rb := own_rb hc1 hR' (by decide) C (by rw [hcv]; rfl)
        have hcu : ∀ (j : Nat) (u : Value), [v0, v1, v2][j]? = some u → cur[l.length * 3 + j]? = some u := fun j u hj => by
          have h3 : j < 3 := by
            have := (List.getElem?_eq_some_iff.1 hj).1
            simpa using this
          have e1 : (cur.toList.take ((l.length + 1) * 3))[l.length * 3 + j]? = some u := by
            rw [hC5, List.getElem?_append_right (by omega), hvl, Nat.add_sub_cancel_left]
            exact hj
          rw [List.getElem?_take, if_pos (by omega)] at e1
          simpa using e1
        have hpl2 := hpl'
        obtain ⟨⟨P9, b9, o9, cc9, hP9, rfl, hb9, hcc9, hil9⟩, rfl, fp9, rfl, hfr9⟩ := hpl'
        refine (leave_some rb C l.length cap .nilIface .nilIface (gbC gb c).code (gbC gb c).next (gbC gb c).around (n' : Int) (some ⟨b9, o9, none⟩) P9.code.length cc9 (some ⟨fp9, 0, none⟩) W (((cellO hR').trans rfl).trans (congrArg some hcv)) hrbC hC2 (by omega) (fun q => looseO hR') (by rw [cellO hC]; exact hcu 0 _ rfl) (by rw [cellO hC]; exact hcu 1 _ rfl) (by rw [cellO hC]; exact hcu 2 _ rfl) ((cellO hR').trans rfl) ((cellO hR').trans rfl) ((cellO hR').trans rfl)).mono ?_
        rintro e w' ⟨rfl, rfl⟩
        rw [hcv] at hc1'
        have hca2 : ∀ W' : World, On B m m c.st c.st W W' → (∀ k, k < W.heap.size → k ≠ rb → W'.heap[k]? = W.heap[k]?) → CaM B PP m c.st.rows (.slice (some ⟨C, 0, none⟩) l.length cap) l W' := fun W' oo hb => by
          refine ⟨vs', ?_, hca.on oo⟩
          have h1 := own_less (n := l.length) (k := 1) hc1'
          rw [← hvl, List.take_left' rfl] at h1
          exact own_keep h1 (fun g hg => hb g (own_type h1 g hg).2.1 (by
            simp [Value.ownBlock] at hg
            rw [← hg]
            exact hrbC))
        obtain ⟨z1, z2⟩ := y1.cell (gb' := { gbC gb c with code := .slice (some ⟨b9, o9, none⟩) P9.code.length cc9, next := .int .i64 (n' : Int), around := .pointer (some ⟨fp9, 0, none⟩), calls := .slice (some ⟨C, 0, none⟩) l.length cap }) (d := { cC c with p := p', next := n', env := e', calls := l }) (w' := (((W.setCell ⟨rb, 2, none⟩ (.slice (some ⟨b9, o9, none⟩) P9.code.length cc9)).setCell ⟨rb, 3, none⟩ (.int .i64 (n' : Int))).setCell ⟨rb, 4, none⟩ (.pointer (some ⟨fp9, 0, none⟩))).setCell ⟨rb, 5, none⟩ (.slice (some ⟨C, 0, none⟩) l.length cap)) (((((KM.refl rb none W).set _).set _).set _).set _) (fun tv hR => (((hR.set2 _).set3 _).set4 _).set5 _) ⟨rfl, rfl, rfl, rfl⟩ rfl rfl (fun oo hb => hpl2.on oo) (fun hb => y1.st0 hb) y1.sg (fun oo hb => hca2 _ oo hb) y1.lf
        exact ⟨rfl, y2.trans z2, _, _, z1⟩
end Go.Proofs.YthikdpclifeonaaGreatDoor.V
