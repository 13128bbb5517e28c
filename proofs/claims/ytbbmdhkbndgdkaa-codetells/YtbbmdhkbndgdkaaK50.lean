/- The document's code of a procedure. -/
import Derived.Test.YtbbmdhkbndgdkaaK49
namespace Go.Proofs.Ytbbmdhkbndgdkaa
set_option linter.unusedVariables false
set_option linter.unusedSimpArgs false
open Go.RowKit

theorem genC_lam (i nn : Int) (lb ow : ByteArray) (q : Dat) (x : Cor) (pr : Nat) : genC ⟨8, i, nn, lb, ow, q, [x]⟩ 0 pr = ([insA 7 pr], ⟨i, (genC x 0 (pr + 1)).1 ++ [insO 15]⟩ :: (genC x 0 (pr + 1)).2) := by
  rw [genC]; simp only [if_true]

set_option maxRecDepth 100000 in
set_option maxHeartbeats 12800000 in
theorem Code_8 (B0 B f : Nat) (hB : B0 ≤ B) (hC : CodeW B0 B f) (X : Nat → Prop) (G : Nat) (pv av : Value) (ps : List PE) (i nn : Int) (lb ow : ByteArray) (q : Dat) (x : Cor) (qa ka : Option Addr) (qc kc : Nat) (w : World) (hk : Cc B0 w (f + 1) ka [x]) (hkc : 1 ≤ kc)
    (okx : okC x) (smx : smC x) (stx : stC x) (hsz : sizC x + 1 ≤ 10000000) (hlm : ps.length + 1 + lamC x ≤ 10000000) (hln : lonC x ≤ 10000000) (h : GS B X G pv av ps w) :
    Calls Try.prog 20 #[.pointer (some ⟨G, 0, none⟩), .agg (cva ⟨8, i, nn, lb, ow, q, [x]⟩ qa qc ka kc)] w (ToldG B X G pv av ps (genC ⟨8, i, nn, lb, ow, q, [x]⟩ 0 ps.length) w) := by
  rw [genC_lam]
  obtain ⟨g', b, o, hg, rfl, hall⟩ := hk.at (by simp)
  obtain rfl : g' = f := by omega
  obtain ⟨hbB, qa2, qc2, ka2, kc2, nc, ok, hq2, hk2⟩ := hall 0 x rfl
  rw [show o + 0 * 12 = o by omega] at nc
  have hbw : b < w.heap.size := Nat.lt_of_lt_of_le (Nat.lt_of_lt_of_le hbB hB) h.ble
  have HG := hidd h
  have hsb := codeB_size w #[.int .i64 8, .int .i64 i, .int .i64 nn, .string lb, .string ow, .int .i64 q.kind, .int .i64 q.n, .string q.name, .int .i64 q.stamp, .int .i64 q.lib, .slice qa q.kids.length qc, .slice (some ⟨b, o, none⟩) 1 kc]
  have HBW := hidd (codeB_below w #[.int .i64 8, .int .i64 i, .int .i64 nn, .string lb, .string ow, .int .i64 q.kind, .int .i64 q.n, .string q.name, .int .i64 q.stamp, .int .i64 q.lib, .slice qa q.kids.length qc, .slice (some ⟨b, o, none⟩) 1 kc])
  have HIN := hidd (codeB_in w #[.int .i64 8, .int .i64 i, .int .i64 nn, .string lb, .string ow, .int .i64 q.kind, .int .i64 q.n, .string q.name, .int .i64 q.stamp, .int .i64 q.lib, .slice qa q.kids.length qc, .slice (some ⟨b, o, none⟩) 1 kc])
  have GS0 := hidd (h.below HBW.out)
  have NC := hidd nc
  have CV : Hid (∀ W, Below B w W → CvOk B0 W g' x qa2 qc2 ka2 kc2) := fun W hb => CvOk.below (w := w) ⟨ok, hq2, hk2⟩ (hb.mono hB)
  have CALLG : Hid (∀ (W : World) (pvx avx : Value), Below B w W → GS B X G pvx avx (ps ++ [PE.mk i [] none 0]) W → Calls Try.prog 20 #[.pointer (some ⟨G, 0, none⟩), .agg (cva x qa2 qc2 ka2 kc2)] W (ToldG B X G pvx avx (ps ++ [PE.mk i [] none 0]) (genC x 0 (ps.length + 1)) W)) := fun W pvx avx hb hgs => by
    have := hC X G pvx avx (ps ++ [PE.mk i [] none 0]) x qa2 ka2 qc2 kc2 W okx smx stx (by omega) (by simp; omega) hln (CV.out W hb) hgs
    simpa using this
  have hjl := genC_len x okx 0 (ps.length + 1)
  generalize genC x 0 (ps.length + 1) = gx at CALLG hjl ⊢
  have hB0 := h.ble
  have NB0 : Hid (Nb (fun b => OG G pv av b ∨ X b) w.heap.size (.cells #[.int .i64 8, .int .i64 i, .int .i64 nn, .string lb, .string ow, .int .i64 q.kind, .int .i64 q.n, .string q.name, .int .i64 q.stamp, .int .i64 q.lib, .slice qa q.kids.length qc, .slice (some ⟨b, o, none⟩) 1 kc] 40 (0, 0)) (codeB w #[.int .i64 8, .int .i64 i, .int .i64 nn, .string lb, .string ow, .int .i64 q.kind, .int .i64 q.n, .string q.name, .int .i64 q.stamp, .int .i64 q.lib, .slice qa q.kids.length qc, .slice (some ⟨b, o, none⟩) 1 kc])) := ⟨HIN.out, by
    rintro (e | e)
    · have := (h.oglt e).2; omega
    · have := h.xlt _ e; omega⟩
  obtain ⟨pa, pc, rfl, hpc⟩ := own_slice h.pr
  obtain ⟨aa, ac, rfl, hac⟩ := own_slice h.ar
  have hGl := GS0.out.lt
  have z0 : (codeB w #[.int .i64 8, .int .i64 i, .int .i64 nn, .string lb, .string ow, .int .i64 q.kind, .int .i64 q.n, .string q.name, .int .i64 q.stamp, .int .i64 q.lib, .slice qa q.kids.length qc, .slice (some ⟨b, o, none⟩) 1 kc]).cell? ⟨w.heap.size, 0, none⟩ = some (.int .i64 8) := (cellOf HIN.out).trans rfl
  clear hall hk nc ok hq2 hk2 hC okx smx stx h CV
  unfold cva
  simp only [List.length_singleton]
  go_enter Try.func20, Try.ntmps20
  go_upto_region 27 with fail
  change Code.wp _ _ _ _ (codeB w #[.int .i64 8, .int .i64 i, .int .i64 nn, .string lb, .string ow, .int .i64 q.kind, .int .i64 q.n, .string q.name, .int .i64 q.stamp, .int .i64 q.lib, .slice qa q.kids.length qc, .slice (some ⟨b, o, none⟩) 1 kc])
  generalize codeB w #[.int .i64 8, .int .i64 i, .int .i64 nn, .string lb, .string ow, .int .i64 q.kind, .int .i64 q.n, .string q.name, .int .i64 q.stamp, .int .i64 q.lib, .slice qa q.kids.length qc, .slice (some ⟨b, o, none⟩) 1 kc] = W0 at HBW HIN GS0 NB0 hsb hGl z0 ⊢
  clear z0 HIN hsb
  have g0 : W0.cell? ⟨G, 0, none⟩ = some (.slice pa ps.length pc) := (cellOf GS0.out.box).trans rfl
  obtain ⟨i2, linf, lz0, lz1, lz2⟩ := info_parts infoSl
  have HO : Hid ((W0.alloc (.cells #[.slice none 0 0] 42)).ownsRow B 42 1 (.slice pa ps.length pc) ps.length (ps.map PE.sl) ∧ B ≤ (W0.alloc (.cells #[.slice none 0 0] 42)).heap.size) := ⟨GS0.out.pr.alloc _, by have := GS0.out.ble; simp; omega⟩
  go_wp2_with (at_builtin; refine wpList_row rfl _ _ 58 rfl B 42 i2 _ 1 24 Try.underlying58 linf lz0 lz1 lz2 rfl (by decide) (.slice pa ps.length pc) ps.length (ps.map PE.sl) rfl HO.out.1 (some ⟨W0.heap.size, 0, none⟩) 1 1 [.slice none 0 0] rfl rfl (Or.inr ⟨W0.heap.size, 0, rfl, alloc1_cells W0 _ _ _ rfl⟩) (by intro u hu; simp at hu; subst hu; rfl) (by unfold maxLen; omega) (by omega) HO.out.2 ?_)
  intro pv2 wA ho hg2 hw
  obtain ⟨hh, hf⟩ := GS0.out.half ((Below.refl _ _).alloc (Nat.le_refl _) (.cells #[.slice none 0 0] 42)) ho hg2 (by simpa using hw)
  have tb : wA.heap[G]? = some (.cells #[.slice pa ps.length pc, .slice aa ps.length ac] 60 (0, 0)) := by
    have h1 := (Below.heap_alloc W0 (.cells #[.slice none 0 0] 42) G hGl).trans GS0.out.box
    have h2 := hg2.block G (by simp; omega) (fun e => GS0.out.s1 e.symm)
    exact h2.trans h1
  have n1 : wA.cell? ⟨G, 0, none⟩ = some (.slice pa ps.length pc) := (cellOf tb).trans rfl
  have q1 : wA.frozen? ⟨G, 0, none⟩ = false := by simp [World.frozen?, tb]
  obtain ⟨pa2, pc2, hsv, hpc2⟩ := own_slice ho
  subst hsv
  have HH := hidd hh
  have NB2 := hidd (NB0.out.move (hf.wide (P := X)))
  have FM2 := hidd (Fm.trans (Fm.of_below (O := OG G (.slice pa ps.length pc) (.slice aa ps.length ac)) HBW.out hB0) hf)
  clear hh hf tb ho hg2 hw HO g0 GS0 NB0 HBW hpc
  try simp only [Act.put, List.setIfInBounds_toArray, List.set_cons_succ, List.set_cons_zero]
  go_upto_region 29 with fail
  clear n1 q1
  generalize wA.setCell ⟨G, 0, none⟩ (.slice pa2 (ps.length + 1) pc2) = w2 at HH NB2 FM2 ⊢
  go_cut [10] from 129 to 139 (fun s10 wx => s10 = .int .i64 ps.length ∧ ∃ av2, Hid (GS B X G (.slice pa2 (ps.length + 1) pc2) av2 (ps ++ [PE.mk i [] none 0]) wx) ∧ Hid (Fm (OG G (.slice pa2 (ps.length + 1) pc2) (.slice aa ps.length ac)) (OG G (.slice pa2 (ps.length + 1) pc2) av2) B w2 wx))
  case first =>
    clear CALLG NC FM2
    have NBI := hidd NB2.out.1
    obtain ⟨i3, minf, mz0, mz1, mz2⟩ := info_parts infoInt
    have GH_0 := hidd (HH.out.below (Below.drew (Below.refl _ _)))
    have BW_0 : Hid (Below w2.heap.size w2 w2.drew) := Below.drew (Below.refl _ _)
    refine wp_region_held_drew (S := fun u => u.heap[w.heap.size]? = some (.cells #[.int .i64 8, .int .i64 i, .int .i64 nn, .string lb, .string ow, .int .i64 q.kind, .int .i64 q.n, .string q.name, .int .i64 q.stamp, .int .i64 q.lib, .slice qa q.kids.length qc, .slice (some ⟨b, o, none⟩) 1 kc] 40 (0, 0))) (by kernel_rfl) NBI.out (fun hS => ?_)
    have HNG : Hid (w.heap.size ≠ G) := fun e => NB2.out.2 (Or.inl (Or.inl e))
    have HNA : Hid (¬ some w.heap.size = (Value.slice aa ps.length ac).ownBlock) := fun e => NB2.out.2 (Or.inl (Or.inr (Or.inr e)))
    refine wpAnyH_take (i := 0) (oi := { dst := some 129, op := Op.move (Operand.tmp 0), type := 57, pos := _, after := _, guard := none }) (v := .pointer (some ⟨G, 0, none⟩)) rfl (by kernel_rfl) (by kernel_rfl) (by kernel_rfl) (fun _ _ _ h => h) (Or.inl ⟨by rfl, fun u hu => by go_simp⟩) hS ?_
    simp only [Act.put, List.setIfInBounds_toArray, List.set_cons_zero, List.set_cons_succ]
    refine wpAnyH_take (i := 1) (oi := { dst := some 130, op := Op.move (Operand.tmp 0), type := 57, pos := _, after := _, guard := none }) (v := .pointer (some ⟨G, 0, none⟩)) rfl (by kernel_rfl) (by kernel_rfl) (by kernel_rfl) (fun _ _ _ h => h) (Or.inl ⟨by rfl, fun u hu => by go_simp⟩) hS ?_
    simp only [Act.put, List.setIfInBounds_toArray, List.set_cons_zero, List.set_cons_succ]
    refine wpAnyH_take (i := 2) (oi := { dst := some 131, op := Op.nilCheck (Operand.tmp 130), type := 0, pos := _, after := _, guard := none }) (v := .pointer (some ⟨G, 0, none⟩)) rfl (by kernel_rfl) (by kernel_rfl) (by kernel_rfl) (fun _ _ _ h => h) (Or.inl ⟨by rfl, fun u hu => by go_simp⟩) hS ?_
    simp only [Act.put, List.setIfInBounds_toArray, List.set_cons_zero, List.set_cons_succ]
    refine wpAnyH_take (i := 3) (oi := { dst := some 132, op := Op.fieldAddr 60 (Operand.tmp 131) 1, type := 0, pos := _, after := _, guard := none }) (v := .pointer (some ⟨G, 1, none⟩)) rfl (by kernel_rfl) (by kernel_rfl) (by kernel_rfl) (fun _ _ _ h => h) (Or.inl ⟨by rfl, fun u hu => by go_simp⟩) hS ?_
    simp only [Act.put, List.setIfInBounds_toArray, List.set_cons_zero, List.set_cons_succ]
    refine wpAnyH_take (i := 5) (oi := { dst := some 134, op := Op.fieldAddr 40 (Operand.tmp 3) 1, type := 0, pos := _, after := _, guard := none }) (v := .pointer (some ⟨w.heap.size, 1, none⟩)) rfl (by kernel_rfl) (by kernel_rfl) (by kernel_rfl) (fun _ _ _ h => h) (Or.inl ⟨by rfl, fun u hu => by go_simp⟩) hS ?_
    simp only [Act.put, List.setIfInBounds_toArray, List.set_cons_zero, List.set_cons_succ]
    refine wpAnyH_take (i := 6) (oi := { dst := some 135, op := Op.load 3 (Operand.tmp 134), type := 3, pos := _, after := _, guard := none }) (v := .int .i64 i) rfl (by kernel_rfl) (by kernel_rfl) (by kernel_rfl) (fun _ _ _ h => h) (Or.inl ⟨by rfl, fun u hu => by (have z : u.cell? ⟨w.heap.size, 1, none⟩ = some (.int .i64 i) := (by simp [World.cell?, show u.heap[w.heap.size]? = _ from hu]); go_simp)⟩) hS ?_
    simp only [Act.put, List.setIfInBounds_toArray, List.set_cons_zero, List.set_cons_succ]
    refine wpAnyH_ready (rs := [4, 7]) (by kernel_rfl) (by simp) (AllReadyH.cons (o := { dst := some 133, op := Op.load 34 (Operand.tmp 132), type := 34, pos := _, after := _, guard := none }) rfl (fun K hK => ?_) (AllReadyH.cons (o := { dst := some 136, op := Op.buildSlice 34 1 #[(0, Operand.tmp 135)], type := 34, pos := _, after := _, guard := none }) rfl (fun K hK => ?_) AllReadyH.nil))
    · have zt : w2.drew.cell? ⟨G, 1, none⟩ = some (.slice aa ps.length ac) := (cellOf GH_0.out.box).trans rfl
      go_simp
      clear zt
      refine hK.out _ _ hS (fun hS => ?_)
      clear hK K
      refine wpAnyH_ready (rs := [7]) (by kernel_rfl) (by simp) (AllReadyH.cons (o := { dst := some 136, op := Op.buildSlice 34 1 #[(0, Operand.tmp 135)], type := 34, pos := _, after := _, guard := none }) rfl (fun K hK => ?_) AllReadyH.nil)
      go_simp
      have hb1 : Below w2.drew.heap.size w2.drew (w2.drew.alloc (.cells #[.int .i64 i] 3)) := (Below.refl _ _).alloc (Nat.le_refl _) _
      have hN1 : Hid ((w2.drew.alloc (.cells #[.int .i64 i] 3)).heap[w2.heap.size]? = some (.cells #[.int .i64 i] 3 (0, 0))) := World.alloc_heap_new w2.drew _
      have hS1 : (w2.drew.alloc (.cells #[.int .i64 i] 3)).heap[w.heap.size]? = some (.cells #[.int .i64 8, .int .i64 i, .int .i64 nn, .string lb, .string ow, .int .i64 q.kind, .int .i64 q.n, .string q.name, .int .i64 q.stamp, .int .i64 q.lib, .slice qa q.kids.length qc, .slice (some ⟨b, o, none⟩) 1 kc] 40 (0, 0)) := (hb1.block _ (Array.getElem?_eq_some_iff.1 hS).1).trans hS
      change K _ (w2.drew.alloc (.cells #[.int .i64 i] 3))
      generalize w2.drew.alloc (.cells #[.int .i64 i] 3) = W1 at hb1 hN1 hS1 ⊢
      have GH_1 : Hid (GH B X G (.slice pa2 (ps.length + 1) pc2) (.slice aa ps.length ac) ps W1) := GH_0.out.below hb1
      have BW_1 : Hid (Below w2.heap.size w2 W1) := BW_0.out.trans (hb1.mono BW_0.out.size)
      clear hb1
      refine hK.out _ _ hS1 (fun hS => ?_)
      clear hK K
      refine wpAnyH_ready (rs := [8]) (by kernel_rfl) (by simp) (AllReadyH.cons (o := { dst := some 137, op := Op.call { callee := Callee.builtin Builtin.append, args := #[Operand.tmp 133, Operand.tmp 136], argTypes := #[34, 34] }, type := 34, pos := _, after := _, guard := none }) rfl (fun K hK => ?_) AllReadyH.nil)
      refine step_row rfl (.tmp 133) (.tmp 136) 34 rfl B 3 i3 _ 1 8 Try.underlying34 minf mz0 mz1 mz2 rfl (by decide) (.slice aa ps.length ac) ps.length (ints (ps.map PE.args)) rfl GH_1.out.ar (some ⟨w2.heap.size, 0, none⟩) 1 1 [.int .i64 i] rfl rfl (Or.inr ⟨w2.heap.size, 0, rfl, fun j u hu => by rw [Nat.zero_add]; refine (cellOf hN1.out).trans ?_; rw [← hu]; simp⟩) (by intro u hu; simp at hu; subst hu; rfl) (by unfold maxLen; omega) (by omega) GH_1.out.ble ?_
      intro av2 w4 hown4 hg4 hw4
      obtain ⟨hgs, hfm⟩ := HH.out.full BW_1.out hown4 hg4 hw4
      have T4 : w4.heap[G]? = some (.cells #[.slice pa2 (ps.length + 1) pc2, .slice aa ps.length ac] 60 (0, 0)) := (hg4.block G GH_1.out.lt (fun e => GH_1.out.s2 e.symm)).trans GH_1.out.box
      have hS4 : w4.heap[w.heap.size]? = some (.cells #[.int .i64 8, .int .i64 i, .int .i64 nn, .string lb, .string ow, .int .i64 q.kind, .int .i64 q.n, .string q.name, .int .i64 q.stamp, .int .i64 q.lib, .slice qa q.kids.length qc, .slice (some ⟨b, o, none⟩) 1 kc] 40 (0, 0)) := (hg4.block _ (Array.getElem?_eq_some_iff.1 hS).1 (fun e => HNA.out e)).trans hS
      have REL := hidd (And.intro hgs hfm)
      have TB4 := hidd T4
      obtain ⟨sa, sc, hsv, _⟩ := own_slice hown4
      subst hsv
      clear hgs hfm T4 hown4 hg4 hw4
      show K _ w4
      refine hK.out _ _ hS4 (fun hS => ?_)
      clear hK K
      refine wpAnyH_take (i := 9) (oi := { dst := some 138, op := Op.nilCheck (Operand.tmp 129), type := 0, pos := _, after := _, guard := none }) (v := .pointer (some ⟨G, 0, none⟩)) rfl (by kernel_rfl) (by kernel_rfl) (by kernel_rfl) (fun _ _ _ h => h) (Or.inl ⟨by rfl, fun u hu => by go_simp⟩) hS ?_
      simp only [Act.put, List.setIfInBounds_toArray, List.set_cons_zero, List.set_cons_succ]
      refine wpAnyH_take (i := 10) (oi := { dst := some 139, op := Op.fieldAddr 60 (Operand.tmp 138) 1, type := 0, pos := _, after := _, guard := none }) (v := .pointer (some ⟨G, 1, none⟩)) rfl (by kernel_rfl) (by kernel_rfl) (by kernel_rfl) (fun _ _ _ h => h) (Or.inl ⟨by rfl, fun u hu => by go_simp⟩) hS ?_
      simp only [Act.put, List.setIfInBounds_toArray, List.set_cons_zero, List.set_cons_succ]
      refine wpAnyH_ready (rs := [11]) (by kernel_rfl) (by simp) (AllReadyH.cons (o := { dst := none, op := Op.store 34 (Operand.tmp 139) (Operand.tmp 137), type := 0, pos := _, after := _, guard := none }) rfl (fun K hK => ?_) AllReadyH.nil)
      have n0 : w4.cell? ⟨G, 1, none⟩ = some (.slice aa ps.length ac) := (cellOf TB4.out).trans rfl
      have nz : w4.frozen? ⟨G, 1, none⟩ = false := by simp [World.frozen?, TB4.out]
      go_simp
      clear n0 nz
      have hS5 : (w4.setCell ⟨G, 1, none⟩ (.slice sa (ps.length + 1) sc)).heap[w.heap.size]? = some (.cells #[.int .i64 8, .int .i64 i, .int .i64 nn, .string lb, .string ow, .int .i64 q.kind, .int .i64 q.n, .string q.name, .int .i64 q.stamp, .int .i64 q.lib, .slice qa q.kids.length qc, .slice (some ⟨b, o, none⟩) 1 kc] 40 (0, 0)) := (Below.heap_setCell _ _ _ _ (by show w.heap.size ≠ G; exact HNG.out)).trans hS
      refine hK.out _ _ hS5 (fun hS => ?_)
      clear hK K
      refine wpAnyH_done (by kernel_rfl) ?_ _
      go_wp2_with fail
      go_meet
      case rel => exact ⟨rfl, _, REL.out.1, REL.out.2⟩
    · go_simp
      have hb1 : Below w2.drew.heap.size w2.drew (w2.drew.alloc (.cells #[.int .i64 i] 3)) := (Below.refl _ _).alloc (Nat.le_refl _) _
      have hN1 : Hid ((w2.drew.alloc (.cells #[.int .i64 i] 3)).heap[w2.heap.size]? = some (.cells #[.int .i64 i] 3 (0, 0))) := World.alloc_heap_new w2.drew _
      have hS1 : (w2.drew.alloc (.cells #[.int .i64 i] 3)).heap[w.heap.size]? = some (.cells #[.int .i64 8, .int .i64 i, .int .i64 nn, .string lb, .string ow, .int .i64 q.kind, .int .i64 q.n, .string q.name, .int .i64 q.stamp, .int .i64 q.lib, .slice qa q.kids.length qc, .slice (some ⟨b, o, none⟩) 1 kc] 40 (0, 0)) := (hb1.block _ (Array.getElem?_eq_some_iff.1 hS).1).trans hS
      change K _ (w2.drew.alloc (.cells #[.int .i64 i] 3))
      generalize w2.drew.alloc (.cells #[.int .i64 i] 3) = W1 at hb1 hN1 hS1 ⊢
      have GH_1 : Hid (GH B X G (.slice pa2 (ps.length + 1) pc2) (.slice aa ps.length ac) ps W1) := GH_0.out.below hb1
      have BW_1 : Hid (Below w2.heap.size w2 W1) := BW_0.out.trans (hb1.mono BW_0.out.size)
      clear hb1
      refine hK.out _ _ hS1 (fun hS => ?_)
      clear hK K
      refine wpAnyH_ready (rs := [4]) (by kernel_rfl) (by simp) (AllReadyH.cons (o := { dst := some 133, op := Op.load 34 (Operand.tmp 132), type := 34, pos := _, after := _, guard := none }) rfl (fun K hK => ?_) AllReadyH.nil)
      have zt : W1.cell? ⟨G, 1, none⟩ = some (.slice aa ps.length ac) := (cellOf GH_1.out.box).trans rfl
      go_simp
      clear zt
      refine hK.out _ _ hS (fun hS => ?_)
      clear hK K
      refine wpAnyH_ready (rs := [8]) (by kernel_rfl) (by simp) (AllReadyH.cons (o := { dst := some 137, op := Op.call { callee := Callee.builtin Builtin.append, args := #[Operand.tmp 133, Operand.tmp 136], argTypes := #[34, 34] }, type := 34, pos := _, after := _, guard := none }) rfl (fun K hK => ?_) AllReadyH.nil)
      refine step_row rfl (.tmp 133) (.tmp 136) 34 rfl B 3 i3 _ 1 8 Try.underlying34 minf mz0 mz1 mz2 rfl (by decide) (.slice aa ps.length ac) ps.length (ints (ps.map PE.args)) rfl GH_1.out.ar (some ⟨w2.heap.size, 0, none⟩) 1 1 [.int .i64 i] rfl rfl (Or.inr ⟨w2.heap.size, 0, rfl, fun j u hu => by rw [Nat.zero_add]; refine (cellOf hN1.out).trans ?_; rw [← hu]; simp⟩) (by intro u hu; simp at hu; subst hu; rfl) (by unfold maxLen; omega) (by omega) GH_1.out.ble ?_
      intro av2 w4 hown4 hg4 hw4
      obtain ⟨hgs, hfm⟩ := HH.out.full BW_1.out hown4 hg4 hw4
      have T4 : w4.heap[G]? = some (.cells #[.slice pa2 (ps.length + 1) pc2, .slice aa ps.length ac] 60 (0, 0)) := (hg4.block G GH_1.out.lt (fun e => GH_1.out.s2 e.symm)).trans GH_1.out.box
      have hS4 : w4.heap[w.heap.size]? = some (.cells #[.int .i64 8, .int .i64 i, .int .i64 nn, .string lb, .string ow, .int .i64 q.kind, .int .i64 q.n, .string q.name, .int .i64 q.stamp, .int .i64 q.lib, .slice qa q.kids.length qc, .slice (some ⟨b, o, none⟩) 1 kc] 40 (0, 0)) := (hg4.block _ (Array.getElem?_eq_some_iff.1 hS).1 (fun e => HNA.out e)).trans hS
      have REL := hidd (And.intro hgs hfm)
      have TB4 := hidd T4
      obtain ⟨sa, sc, hsv, _⟩ := own_slice hown4
      subst hsv
      clear hgs hfm T4 hown4 hg4 hw4
      show K _ w4
      refine hK.out _ _ hS4 (fun hS => ?_)
      clear hK K
      refine wpAnyH_take (i := 9) (oi := { dst := some 138, op := Op.nilCheck (Operand.tmp 129), type := 0, pos := _, after := _, guard := none }) (v := .pointer (some ⟨G, 0, none⟩)) rfl (by kernel_rfl) (by kernel_rfl) (by kernel_rfl) (fun _ _ _ h => h) (Or.inl ⟨by rfl, fun u hu => by go_simp⟩) hS ?_
      simp only [Act.put, List.setIfInBounds_toArray, List.set_cons_zero, List.set_cons_succ]
      refine wpAnyH_take (i := 10) (oi := { dst := some 139, op := Op.fieldAddr 60 (Operand.tmp 138) 1, type := 0, pos := _, after := _, guard := none }) (v := .pointer (some ⟨G, 1, none⟩)) rfl (by kernel_rfl) (by kernel_rfl) (by kernel_rfl) (fun _ _ _ h => h) (Or.inl ⟨by rfl, fun u hu => by go_simp⟩) hS ?_
      simp only [Act.put, List.setIfInBounds_toArray, List.set_cons_zero, List.set_cons_succ]
      refine wpAnyH_ready (rs := [11]) (by kernel_rfl) (by simp) (AllReadyH.cons (o := { dst := none, op := Op.store 34 (Operand.tmp 139) (Operand.tmp 137), type := 0, pos := _, after := _, guard := none }) rfl (fun K hK => ?_) AllReadyH.nil)
      have n0 : w4.cell? ⟨G, 1, none⟩ = some (.slice aa ps.length ac) := (cellOf TB4.out).trans rfl
      have nz : w4.frozen? ⟨G, 1, none⟩ = false := by simp [World.frozen?, TB4.out]
      go_simp
      clear n0 nz
      have hS5 : (w4.setCell ⟨G, 1, none⟩ (.slice sa (ps.length + 1) sc)).heap[w.heap.size]? = some (.cells #[.int .i64 8, .int .i64 i, .int .i64 nn, .string lb, .string ow, .int .i64 q.kind, .int .i64 q.n, .string q.name, .int .i64 q.stamp, .int .i64 q.lib, .slice qa q.kids.length qc, .slice (some ⟨b, o, none⟩) 1 kc] 40 (0, 0)) := (Below.heap_setCell _ _ _ _ (by show w.heap.size ≠ G; exact HNG.out)).trans hS
      refine hK.out _ _ hS5 (fun hS => ?_)
      clear hK K
      refine wpAnyH_done (by kernel_rfl) ?_ _
      go_wp2_with fail
      go_meet
      case rel => exact ⟨rfl, _, REL.out.1, REL.out.2⟩
  case rest =>
  obtain ⟨rfl, av2, GS3, FM3⟩ := hcut
  have FMA := hidd (FM2.out.trans FM3.out)
  have NB3 := hidd (NB2.out.move (FM3.out.wide (P := X)))
  have CALL := hidd (CALLG.out wc (.slice pa2 (ps.length + 1) pc2) av2 FMA.out.low GS3.out)
  have IN3 := hidd NB3.out.1
  have y0 := (FMA.out.low.cell (p := ⟨b, o, none⟩) (Nat.lt_of_lt_of_le hbB hB)).trans NC.out.c0
  have y1 := (FMA.out.low.cell (p := ⟨b, o + 1, none⟩) (Nat.lt_of_lt_of_le hbB hB)).trans NC.out.c1
  have y2 := (FMA.out.low.cell (p := ⟨b, o + 2, none⟩) (Nat.lt_of_lt_of_le hbB hB)).trans NC.out.c2
  have y3 := (FMA.out.low.cell (p := ⟨b, o + 3, none⟩) (Nat.lt_of_lt_of_le hbB hB)).trans NC.out.c3
  have y4 := (FMA.out.low.cell (p := ⟨b, o + 4, none⟩) (Nat.lt_of_lt_of_le hbB hB)).trans NC.out.c4
  have y5 := (FMA.out.low.cell (p := ⟨b, o + 5, none⟩) (Nat.lt_of_lt_of_le hbB hB)).trans NC.out.c5
  have y6 := (FMA.out.low.cell (p := ⟨b, o + 6, none⟩) (Nat.lt_of_lt_of_le hbB hB)).trans NC.out.c6
  have y7 := (FMA.out.low.cell (p := ⟨b, o + 7, none⟩) (Nat.lt_of_lt_of_le hbB hB)).trans NC.out.c7
  have y8 := (FMA.out.low.cell (p := ⟨b, o + 8, none⟩) (Nat.lt_of_lt_of_le hbB hB)).trans NC.out.c8
  have y9 := (FMA.out.low.cell (p := ⟨b, o + 9, none⟩) (Nat.lt_of_lt_of_le hbB hB)).trans NC.out.c9
  have y10 := (FMA.out.low.cell (p := ⟨b, o + 10, none⟩) (Nat.lt_of_lt_of_le hbB hB)).trans NC.out.c10
  have y11 := (FMA.out.low.cell (p := ⟨b, o + 11, none⟩) (Nat.lt_of_lt_of_le hbB hB)).trans NC.out.c11
  have z11 : wc.cell? ⟨w.heap.size, 11, none⟩ = some (.slice (some ⟨b, o, none⟩) 1 kc) := (cellOf IN3.out).trans rfl
  unfold cva at CALL
  clear CALLG NC HH NB2 FM2 FM3
  go_wp2_with fail
  refine CALL.out.mono ?_
  rintro e w4 ⟨pv4, av4, ps4, rv, is, rfl, gs4, row4, hm1, hm2, fm4⟩
  clear CALL z11 y0 y1 y2 y3 y4 y5 y6 y7 y8 y9 y10 y11 IN3 NB3
  obtain ⟨ra, rc, rfl, hrc⟩ := row4.slice
  obtain ⟨g, pcap, hpv4, hpcap, hgB, hgl, hgo, hgc⟩ := own_at gs4.pr (by simp; omega)
  obtain ⟨N, hN⟩ : ∃ N, N = ((ps ++ [PE.mk i [] none 0]) ++ ps4).length := ⟨_, rfl⟩
  rw [← hN] at hpv4 hpcap
  subst hpv4
  have hNp : ps.length < N := by rw [hN]; simp
  have hN2 : N ≤ 10000000 := by
    have h5 := congrArg List.length hm2
    rw [List.length_map] at h5
    rw [hN]
    simp
    omega
  have hisl : is.length ≤ 10000000 := by
    have h5 := congrArg List.length hm1
    rw [List.length_map] at h5
    omega
  have GS4 := hidd gs4
  have R4 := hidd row4
  have HN := hidd hN
  have HM : Hid (is.map IE.i = gx.1 ∧ ps4.map PE.pro = gx.2) := ⟨hm1, hm2⟩
  have FM4 := hidd (FMA.out.trans fm4)
  have hszc : w.heap.size ≤ wc.heap.size := FMA.out.low.size
  have HWC4 : Hid (wc.heap.size ≤ w4.heap.size) := fm4.low.size
  have hplace := hgc ps.length (.slice none 0 0) (by rw [List.append_assoc, List.map_append, List.getElem?_append_right (by rw [List.length_map]; exact Nat.le_refl _)]; simp [PE.sl])
  have HPL := hidd hplace
  have SP : Hid (N = (ps ++ [PE.mk i [] none 0] ++ ps4).length) := hN
  clear gs4 row4 hm1 hm2 fm4 GS3 FMA hgc hjl hN hplace
  obtain ⟨i1, jinf, jz0, jz1, jz2⟩ := info_parts infoIns
  go_upto_region 31 with fail
  have GB := hidd (show w4.drew.heap[G]? = some (.cells #[.slice (some ⟨g, 0, none⟩) N pcap, av4] 60 (0, 0)) from GS4.out.box)
  refine wp_region_held_drew (S := fun u => u.heap[G]? = some (.cells #[.slice (some ⟨g, 0, none⟩) N pcap, av4] 60 (0, 0))) (by kernel_rfl) GB.out (fun hS => ?_)
  refine wpAnyH_take (i := 0) (oi := { dst := some 146, op := Op.move (Operand.tmp 0), type := 57, pos := _, after := _, guard := none }) (v := .pointer (some ⟨G, 0, none⟩)) rfl (by kernel_rfl) (by kernel_rfl) (by kernel_rfl) (fun _ _ _ h => h) (Or.inl ⟨by rfl, fun u hu => by go_simp⟩) hS ?_
  simp only [Act.put, List.setIfInBounds_toArray, List.set_cons_zero, List.set_cons_succ]
  refine wpAnyH_take (i := 1) (oi := { dst := some 147, op := Op.nilCheck (Operand.tmp 146), type := 0, pos := _, after := _, guard := none }) (v := .pointer (some ⟨G, 0, none⟩)) rfl (by kernel_rfl) (by kernel_rfl) (by kernel_rfl) (fun _ _ _ h => h) (Or.inl ⟨by rfl, fun u hu => by go_simp⟩) hS ?_
  simp only [Act.put, List.setIfInBounds_toArray, List.set_cons_zero, List.set_cons_succ]
  refine wpAnyH_take (i := 2) (oi := { dst := some 148, op := Op.fieldAddr 60 (Operand.tmp 147) 0, type := 0, pos := _, after := _, guard := none }) (v := .pointer (some ⟨G, 0, none⟩)) rfl (by kernel_rfl) (by kernel_rfl) (by kernel_rfl) (fun _ _ _ h => h) (Or.inl ⟨by rfl, fun u hu => by go_simp⟩) hS ?_
  simp only [Act.put, List.setIfInBounds_toArray, List.set_cons_zero, List.set_cons_succ]
  refine wpAnyH_take (i := 3) (oi := { dst := some 149, op := Op.load 58 (Operand.tmp 148), type := 58, pos := _, after := _, guard := none }) (v := .slice (some ⟨g, 0, none⟩) N pcap) rfl (by kernel_rfl) (by kernel_rfl) (by kernel_rfl) (fun _ _ _ h => h) (Or.inl ⟨by rfl, fun u hu => by (have z : u.cell? ⟨G, 0, none⟩ = some (.slice (some ⟨g, 0, none⟩) N pcap) := (by simp [World.cell?, show u.heap[G]? = _ from hu]); go_simp)⟩) hS ?_
  simp only [Act.put, List.setIfInBounds_toArray, List.set_cons_zero, List.set_cons_succ]
  refine wpAnyH_take (i := 4) (oi := { dst := some 150, op := Op.move (Operand.tmp 10), type := 3, pos := _, after := _, guard := none }) (v := .int .i64 ps.length) rfl (by kernel_rfl) (by kernel_rfl) (by kernel_rfl) (fun _ _ _ h => h) (Or.inl ⟨by rfl, fun u hu => by go_simp⟩) hS ?_
  simp only [Act.put, List.setIfInBounds_toArray, List.set_cons_zero, List.set_cons_succ]
  refine wpAnyH_take (i := 5) (oi := { dst := some 151, op := Op.move (Operand.tmp 11), type := 42, pos := _, after := _, guard := none }) (v := .slice ra is.length rc) rfl (by kernel_rfl) (by kernel_rfl) (by kernel_rfl) (fun _ _ _ h => h) (Or.inl ⟨by rfl, fun u hu => by go_simp⟩) hS ?_
  simp only [Act.put, List.setIfInBounds_toArray, List.set_cons_zero, List.set_cons_succ]
  refine wpAnyH_take (i := 6) (oi := { dst := some 152, op := Op.build 46 #[(0, Operand.const (Value.int IntKind.i64 15))], type := 46, pos := _, after := _, guard := none }) (v := .agg #[.int .i64 15, .int .i64 0, .int .i64 0, .string ⟨#[]⟩, .string ⟨#[]⟩, .int .i64 0, .int .i64 0, .string ⟨#[]⟩, .int .i64 0, .int .i64 0, .slice none 0 0]) rfl (by kernel_rfl) (by kernel_rfl) (by kernel_rfl) (fun _ _ _ h => h) (Or.inl ⟨by rfl, fun u hu => by go_simp⟩) hS ?_
  simp only [Act.put, List.setIfInBounds_toArray, List.set_cons_zero, List.set_cons_succ]
  refine wpAnyH_ready (rs := [7]) (by kernel_rfl) (by simp) (AllReadyH.cons (o := { dst := some 153, op := Op.buildSlice 42 1 #[(0, Operand.tmp 152)], type := 42, pos := _, after := _, guard := none }) rfl (fun K hK => ?_) AllReadyH.nil)
  go_simp
  have hb5 : Below w4.drew.heap.size w4.drew (w4.drew.alloc (.cells (IE.mk (insO 15) none 0).cells.toArray 46)) := (Below.refl _ _).alloc (Nat.le_refl _) _
  have hN5 : Hid ((w4.drew.alloc (.cells (IE.mk (insO 15) none 0).cells.toArray 46)).heap[w4.heap.size]? = some (.cells (IE.mk (insO 15) none 0).cells.toArray 46 (0, 0))) := World.alloc_heap_new w4.drew _
  have hS5 : (w4.drew.alloc (.cells (IE.mk (insO 15) none 0).cells.toArray 46)).heap[G]? = some (.cells #[.slice (some ⟨g, 0, none⟩) N pcap, av4] 60 (0, 0)) := (hb5.block _ (Array.getElem?_eq_some_iff.1 hS).1).trans hS
  have BW5 : Hid (Below w4.heap.size w4 (w4.drew.alloc (.cells (IE.mk (insO 15) none 0).cells.toArray 46))) := (Below.drew (Below.refl _ _)).trans hb5
  change K _ (w4.drew.alloc (.cells (IE.mk (insO 15) none 0).cells.toArray 46))
  generalize w4.drew.alloc (.cells (IE.mk (insO 15) none 0).cells.toArray 46) = w5 at hN5 hS5 BW5 ⊢
  clear hb5
  refine hK.out _ _ hS5 (fun hS => ?_)
  clear hK K
  refine wpAnyH_ready (rs := [8]) (by kernel_rfl) (by simp) (AllReadyH.cons (o := { dst := some 154, op := Op.call { callee := Callee.builtin Builtin.append, args := #[Operand.tmp 151, Operand.tmp 153], argTypes := #[42, 42] }, type := 42, pos := _, after := _, guard := none }) rfl (fun K hK => ?_) AllReadyH.nil)
  refine step_row rfl (.tmp 151) (.tmp 153) 42 rfl wc.heap.size 46 i1 _ 11 128 Try.underlying42 jinf jz0 jz1 jz2 rfl (by decide) (.slice ra is.length rc) is.length (flatI is) rfl (own_below R4.out.own BW5.out) (some ⟨w4.heap.size, 0, none⟩) 1 1 (IE.mk (insO 15) none 0).cells rfl rfl (Or.inr ⟨w4.heap.size, 0, rfl, fun j u hu => by rw [Nat.zero_add]; refine (cellOf hN5.out).trans ?_; rw [← hu]; simp⟩) (IE.one _) (by unfold maxLen; omega) (by omega) (Nat.le_trans HWC4.out BW5.out.size) ?_
  intro rv' w6 hown6 hg6 hw6
  obtain ⟨row6, fm6⟩ := R4.out.push BW5.out HWC4.out (fun b e => e.elim (fun e => (GS4.out.oglt e).2) (fun e => GS4.out.xlt b (Or.inl e))) (IE.mk (insO 15) none 0) (ie_plain _ _ _ (Nat.zero_le _) (Nat.zero_le _) rfl) hown6 hg6 hw6
  obtain ⟨sa, sc, hsv, _⟩ := own_slice hown6
  subst hsv
  have hS6 : w6.heap[G]? = some (.cells #[.slice (some ⟨g, 0, none⟩) N pcap, av4] 60 (0, 0)) := (hg6.block G (Array.getElem?_eq_some_iff.1 hS).1 (fun e => R4.out.nb G e.symm (Or.inl (Or.inl rfl)))).trans hS
  have PUT := hidd (GS.put (es := is ++ [IE.mk (insO 15) none 0]) (ra := sa) (rc := sc) SP.out GS4.out R4.out.nb (by simpa using row6) (by simpa using fm6))
  have FPUT := hidd (Fm.put (k := ps.length) (v := .slice sa (is.length + 1) sc) (g := g) FM4.out fm6 hszc hB0 (fun b hb => (R4.out.own.lt b hb).1) (Or.inr (Or.inl hgo.symm)) hgB)
  have hgr : ¬ some g = (Value.slice ra is.length rc).ownBlock := fun e => R4.out.nb g e.symm (Or.inl (Or.inr (Or.inl hgo.symm)))
  have G6 : w6.heap[g]? = w4.heap[g]? := fm6.keep g hgl hgr
  have c6 : Hid (w6.cell? ⟨g, ps.length, none⟩ = some (.slice none 0 0)) := (World.cell?_of_block (a := ⟨g, ps.length, none⟩) G6).trans HPL.out
  have z6 : Hid (w6.frozen? ⟨g, ps.length, none⟩ = false) := by
    obtain ⟨g2, cap2, cur2, e2, _, hb2, _⟩ := GS4.out.pr.2.resolve_left (by intro hh; have := hh.2; simp at this)
    simp only [Value.slice.injEq, Option.some.injEq, Addr.mk.injEq, and_true] at e2
    obtain ⟨e3, _, _⟩ := e2
    have hb3 : w6.heap[g]? = some (.cells cur2 42 (0, 0)) := by rw [G6, e3]; exact hb2
    show _ = _
    simp [World.frozen?, hb3]
  clear hown6 hg6 hw6 row6 fm6 G6 hgr
  show K _ w6
  refine hK.out _ _ hS6 (fun hS => ?_)
  clear hK K
  refine wpAnyH_take (i := 9) (oi := { dst := some 155, op := Op.indexAddr 58 (Operand.tmp 149) (Operand.tmp 150), type := 0, pos := _, after := _, guard := none }) (v := .pointer (some ⟨g, ps.length, none⟩)) rfl (by kernel_rfl) (by kernel_rfl) (by kernel_rfl) (fun _ _ _ h => h) (Or.inl ⟨by rfl, fun u hu => by go_simp⟩) hS ?_
  simp only [Act.put, List.setIfInBounds_toArray, List.set_cons_zero, List.set_cons_succ]
  refine wpAnyH_ready (rs := [10]) (by kernel_rfl) (by simp) (AllReadyH.cons (o := { dst := none, op := Op.store 42 (Operand.tmp 155) (Operand.tmp 154), type := 0, pos := _, after := _, guard := none }) rfl (fun K hK => ?_) AllReadyH.nil)
  have n6 := c6.out
  have nz := z6.out
  go_simp
  clear n6 nz
  have hS7 : (w6.setCell ⟨g, ps.length, none⟩ (.slice sa (is.length + 1) sc)).heap[G]? = some (.cells #[.slice (some ⟨g, 0, none⟩) N pcap, av4] 60 (0, 0)) := (Below.heap_setCell _ _ _ _ (by show G ≠ g; intro e; exact GS4.out.s1 (by rw [hgo, e]))).trans hS
  change K _ (w6.setCell ⟨g, ps.length, none⟩ (.slice sa (is.length + 1) sc))
  have PUT2 : Hid (GS B X G (.slice (some ⟨g, 0, none⟩) N pcap) av4 ((ps ++ [PE.mk i (is ++ [IE.mk (insO 15) none 0]) sa sc]) ++ ps4) (w6.setCell ⟨g, ps.length, none⟩ (.slice sa (is.length + 1) sc))) := by have := PUT.out; show GS _ _ _ _ _ _ _; simpa using this
  clear PUT
  generalize w6.setCell ⟨g, ps.length, none⟩ (.slice sa (is.length + 1) sc) = w7 at PUT2 FPUT hS7 ⊢
  refine hK.out _ _ hS7 (fun hS => ?_)
  clear hK K
  refine wpAnyH_done (by kernel_rfl) ?_ _
  have END := hidd (ToldG.lam (ps' := [PE.mk i (is ++ [IE.mk (insO 15) none 0]) sa sc] ++ ps4) HG.out.xlt (by rw [← List.append_assoc]; exact PUT2.out) FPUT.out ⟨insA 7 ps.length, none, 0⟩ ⟨Nat.zero_le _, Nat.zero_le _, rfl, rfl, rfl⟩)
  have EQ : Hid (([PE.mk i (is ++ [IE.mk (insO 15) none 0]) sa sc] ++ ps4).map PE.pro = ⟨i, gx.1 ++ [insO 15]⟩ :: gx.2) := by show _ = _; rw [List.map_append, HM.out.2, ← HM.out.1]; simp [PE.pro]
  rw [EQ.out] at END
  clear EQ PUT2 FPUT hS GS4 R4 FM4
  go_wp2_with fail
  go_ret
  exact END.out
end Go.Proofs.Ytbbmdhkbndgdkaa
