/- Chapter 10, the document's side: Link. -/
import Derived.Test.YtdnbingddbakaaaDoorK42
import Derived.Test.YtdnbingddbakaaaDoorK42
import Derived.Test.YtdnbingddbakaaaDoorK45
import Derived.Test.YtdnbingddbakaaaDoorK49
namespace Go.Proofs.YtdnbingddbakaaaDoor
set_option linter.unusedVariables false
set_option linter.unusedSimpArgs false
open Go.RowKit

theorem told_bad {us : List Un} {w W' : World} {e at0 : Int} (h : linkF us = (e, at0)) (he : e ≠ 0) (hb : Below w.heap.size w W') : ToldL us w (.returned (.tuple #[.agg #[.slice none 0 0, .slice none 0 0, .slice none 0 0], .agg #[.int .i64 e, .int .i64 at0]])) W' := by
  unfold ToldL
  rw [h]
  exact ⟨_, _, _, rfl, hb, fun _ => ⟨rfl, rfl, rfl⟩, fun h0 => absurd h0 he⟩
theorem fstF_step {er : Nat → Int} {n j : Nat} (hj : j < n) : fstF er j (n - j) = if er j = 0 then fstF er (j + 1) (n - (j + 1)) else (er j, (j : Int)) := by
  rw [show n - j = (n - (j + 1)) + 1 by omega, fstF]
theorem fstE_step {er : Nat → Int} {n j : Nat} (hj : j < n) : fstE er j (n - j) = if er j = 0 then fstE er (j + 1) (n - (j + 1)) else er j := by
  rw [show n - j = (n - (j + 1)) + 1 by omega, fstE]
theorem flat_le (l : List Pro) (m : Nat) : ((l.take m).flatMap Pro.code).length ≤ (l.flatMap Pro.code).length := by
  conv => rhs; rw [← List.take_append_drop m l, List.flatMap_append, List.length_append]
  omega
theorem bcells_one (s : Gl) : ∀ u ∈ bcells s, u.oneCell' = true := by
  intro u hu
  simp [bcells] at hu
  rcases hu with rfl | rfl | rfl <;> rfl
theorem src_bind (w : World) (s : Gl) (j : Nat) (u : Value) (hu : (bcells s)[j]? = some u) : (w.alloc (.cells #[.string ⟨#[]⟩, .string s.1, .string s.2] 40)).cell? ⟨w.heap.size, 0 + j, none⟩ = some u := by
  have := World.cell?_alloc_mark w #[.string ⟨#[]⟩, .string s.1, .string s.2] 40 (0, 0) j
  rw [Nat.zero_add]
  refine this.trans ?_
  rw [← hu]
  simp [bcells]
theorem Right.st {nm : ByteArray} {PP : List Pro} (h : Right nm PP) {P : Pro} (hP : P ∈ PP) {x : In} (hx : x ∈ P.code) (h3 : x.op = 3) : stQ x.quote := by
  obtain ⟨q, hq⟩ := List.mem_iff_getElem?.1 hP
  obtain ⟨K, hK⟩ := h.ins q P hq x hx
  unfold insW at hK
  rw [if_neg (by omega), if_neg (by omega), if_pos h3] at hK
  exact wrong_st hK
theorem told_ok {us : List Un} {w W' : World} {bv pv sv : Value} (h : linkF us = (0, 0)) (hb : Below w.heap.size w W') (hk : LinkOk us bv pv sv w W') : ToldL us w (.returned (.tuple #[.agg #[bv, pv, sv], .agg #[.int .i64 0, .int .i64 0]])) W' := by
  unfold ToldL
  rw [h]
  exact ⟨_, _, _, rfl, hb, fun h0 => absurd rfl h0, fun _ => hk⟩
theorem L2.done {us : List Un} {w gs bv pv sv ps ss} {W : World} (h : L2 w gs bv pv sv ps ss W) (hg : gs = defAll us us.length) (hi : (ps.map PE.pro, ss) = imgS gs us) : LinkOk us bv pv sv w (fin5 W w.heap.size (w.heap.size + 1) bv pv sv (.int .i64 0) (.int .i64 0)) := by
  obtain ⟨_, _, f3, f4⟩ := fin5_at (W := W) (by omega) h.r2 h.r3 bv pv sv (.int .i64 0) (.int .i64 0)
  have ne : ∀ {e : TypeId} {size n : Nat} {v : Value} {xs : List Value} {B : Nat}, W.ownsRow B e size v n xs → e ≠ 27 → e ≠ 30 → ∀ g, v.ownBlock = some g → g ≠ w.heap.size ∧ g ≠ w.heap.size + 1 := fun hr h1 h2 g hv => ⟨own_ne hr hv h.r2 (fun e => h1 e.symm), own_ne hr hv h.r3 (fun e => h2 e.symm)⟩
  refine ⟨ps, ss, ?_, ?_, ?_, ?_, fun p hp => ?_⟩
  · rw [← hg]
    exact own_base (own_stay h.row (fun g hv => f3 g (ne h.row (by decide) (by decide) g hv).1 (ne h.row (by decide) (by decide) g hv).2)) (by omega)
  · exact own_stay h.im.pr (fun g hv => f3 g (ne h.im.pr (by decide) (by decide) g hv).1 (ne h.im.pr (by decide) (by decide) g hv).2)
  · exact own_stay h.im.sr (fun g hv => f3 g (ne h.im.sr (by decide) (by decide) g hv).1 (ne h.im.sr (by decide) (by decide) g hv).2)
  · rw [← hg]; exact hi
  · exact (h.im.ok p hp).stay (fun b hb => f3 b (by omega) (by omega)) (fun b hb => ⟨by omega, by rw [f4]; exact hb.2.1⟩)
theorem alloc1S (w : World) (cs : Array Value) (t : TypeId) (xs : List Value) (h : xs = cs.toList) (j : Nat) (u : Value) (hu : xs[j]? = some u) : (w.alloc (.cells cs t)).cell? ⟨w.heap.size, 0 + j, none⟩ = some u := by
  have := World.cell?_alloc_mark w cs t (0, 0) j
  rw [Nat.zero_add]
  refine this.trans ?_
  subst h
  rw [← hu]
  simp
/-- Instructions of a unit so far. -/
def P1 (w : World) (nm : ByteArray) (ua : Option Addr) (un uc ub : Nat) (G0 : List Gl) (xs : List In) (K : Nat) (bv : Value) (W : World) : Prop :=
  LS w (defGs G0 (xs.take K)) (defGs G0 (xs.take K)) bv W ∧ W.heap[ub]? = some (.cells #[.string nm, .slice ua un uc] 37 (0, 0)) ∧ (defGs G0 (xs.take K)).length ≤ G0.length + K ∧ fstE (insE nm xs) 0 xs.length = fstE (insE nm xs) K (xs.length - K)
theorem P1.on {w nm ua un uc ub G0 xs K bv} {W W' : World} (h : P1 w nm ua un uc ub G0 xs K bv W) (hb : Below W.heap.size W W') : P1 w nm ua un uc ub G0 xs K bv W' :=
  ⟨h.1.on hb, (hb.block _ (Array.getElem?_eq_some_iff.1 h.2.1).1).trans h.2.1, h.2.2⟩
theorem P1.add {w nm ua un uc ub G0 xs K bv bv'} {W W' : World} {x : In} {gs : List Gl} {s : Gl} (h : P1 w nm ua un uc ub G0 xs K bv W) (hx : xs[K]? = some x) (he : defE nm x = 0) (hg : gs = defGs G0 (xs.take K)) (hd : defG gs x = gs ++ [s]) (hl : LS w (gs ++ [s]) (gs ++ [s]) bv' W') (hu : W'.heap[ub]? = some (.cells #[.string nm, .slice ua un uc] 37 (0, 0))) : P1 w nm ua un uc ub G0 xs (K + 1) bv' W' := by
  have hk := (List.getElem?_eq_some_iff.1 hx).1
  have e : defGs G0 (xs.take (K + 1)) = gs ++ [s] := by rw [defGs_next hx, ← hg, hd]
  refine ⟨by rw [e]; exact hl, hu, ?_, ?_⟩
  · rw [e, List.length_append]; have := h.2.2.1; rw [← hg] at this; simp; omega
  · rw [h.2.2.2, fstE_step hk, insE_at hx, if_pos he]
theorem P1.skip {w nm ua un uc ub G0 xs K bv} {W : World} {x : In} (h : P1 w nm ua un uc ub G0 xs K bv W) (hx : xs[K]? = some x) (he : defE nm x = 0) (hd : defG (defGs G0 (xs.take K)) x = defGs G0 (xs.take K)) : P1 w nm ua un uc ub G0 xs (K + 1) bv W := by
  have hk := (List.getElem?_eq_some_iff.1 hx).1
  refine ⟨?_, h.2.1, ?_, ?_⟩
  · rw [defGs_next hx, hd]; exact h.1
  · rw [defGs_next hx, hd]; have := h.2.2.1; omega
  · rw [h.2.2.2, fstE_step hk, insE_at hx, if_pos he]
set_option maxRecDepth 100000 in
set_option maxHeartbeats 25600000 in
theorem refLink_any (us : List Un) (aa : Option Addr) (n ca : Nat) (w : World) (hn : n = us.length) (ha : UL w.heap.size w aa us) (hac : n ≤ ca) (hn9 : n ≤ 9223372036854775807) (hma : ∀ u ∈ us, u.2.length ≤ 9223372036854775807) :
    Calls Tryd.prog 8 #[.slice aa n ca] w (ToldL us w) := by
  have s1 : (w.alloc (.cells #[.slice none 0 0, .slice none 0 0, .slice none 0 0] 27)).heap.size = w.heap.size + 1 := by simp
  have a1 := World.alloc_heap_new w (.cells #[.slice none 0 0, .slice none 0 0, .slice none 0 0] 27)
  have a2 := World.alloc_heap_new (w.alloc (.cells #[.slice none 0 0, .slice none 0 0, .slice none 0 0] 27)) (.cells #[.int .i64 0, .int .i64 0] 30)
  rw [s1] at a2
  have R2 : Hid (((w.alloc (.cells #[.slice none 0 0, .slice none 0 0, .slice none 0 0] 27)).alloc (.cells #[.int .i64 0, .int .i64 0] 30)).heap[w.heap.size]? = some (.cells #[.slice none 0 0, .slice none 0 0, .slice none 0 0] 27 (0, 0))) := by
    show ((w.alloc (.cells #[.slice none 0 0, .slice none 0 0, .slice none 0 0] 27)).alloc (.cells #[.int .i64 0, .int .i64 0] 30)).heap[w.heap.size]? = some (.cells #[.slice none 0 0, .slice none 0 0, .slice none 0 0] 27 (0, 0))
    rw [Below.heap_alloc _ _ _ (by rw [s1]; omega)]
    exact a1
  have R3 := hidd a2
  have BB := hidd (((Below.refl w.heap.size w).alloc (Nat.le_refl _) (.cells #[.slice none 0 0, .slice none 0 0, .slice none 0 0] 27)).alloc (by rw [s1]; omega) (.cells #[.int .i64 0, .int .i64 0] 30))
  have LS0 := hidd (LS.start (w := w))
  have HA := hidd ha
  have HN := hidd hn
  have HMA := hidd hma
  obtain ⟨lf, hlf⟩ : ∃ l, l = linkF us := ⟨_, rfl⟩
  have hl2 := hlf
  unfold linkF at hl2
  rw [← hn] at hl2
  have HLF := hidd hlf.symm
  have HL2 := hidd hl2
  clear a1 a2 s1 ha hn hma hlf hl2
  go_enter Tryd.func8, Tryd.ntmps8
  by_cases h40 : 40 < n
  · have hl := HL2.out
    rw [if_pos h40] at hl
    have HL3 := hidd (HLF.out.trans hl)
    have d0 : decide ((n : Int) > 40) = true := by simp; omega
    have d0' : decide (40 < (n : Int)) = true := by simp; omega
    clear hl h40
    go_upto_region 2 with fail
    generalize (w.alloc (.cells #[.slice none 0 0, .slice none 0 0, .slice none 0 0] 27)).alloc (.cells #[.int .i64 0, .int .i64 0] 30) = V0 at R2 R3 BB ⊢
    obtain ⟨N, hN⟩ : ∃ N, N = w.heap.size := ⟨_, rfl⟩
    have HNN := hidd hN
    rw [← hN]
    clear hN
    go_wp2_with fail
    refine (bad16_any _ _ _).mono ?_
    rintro e WB ⟨rfl, hbB⟩
    have L1 := hidd ((hbB.block _ (Array.getElem?_eq_some_iff.1 R2.out).1).trans R2.out)
    have L2 := hidd ((hbB.block _ (Array.getElem?_eq_some_iff.1 R3.out).1).trans R3.out)
    have LB := hidd (Below.trans BB.out (hbB.mono (Below.size BB.out)))
    clear hbB
    rw [← HNN.out] at L1 L2
    have FA := hidd (fin5_at (W := WB) (by omega) L1.out L2.out (.slice none 0 0) (.slice none 0 0) (.slice none 0 0) (.int .i64 5) (.int .i64 0))
    have FB := hidd (fin5_below LB.out (N2 := N) (N3 := N + 1) (by rw [HNN.out]; exact Nat.le_refl _) (by rw [HNN.out]; omega) (.slice none 0 0) (.slice none 0 0) (.slice none 0 0) (.int .i64 5) (.int .i64 0))
    have k20 : WB.cell? ⟨N, 0, none⟩ = some (.slice none 0 0) := (cellO L1.out).trans rfl
    have k21 : WB.cell? ⟨N, 1, none⟩ = some (.slice none 0 0) := (cellO L1.out).trans rfl
    have k22 : WB.cell? ⟨N, 2, none⟩ = some (.slice none 0 0) := (cellO L1.out).trans rfl
    have k30 : WB.cell? ⟨N + 1, 0, none⟩ = some (.int .i64 0) := (cellO L2.out).trans rfl
    have k31 : WB.cell? ⟨N + 1, 1, none⟩ = some (.int .i64 0) := (cellO L2.out).trans rfl
    have kz2 : ∀ q, WB.frozen? ⟨N, q, none⟩ = false := fun q => looseO L1.out
    have kz3 : ∀ q, WB.frozen? ⟨N + 1, q, none⟩ = false := fun q => looseO L2.out
    go_wp2_with fail
    exact bodyPost_ret (ret8 FA.out.1 FA.out.2.1 rfl rfl) rfl (told_bad HL3.out (by decide) FB.out)
  have d0 : decide ((n : Int) > 40) = false := by simp; omega
  have d0' : decide (40 < (n : Int)) = false := by simp; omega
  have hl := HL2.out
  rw [if_neg h40] at hl
  have HL3 := hidd hl
  have hn40 : n ≤ 40 := by omega
  have hmm := @run_makeMap Tryd.prog
  clear hl h40 HL2 R2 R3 BB
  go_upto_region 6 with fail
  clear hmm d0 d0'
  generalize (((w.alloc (.cells #[.slice none 0 0, .slice none 0 0, .slice none 0 0] 27)).alloc (.cells #[.int .i64 0, .int .i64 0] 30)).alloc (.cells #[.slice none 0 0, .slice none 0 0, .slice none 0 0] 27)).alloc (.map #[] 0) = V at LS0 ⊢
  obtain ⟨N, hN⟩ : ∃ N, N = w.heap.size := ⟨_, rfl⟩
  have HNN := hidd hN
  try rw [← hN]
  obtain ⟨MB, hMB⟩ : ∃ v, v = N + 1 + 1 + 1 := ⟨_, rfl⟩
  obtain ⟨IB, hIB⟩ : ∃ v, v = N + 1 + 1 := ⟨_, rfl⟩
  rw [← hMB, ← hIB]
  have HMB := hidd (show MB = w.heap.size + 3 by omega)
  have HIB := hidd (show IB = w.heap.size + 2 by omega)
  clear hN hMB hIB
  go_wp2_with fail
  go_loopw [40] (fun i wr => ∃ (j : Nat) (bv : Value), j ≤ n ∧ i = .int .i64 j ∧ Hid (LS w (defAll us j) (defAll us j) bv wr ∧ (defAll us j).length ≤ j * 3000000 ∧ fstF (unitE us) 0 n = fstF (unitE us) j (n - j))) (fun i _ => n - (intOf i).toNat)
  case atStart => exact ⟨0, _, Nat.zero_le _, rfl, LS0.out, by simp [defAll, allI, defGs], rfl⟩
  case round =>
  clear LS0
  obtain ⟨j, bv, hj, rfl, HJ⟩ := hrel
  by_cases hjl : j < n
  · as_aux_lemma =>
      obtain ⟨u, hu⟩ : ∃ u, us[j]? = some u := ⟨_, List.getElem?_eq_getElem (by rw [← HN.out]; exact hjl)⟩
      have hfs := fstF_step (er := unitE us) hjl
      rw [← HJ.out.2.2, unitE_at hu] at hfs
      have HFS := hidd hfs
      have hdn := defAll_next hu
      have HDN := hidd hdn
      obtain ⟨ab, ao, rfl, hab, hall⟩ := HA.out.at hu
      have HALL := hidd hall
      obtain ⟨ua, uc, s0, s1, huc, hunm, hupl⟩ := hall j u hu
      have s0' := (HJ.out.1.bl.cell (p := ⟨ab, ao + j * 2, none⟩) hab).trans s0
      have s1' := (HJ.out.1.bl.cell (p := ⟨ab, ao + j * 2 + 1, none⟩) hab).trans s1
      obtain ⟨nm, hnm⟩ : ∃ v, v = u.1 := ⟨_, rfl⟩
      obtain ⟨un, hun⟩ : ∃ v, v = u.2.length := ⟨_, rfl⟩
      rw [← hnm] at s0' hunm
      rw [← hun] at s1' huc
      have HNM := hidd hnm
      have HUN := hidd hun
      have HU := hidd hu
      have HUPL := hidd hupl
      have bx := (Below.refl wr.heap.size wr).alloc (Nat.le_refl _) (.cells #[.string nm, .slice ua un uc] 37)
      have LX := hidd (HJ.out.1.on bx)
      have UBX := hidd (World.alloc_heap_new wr (.cells #[.string nm, .slice ua un uc] 37))
      have HLE := hidd HJ.out.2.1
      have hun9 : un ≤ 9223372036854775807 := by rw [hun]; exact HMA.out u (List.mem_of_getElem? hu)
      clear hfs hdn hall s0 s1 hupl hnm hun hu bx HJ
      go_upto_region 9 with fail
      clear s0' s1'
      generalize wr.alloc (.cells #[.string nm, .slice ua un uc] 37) = V1 at LX UBX ⊢
      obtain ⟨ub, hub⟩ : ∃ u, u = wr.heap.size := ⟨_, rfl⟩
      rw [← hub] at UBX ⊢
      clear hub
      have hul := (Array.getElem?_eq_some_iff.1 UBX.out).1
      have y0 : V1.cell? ⟨ub, 0, none⟩ = some (.string nm) := (cellO UBX.out).trans rfl
      have y1 : V1.cell? ⟨ub, 1, none⟩ = some (.slice ua un uc) := (cellO UBX.out).trans rfl
      have WU := hidd (refWrongU_any nm u.2 ua un uc V1 HUN.out hunm ((HUPL.out.below LX.out.bl).mono LX.out.bl.size) huc)
      rw [HNM.out] at WU
      obtain ⟨y, hy⟩ : ∃ y, y = wrongU u.1 u.2 := ⟨_, rfl⟩
      rw [← hy, ← HNM.out] at WU
      have HY := hidd hy
      clear hy
      go_wp2_with fail
      refine WU.out.mono ?_
      rintro e W2 ⟨rfl, hb2⟩
      have L2S := hidd (LX.out.on hb2)
      have UB2 := hidd ((hb2.block _ hul).trans UBX.out)
      clear hb2 y0 y1 WU LX UBX hul
      by_cases hy0 : y = 0
      · have hdu : defU us j u = if ∃ v ∈ us.take j, v.1 = u.1 then 7 else fstE (insE u.1 (u.2.flatMap Pro.code)) 0 (u.2.flatMap Pro.code).length := by
          unfold defU
          rw [if_pos (by rw [← HY.out]; exact hy0)]
        have hxl := right_len (u := u) (by rw [← HY.out]; exact hy0)
        subst hy0
        have HDU := hidd hdu
        clear hdu
        have hus2 : us.length = n := HN.out.symm
        clear hus2
        go_wp2_with fail
        go_loopw [59] (fun i wz => ∃ k : Nat, k ≤ j ∧ i = .int .i64 k ∧ Hid (LS w (defAll us j) (defAll us j) bv wz ∧ wz.heap[ub]? = some (.cells #[.string nm, .slice ua un uc] 37 (0, 0)) ∧ ∀ v ∈ us.take k, v.1 ≠ nm)) (fun i _ => j - (intOf i).toNat)
        case atStart => exact ⟨0, Nat.zero_le _, rfl, L2S.out, UB2.out, by simp⟩
        case round =>
        obtain ⟨k, hk, rfl, HK⟩ := hrel
        by_cases hkl : k < j
        · obtain ⟨o, ho⟩ : ∃ o, us[k]? = some o := ⟨_, List.getElem?_eq_getElem (by rw [← HN.out]; omega)⟩
          obtain ⟨oa, oc, t0, t1, _, _, _⟩ := HALL.out k o ho
          have t0' := (HK.out.1.bl.cell (p := ⟨ab, ao + k * 2, none⟩) hab).trans t0
          have t1' := (HK.out.1.bl.cell (p := ⟨ab, ao + k * 2 + 1, none⟩) hab).trans t1
          obtain ⟨on, hon⟩ : ∃ v, v = o.2.length := ⟨_, rfl⟩
          rw [← hon] at t1'
          have bx := (Below.refl wr.heap.size wr).alloc (Nat.le_refl _) (.cells #[.string o.1, .slice oa on oc] 37)
          have LK := hidd (HK.out.1.on bx)
          have UBK := hidd ((bx.block _ (Array.getElem?_eq_some_iff.1 HK.out.2.1).1).trans HK.out.2.1)
          have HNE := hidd HK.out.2.2
          have q0 : (wr.alloc (.cells #[.string o.1, .slice oa on oc] 37)).cell? ⟨wr.heap.size, 0, none⟩ = some (.string o.1) := (cellO (World.alloc_heap_new wr _)).trans rfl
          have htk : us.take (k + 1) = us.take k ++ [o] := by rw [List.take_add_one, ho]; rfl
          have HTK := hidd htk
          have hmem : o ∈ us.take j := by
            refine List.mem_of_getElem? (i := k) ?_
            rw [List.getElem?_take, if_pos hkl]
            exact ho
          have HMEM := hidd hmem
          clear t0 t1 ho hon bx HK htk hmem
          go_upto_region 15 with fail
          clear t0' t1'
          generalize wr.alloc (.cells #[.string o.1, .slice oa on oc] 37) = V3 at LK UBK q0 ⊢
          generalize wr.heap.size = ob at q0 ⊢
          have y0 : V3.cell? ⟨ub, 0, none⟩ = some (.string nm) := (cellO UBK.out).trans rfl
          by_cases hnm2 : o.1 = nm
          · have hl := HL3.out
            have hd7 : defU us j u = 7 := by rw [HDU.out, if_pos ⟨o, HMEM.out, by rw [hnm2]; exact HNM.out⟩]
            have hf := HFS.out
            rw [hd7, if_neg (by decide)] at hf
            rw [hf, if_neg (by simp)] at hl
            have HL4 := hidd (HLF.out.trans hl)
            rw [hnm2] at q0
            clear hnm2 hl hf hd7
            go_wp2_with fail
            refine (bad16_any _ _ _).mono ?_
            rintro e WB ⟨rfl, hbB⟩
            have L1 := hidd ((hbB.block _ (Array.getElem?_eq_some_iff.1 LK.out.r2).1).trans LK.out.r2)
            have L2 := hidd ((hbB.block _ (Array.getElem?_eq_some_iff.1 LK.out.r3).1).trans LK.out.r3)
            have LB := hidd (Below.trans LK.out.bl (hbB.mono (Below.size LK.out.bl)))
            clear hbB
            rw [← HNN.out] at L1 L2
            have FA := hidd (fin5_at (W := WB) (by omega) L1.out L2.out (.slice none 0 0) (.slice none 0 0) (.slice none 0 0) (.int .i64 7) (.int .i64 j))
            have FB := hidd (fin5_below LB.out (N2 := N) (N3 := N + 1) (by rw [HNN.out]; exact Nat.le_refl _) (by rw [HNN.out]; omega) (.slice none 0 0) (.slice none 0 0) (.slice none 0 0) (.int .i64 7) (.int .i64 j))
            have k20 : WB.cell? ⟨N, 0, none⟩ = some (.slice none 0 0) := (cellO L1.out).trans rfl
            have k21 : WB.cell? ⟨N, 1, none⟩ = some (.slice none 0 0) := (cellO L1.out).trans rfl
            have k22 : WB.cell? ⟨N, 2, none⟩ = some (.slice none 0 0) := (cellO L1.out).trans rfl
            have k30 : WB.cell? ⟨N + 1, 0, none⟩ = some (.int .i64 0) := (cellO L2.out).trans rfl
            have k31 : WB.cell? ⟨N + 1, 1, none⟩ = some (.int .i64 0) := (cellO L2.out).trans rfl
            have kz2 : ∀ q, WB.frozen? ⟨N, q, none⟩ = false := fun q => looseO L1.out
            have kz3 : ∀ q, WB.frozen? ⟨N + 1, q, none⟩ = false := fun q => looseO L2.out
            go_wp2_with fail
            exact bodyPost_ret (ret8 FA.out.1 FA.out.2.1 rfl rfl) rfl (told_bad HL4.out (by decide) FB.out)
          · have hq : (o.1.toList == nm.toList) = false := beqS_ne hnm2
            have HN2 := hidd hnm2
            clear hnm2
            go_wp2_with fail
            go_roundw
            case rel => exact ⟨k + 1, by omega, by go_num, LK.out, UBK.out, fun v hv => by
              rw [HTK.out] at hv
              rcases List.mem_append.1 hv with hv | hv
              · exact HNE.out v hv
              · simp at hv; rw [hv]; exact HN2.out⟩
            case measure => simp [intOf]; omega
        obtain rfl : k = j := by omega
        have hne7 : ¬ ∃ v ∈ us.take k, v.1 = u.1 := fun ⟨v, hv, he⟩ => HK.out.2.2 v hv (he.trans HNM.out.symm)
        have hdu2 := HDU.out
        rw [if_neg hne7] at hdu2
        obtain ⟨xs, hxs⟩ : ∃ l, l = u.2.flatMap Pro.code := ⟨_, rfl⟩
        rw [← hxs, ← HNM.out] at hdu2
        rw [← hxs] at hxl HDN
        have HDU2 := hidd hdu2
        have HXS := hidd hxs
        obtain ⟨G0, hG0⟩ : ∃ g, g = defAll us k := ⟨_, rfl⟩
        rw [← hG0] at HDN HLE
        have P0 : Hid (P1 w nm ua un uc ub G0 xs 0 bv wr) := by
          refine ⟨?_, HK.out.2.1, by simp [defGs], rfl⟩
          rw [hG0]
          exact HK.out.1
        have HG0 := hidd hG0
        have y1 : wr.cell? ⟨ub, 1, none⟩ = some (.slice ua un uc) := (cellO HK.out.2.1).trans rfl
        clear hne7 hdu2 hxs hG0 HK HDU L2S UB2
        go_wp2_with fail
        clear y1
        go_loopw [77] (fun i wz => ∃ (p : Nat) (bv : Value), p ≤ un ∧ i = .int .i64 p ∧ Hid (P1 w nm ua un uc ub G0 xs ((u.2.take p).flatMap Pro.code).length bv wz)) (fun i _ => un - (intOf i).toNat)
        case atStart => exact ⟨0, bv, Nat.zero_le _, rfl, P0.out⟩
        case round =>
        clear P0
        obtain ⟨p, bv, hp, rfl, HP1⟩ := hrel
        by_cases hpl : p < un
        · obtain ⟨P, hP⟩ : ∃ P, u.2[p]? = some P := ⟨_, List.getElem?_eq_getElem (by rw [← HUN.out]; exact hpl)⟩
          have HPP := hidd hP
          obtain ⟨pb, po, rfl, hpb, hallp⟩ := HUPL.out.at hP
          obtain ⟨ca, cc, s0, s1, hcc, hcl⟩ := hallp p _ hP
          have s0' := (HP1.out.1.bl.cell (p := ⟨pb, po + p * 2, none⟩) hpb).trans s0
          have s1' := (HP1.out.1.bl.cell (p := ⟨pb, po + p * 2 + 1, none⟩) hpb).trans s1
          obtain ⟨cn, hcn⟩ : ∃ c, c = P.code.length := ⟨_, rfl⟩
          rw [← hcn] at s1' hcc
          have HCN := hidd hcn
          have HCL := hidd hcl
          obtain ⟨K0, hK0⟩ : ∃ v, v = ((u.2.take p).flatMap Pro.code).length := ⟨_, rfl⟩
          have HK0 := hidd hK0
          rw [← hK0] at HP1
          have hK0x : K0 + cn ≤ xs.length := by
            have := flat_next hP
            rw [hK0, hcn, ← this, HXS.out]
            exact flat_le _ _
          have bx := (Below.refl wr.heap.size wr).alloc (Nat.le_refl _) (.cells #[.int .i64 P.args, .slice ca cn cc] 46)
          have HP2 := hidd (HP1.out.on bx)
          have NB := World.alloc_heap_new wr (.cells #[.int .i64 P.args, .slice ca cn cc] 46)
          have q1 : (wr.alloc (.cells #[.int .i64 P.args, .slice ca cn cc] 46)).cell? ⟨wr.heap.size, 1, none⟩ = some (.slice ca cn cc) := (cellO NB).trans rfl
          clear hP hallp s0 s1 hcl hcn hK0 bx NB HP1
          go_upto_region 21 with fail
          clear s0' s1'
          generalize wr.alloc (.cells #[.int .i64 P.args, .slice ca cn cc] 46) = V4 at HP2 q1 ⊢
          generalize wr.heap.size = vb at q1 ⊢
          go_wp2_with fail
          clear q1
          go_loopw [84] (fun i wz => ∃ (q : Nat) (bv : Value), q ≤ cn ∧ i = .int .i64 q ∧ Hid (P1 w nm (some ⟨pb, po, none⟩) un uc ub G0 xs (K0 + q) bv wz)) (fun i _ => cn - (intOf i).toNat)
          case atStart => exact ⟨0, bv, Nat.zero_le _, rfl, HP2.out⟩
          case round =>
          clear HP2
          obtain ⟨q, bv, hq, rfl, HQ⟩ := hrel
          by_cases hql : q < cn
          · obtain ⟨x, hx⟩ : ∃ x, P.code[q]? = some x := ⟨_, List.getElem?_eq_getElem (by rw [← HCN.out]; exact hql)⟩
            have hxk : xs[K0 + q]? = some x := by rw [HXS.out, HK0.out]; exact flat_idx HPP.out hx
            have HXK := hidd hxk
            obtain ⟨ib, io, rfl, hib, hins⟩ : ∃ b o, ca = some ⟨b, o, none⟩ ∧ b < w.heap.size ∧ ∀ i x, P.code[i]? = some x → ∃ qa qc, IL w.heap.size w b (o + i * 11) x qa qc := by
              rcases HCL.out with h | h
              · rw [h] at hx; simp at hx
              · exact h
            obtain ⟨xa, xc, hil⟩ := hins q x hx
            have hilz := hil.below hib HQ.out.1.bl
            have a0 := hilz.c0
            have a1 := hilz.c1
            have a2 := hilz.c2
            have a3 := hilz.c3
            have a4 := hilz.c4
            have a5 := hilz.c5
            have a6 := hilz.c6
            have a7 := hilz.c7
            have a8 := hilz.c8
            have a9 := hilz.c9
            have a10 := hilz.c10
            have HSM : Hid (smG (x.lib, x.own)) := ⟨hil.l3, hil.l4⟩
            have bx := (Below.refl wr.heap.size wr).alloc (Nat.le_refl _) (.cells #[.int .i64 x.op, .int .i64 x.a, .int .i64 x.n, .string x.lib, .string x.own, .int .i64 x.quote.kind, .int .i64 x.quote.n, .string x.quote.name, .int .i64 x.quote.stamp, .int .i64 x.quote.lib, .slice xa x.quote.kids.length xc] 51)
            have HQ2 := hidd (HQ.out.on bx)
            have XBX := hidd (World.alloc_heap_new wr (.cells #[.int .i64 x.op, .int .i64 x.a, .int .i64 x.n, .string x.lib, .string x.own, .int .i64 x.quote.kind, .int .i64 x.quote.n, .string x.quote.name, .int .i64 x.quote.stamp, .int .i64 x.quote.lib, .slice xa x.quote.kids.length xc] 51))
            clear hx hxk hil hins hilz bx HQ
            go_upto_region 24 with fail
            clear a0 a1 a2 a3 a4 a5 a6 a7 a8 a9 a10
            generalize wr.alloc (.cells #[.int .i64 x.op, .int .i64 x.a, .int .i64 x.n, .string x.lib, .string x.own, .int .i64 x.quote.kind, .int .i64 x.quote.n, .string x.quote.name, .int .i64 x.quote.stamp, .int .i64 x.quote.lib, .slice xa x.quote.kids.length xc] 51) = V5 at HQ2 XBX ⊢
            generalize wr.heap.size = xb at XBX ⊢
            have z0 : V5.cell? ⟨xb, 0, none⟩ = some (.int .i64 x.op) := (cellO XBX.out).trans rfl
            by_cases h13 : x.op = 13
            · rw [h13] at z0
              have z3 : V5.cell? ⟨xb, 3, none⟩ = some (.string x.lib) := (cellO XBX.out).trans rfl
              have z4 : V5.cell? ⟨xb, 4, none⟩ = some (.string x.own) := (cellO XBX.out).trans rfl
              have y0 : V5.cell? ⟨ub, 0, none⟩ = some (.string nm) := (cellO HQ2.out.2.1).trans rfl
              by_cases hlib : x.lib = nm
              · rw [hlib] at z3
                have hsm : smG (nm, x.own) := by have := HSM.out; rw [hlib] at this; exact this
                obtain ⟨xo, hxo⟩ : ∃ v, v = x.own := ⟨_, rfl⟩
                rw [← hxo] at z4 hsm
                have ds : ∀ g, defG g x = addG g (nm, xo) := fun g => by unfold defG; rw [if_pos h13, hlib, hxo]
                have dz : defE nm x = 0 := by unfold defE; rw [if_pos h13, if_pos hlib]
                obtain ⟨gs, hgs⟩ : ∃ g, g = defGs G0 (xs.take (K0 + q)) := ⟨_, rfl⟩
                have HGS := hidd hgs
                have HDS := hidd ds
                have HDZ := hidd dz
                have HSM2 := hidd hsm
                have bs := (Below.refl V5.heap.size V5).alloc (Nat.le_refl _) (.cells #[.string ⟨#[]⟩, .string nm, .string xo] 40)
                have HQ3 := hidd (HQ2.out.on bs)
                have SBX := hidd (World.alloc_heap_new V5 (.cells #[.string ⟨#[]⟩, .string nm, .string xo] 40))
                clear hsm ds dz hgs bs HQ2 hlib hxo h13 XBX
                go_upto_region 28 with fail
                clear z0 z3 z4 y0
                generalize V5.alloc (.cells #[.string ⟨#[]⟩, .string nm, .string xo] 40) = V6 at HQ3 SBX ⊢
                generalize V5.heap.size = sb at SBX ⊢
                have b0 : V6.cell? ⟨sb, 0, none⟩ = some (.string ⟨#[]⟩) := (cellO SBX.out).trans rfl
                have b1 : V6.cell? ⟨sb, 1, none⟩ = some (.string nm) := (cellO SBX.out).trans rfl
                have b2 : V6.cell? ⟨sb, 2, none⟩ = some (.string xo) := (cellO SBX.out).trans rfl
                have lk := HQ3.out.1.mp.look (nm, xo) HSM2.out
                rw [← HMB.out, ← HGS.out] at lk
                cases hi : idxG gs (nm, xo) with
                | some i =>
                  rw [hi] at lk
                  simp only [Option.getD_some, Option.isSome_some] at lk
                  have HP3 := hidd (HQ3.out.skip HXK.out HDZ.out (by rw [HDS.out, ← HGS.out]; unfold addG; rw [if_pos (by rw [hi]; rfl)]))
                  clear hi
                  go_wp2_with fail
                  go_roundw
                  case rel => exact ⟨q + 1, bv, by omega, by go_num, by rw [← Nat.add_assoc]; exact HP3.out⟩
                  case measure => simp [intOf]; omega
                | none =>
                  rw [hi] at lk
                  simp only [Option.getD_none, Option.isSome_none] at lk
                  have hls : LS w gs gs bv V6 := by rw [HGS.out]; exact HQ3.out.1
                  have hlen : gs.length ≤ 200000000 := by
                    have h1 := HQ3.out.2.2.1
                    rw [← HGS.out] at h1
                    have h2 := HLE.out
                    omega
                  obtain ⟨va, vc, rfl, hvc⟩ := own_slice hls.row
                  obtain ⟨W7, r7, ls7, g7⟩ := hls.put (by omega) (nm, xo) HSM2.out hi
                  rw [← HMB.out] at r7 g7
                  have him6 : V6.cell? ⟨IB, 0, none⟩ = some (.slice va gs.length vc) := by rw [HIB.out]; exact (cellO hls.im).trans rfl
                  have him7 : W7.cell? ⟨IB, 0, none⟩ = some (.slice va gs.length vc) := by rw [HIB.out]; exact (cellO ls7.im).trans rfl
                  have hsl := (Array.getElem?_eq_some_iff.1 SBX.out).1
                  have hsbM : sb ≠ MB := fun e => by
                    obtain ⟨D, ⟨es, cl, hb, _⟩, _⟩ := hls.mp
                    rw [← HMB.out, ← e, SBX.out] at hb
                    cases hb
                  have hubM : ub ≠ MB := fun e => by
                    obtain ⟨D, ⟨es, cl, hb, _⟩, _⟩ := hls.mp
                    rw [← HMB.out, ← e, HQ3.out.2.1] at hb
                    cases hb
                  have SB7 : W7.heap[sb]? = some (.cells #[.string ⟨#[]⟩, .string nm, .string xo] 40 (0, 0)) := (g7.block _ hsl (by simpa using hsbM)).trans SBX.out
                  have UB7 := hidd ((g7.block _ (Array.getElem?_eq_some_iff.1 HQ3.out.2.1).1 (by simpa using hubM)).trans HQ3.out.2.1)
                  have c0 : W7.cell? ⟨sb, 0, none⟩ = some (.string ⟨#[]⟩) := (cellO SB7).trans rfl
                  have c1 : W7.cell? ⟨sb, 1, none⟩ = some (.string nm) := (cellO SB7).trans rfl
                  have c2 : W7.cell? ⟨sb, 2, none⟩ = some (.string xo) := (cellO SB7).trans rfl
                  obtain ⟨gl, hgl⟩ : ∃ v, v = gs.length := ⟨_, rfl⟩
                  rw [← hgl] at him6 him7 r7 hlen hvc
                  have HGL := hidd hgl
                  have HLS7 := hidd ls7
                  have HADD : Hid (defG gs x = gs ++ [(nm, xo)]) := by
                    show defG gs x = gs ++ [(nm, xo)]
                    rw [HDS.out]; unfold addG; rw [if_neg (by rw [hi]; simp)]
                  obtain ⟨i0, hinf, hz0, hz1, hz2⟩ := info_parts infoBind
                  have OWN : Hid ((W7.alloc (.cells #[.string ⟨#[]⟩, .string nm, .string xo] 40)).ownsRow (w.heap.size + 4) 40 3 (.slice va gl vc) gl (gs.flatMap bcells)) := by
                    have := own_belowS ls7.row ((Below.refl W7.heap.size W7).alloc (Nat.le_refl _) (.cells #[.string ⟨#[]⟩, .string nm, .string xo] 40))
                    rw [← hgl] at this
                    exact this
                  have SRC := hidd (src_bind W7 (nm, xo))
                  have BAS : w.heap.size + 4 ≤ (W7.alloc (.cells #[.string ⟨#[]⟩, .string nm, .string xo] 40)).heap.size := by have := ls7.ge; simp; omega
                  clear hls hi SB7 hgl ls7 g7 hsl hsbM hubM
                  go_wp2_with (at_builtin; refine wpList_rowS rfl _ _ 23 rfl (w.heap.size + 4) 40 i0 _ 3 48 Tryd.underlying23 hinf hz0 hz1 hz2 rfl (by decide) (.slice va gl vc) gl (gs.flatMap bcells) rfl OWN.out (some ⟨W7.heap.size, 0, none⟩) 1 1 (bcells (nm, xo)) rfl rfl (Or.inr ⟨_, 0, rfl, SRC.out⟩) (bcells_one _) (by unfold maxLen; omega) (by omega) BAS ?_)
                  intro v8 W8 hown8 hg8 hw8
                  rw [HGL.out] at hown8 hg8 hw8
                  obtain ⟨ls8, him8, kp8⟩ := HLS7.out.push (nm, xo) hown8 hg8 hw8
                  obtain ⟨va8, vc8, rfl, hvc8⟩ := own_slice hown8
                  have hnu : (Value.slice va gs.length vc).ownBlock ≠ some ub := fun e => own_ne HLS7.out.row e UB7.out (by decide) rfl
                  have hub8 := (kp8 ub (Array.getElem?_eq_some_iff.1 UB7.out).1 (fun e => by
                    have h1 := HLS7.out.im
                    rw [← e, UB7.out] at h1
                    cases h1) hnu).trans UB7.out
                  have HP8 := hidd (HQ3.out.add (gs := gs) (s := (nm, xo)) HXK.out HDZ.out HGS.out HADD.out ls8 hub8)
                  rw [← HIB.out] at HP8 him8
                  have m0 : W8.cell? ⟨IB, 0, none⟩ = some (.slice va gs.length vc) := (cellO him8).trans rfl
                  have mz : ∀ q, W8.frozen? ⟨IB, q, none⟩ = false := fun q => looseO him8
                  clear hown8 hg8 hw8 ls8 him8 kp8 hub8 hnu OWN SRC BAS
                  try simp only [Act.put, List.setIfInBounds_toArray, List.set_cons_succ, List.set_cons_zero]
                  go_wp2_with fail
                  go_roundw
                  case rel => exact ⟨q + 1, _, by omega, by go_num, by rw [← Nat.add_assoc]; exact HP8.out⟩
                  case measure => simp [intOf]; omega
              · have hq1 : (x.lib.toList == nm.toList) = false := beqS_ne hlib
                have hq2 : (x.lib.toList != nm.toList) = true := by simp only [bne, hq1, Bool.not_false]
                have hl := HL3.out
                have hd10 : defU us k u = 10 := by
                  rw [HDU2.out, HQ2.out.2.2.2, fstE_step (List.getElem?_eq_some_iff.1 HXK.out).1, insE_at HXK.out]
                  have : defE nm x = 10 := by unfold defE; rw [if_pos h13, if_neg hlib]
                  rw [this, if_neg (by decide)]
                have hf := HFS.out
                rw [hd10, if_neg (by decide)] at hf
                rw [hf, if_neg (by simp)] at hl
                have HL4 := hidd (HLF.out.trans hl)
                clear hl hf hd10 hlib h13
                go_wp2_with fail
                refine (bad16_any _ _ _).mono ?_
                rintro e WB ⟨rfl, hbB⟩
                have L1 := hidd ((hbB.block _ (Array.getElem?_eq_some_iff.1 HQ2.out.1.r2).1).trans HQ2.out.1.r2)
                have L2 := hidd ((hbB.block _ (Array.getElem?_eq_some_iff.1 HQ2.out.1.r3).1).trans HQ2.out.1.r3)
                have LB := hidd (Below.trans HQ2.out.1.bl (hbB.mono (Below.size HQ2.out.1.bl)))
                clear hbB
                rw [← HNN.out] at L1 L2
                have FA := hidd (fin5_at (W := WB) (by omega) L1.out L2.out (.slice none 0 0) (.slice none 0 0) (.slice none 0 0) (.int .i64 10) (.int .i64 k))
                have FB := hidd (fin5_below LB.out (N2 := N) (N3 := N + 1) (by rw [HNN.out]; exact Nat.le_refl _) (by rw [HNN.out]; omega) (.slice none 0 0) (.slice none 0 0) (.slice none 0 0) (.int .i64 10) (.int .i64 k))
                have k20 : WB.cell? ⟨N, 0, none⟩ = some (.slice none 0 0) := (cellO L1.out).trans rfl
                have k21 : WB.cell? ⟨N, 1, none⟩ = some (.slice none 0 0) := (cellO L1.out).trans rfl
                have k22 : WB.cell? ⟨N, 2, none⟩ = some (.slice none 0 0) := (cellO L1.out).trans rfl
                have k30 : WB.cell? ⟨N + 1, 0, none⟩ = some (.int .i64 0) := (cellO L2.out).trans rfl
                have k31 : WB.cell? ⟨N + 1, 1, none⟩ = some (.int .i64 0) := (cellO L2.out).trans rfl
                have kz2 : ∀ q, WB.frozen? ⟨N, q, none⟩ = false := fun q => looseO L1.out
                have kz3 : ∀ q, WB.frozen? ⟨N + 1, q, none⟩ = false := fun q => looseO L2.out
                go_wp2_with fail
                exact bodyPost_ret (ret8 FA.out.1 FA.out.2.1 rfl rfl) rfl (told_bad HL4.out (by decide) FB.out)
            · have hne : (x.op != 13) = true := by simpa using h13
              have HP3 := hidd (HQ2.out.skip HXK.out (by unfold defE; rw [if_neg h13]) (by unfold defG; rw [if_neg h13]))
              clear h13
              go_wp2_with fail
              go_roundw
              case rel => exact ⟨q + 1, bv, by omega, by go_num, by rw [← Nat.add_assoc]; exact HP3.out⟩
              case measure => simp [intOf]; omega
          obtain rfl : q = cn := by omega
          have hKE : K0 + q = ((u.2.take (p + 1)).flatMap Pro.code).length := by rw [flat_next HPP.out, HK0.out, HCN.out]
          have HKE := hidd hKE
          clear hKE
          go_wp2_with fail
          go_roundw
          case rel => exact ⟨p + 1, bv, by omega, by go_num, by rw [← HKE.out]; exact HQ.out⟩
          case measure => simp [intOf]; omega
        obtain rfl : p = un := by omega
        have hpx := HP1.out
        rw [List.take_of_length_le (by rw [HUN.out]; exact Nat.le_refl _), ← HXS.out] at hpx
        obtain ⟨e1, e2, e3, e4⟩ := hpx
        rw [List.take_length] at e1 e3
        rw [Nat.sub_self, fstE] at e4
        have hf := HFS.out
        rw [HDU2.out, e4, if_pos rfl] at hf
        rw [← HDN.out] at e1 e3
        have hle : (defAll us (k + 1)).length ≤ (k + 1) * 3000000 := by have := HLE.out; omega
        have HNX := hidd (And.intro e1 (And.intro hle hf))
        clear e1 e2 e3 e4 hf hle HP1
        go_wp2_with fail
        go_roundw
        case rel => exact ⟨k + 1, bv, by omega, by go_num, HNX.out.1, HNX.out.2.1, HNX.out.2.2⟩
        case measure => simp [intOf]; omega
      · have hl := HL3.out
        have hdy : defU us j u = y := by
          unfold defU
          rw [if_neg (by rw [← HY.out]; exact hy0), ← HY.out]
        have hf := HFS.out
        rw [hdy, if_neg hy0] at hf
        rw [hf, if_neg hy0] at hl
        have HL4 := hidd (HLF.out.trans hl)
        have d1 : (y != 0) = true := by simpa using hy0
        have HY0 := hidd hy0
        clear hl hf hdy hy0
        go_wp2_with fail
        refine (bad16_any _ _ _).mono ?_
        rintro e WB ⟨rfl, hbB⟩
        have L1 := hidd ((hbB.block _ (Array.getElem?_eq_some_iff.1 L2S.out.r2).1).trans L2S.out.r2)
        have L2 := hidd ((hbB.block _ (Array.getElem?_eq_some_iff.1 L2S.out.r3).1).trans L2S.out.r3)
        have LB := hidd (Below.trans L2S.out.bl (hbB.mono (Below.size L2S.out.bl)))
        clear hbB
        rw [← HNN.out] at L1 L2
        have FA := hidd (fin5_at (W := WB) (by omega) L1.out L2.out (.slice none 0 0) (.slice none 0 0) (.slice none 0 0) (.int .i64 y) (.int .i64 j))
        have FB := hidd (fin5_below LB.out (N2 := N) (N3 := N + 1) (by rw [HNN.out]; exact Nat.le_refl _) (by rw [HNN.out]; omega) (.slice none 0 0) (.slice none 0 0) (.slice none 0 0) (.int .i64 y) (.int .i64 j))
        have k20 : WB.cell? ⟨N, 0, none⟩ = some (.slice none 0 0) := (cellO L1.out).trans rfl
        have k21 : WB.cell? ⟨N, 1, none⟩ = some (.slice none 0 0) := (cellO L1.out).trans rfl
        have k22 : WB.cell? ⟨N, 2, none⟩ = some (.slice none 0 0) := (cellO L1.out).trans rfl
        have k30 : WB.cell? ⟨N + 1, 0, none⟩ = some (.int .i64 0) := (cellO L2.out).trans rfl
        have k31 : WB.cell? ⟨N + 1, 1, none⟩ = some (.int .i64 0) := (cellO L2.out).trans rfl
        have kz2 : ∀ q, WB.frozen? ⟨N, q, none⟩ = false := fun q => looseO L1.out
        have kz3 : ∀ q, WB.frozen? ⟨N + 1, q, none⟩ = false := fun q => looseO L2.out
        go_wp2_with fail
        exact bodyPost_ret (ret8 FA.out.1 FA.out.2.1 rfl rfl) rfl (told_bad HL4.out HY0.out FB.out)
  obtain rfl : j = n := by omega
  have hf0 : fstF (unitE us) 0 j = (0, 0) := by
    have := HJ.out.2.2
    rw [Nat.sub_self, fstF] at this
    exact this
  have hl := HL3.out
  rw [hf0, if_pos rfl] at hl
  have HRT := hidd (all_right (us := us) (by rw [← HN.out, hf0]))
  obtain ⟨gs, hgs⟩ : ∃ g, g = defAll us j := ⟨_, rfl⟩
  rw [← hgs] at hl
  have hls : LS w gs gs bv wr := by rw [hgs]; exact HJ.out.1
  obtain ⟨va, vc, rfl, hvc⟩ := own_slice hls.row
  have HGS := hidd hgs
  have HLX := hidd hl
  have HLS := hidd hls
  have x0 : wr.cell? ⟨IB, 0, none⟩ = some (.slice va gs.length vc) := by rw [HIB.out]; exact (cellO hls.im).trans rfl
  have hglen : gs.length ≤ 130000000 := by rw [hgs]; have := HJ.out.2.1; omega
  obtain ⟨gl, hgl⟩ : ∃ v, v = gs.length := ⟨_, rfl⟩
  rw [← hgl] at x0 hvc hglen
  have HGL := hidd hgl
  clear hf0 hl hgs hls hgl HJ HL3
  by_cases h5 : 500 < gl
  · have hl := HLX.out
    rw [if_pos (by rw [← HGL.out]; exact h5)] at hl
    have HL4 := hidd (HLF.out.trans hl)
    have d1 : decide ((gl : Int) > 500) = true := by simp; omega
    have d1' : decide (500 < (gl : Int)) = true := by simp; omega
    clear hl h5
    go_wp2_with fail
    refine (bad16_any _ _ _).mono ?_
    rintro e WB ⟨rfl, hbB⟩
    have L1 := hidd ((hbB.block _ (Array.getElem?_eq_some_iff.1 HLS.out.r2).1).trans HLS.out.r2)
    have L2 := hidd ((hbB.block _ (Array.getElem?_eq_some_iff.1 HLS.out.r3).1).trans HLS.out.r3)
    have LB := hidd (Below.trans HLS.out.bl (hbB.mono (Below.size HLS.out.bl)))
    clear hbB
    rw [← HNN.out] at L1 L2
    have FA := hidd (fin5_at (W := WB) (by omega) L1.out L2.out (.slice none 0 0) (.slice none 0 0) (.slice none 0 0) (.int .i64 4) (.int .i64 0))
    have FB := hidd (fin5_below LB.out (N2 := N) (N3 := N + 1) (by rw [HNN.out]; exact Nat.le_refl _) (by rw [HNN.out]; omega) (.slice none 0 0) (.slice none 0 0) (.slice none 0 0) (.int .i64 4) (.int .i64 0))
    have k20 : WB.cell? ⟨N, 0, none⟩ = some (.slice none 0 0) := (cellO L1.out).trans rfl
    have k21 : WB.cell? ⟨N, 1, none⟩ = some (.slice none 0 0) := (cellO L1.out).trans rfl
    have k22 : WB.cell? ⟨N, 2, none⟩ = some (.slice none 0 0) := (cellO L1.out).trans rfl
    have k30 : WB.cell? ⟨N + 1, 0, none⟩ = some (.int .i64 0) := (cellO L2.out).trans rfl
    have k31 : WB.cell? ⟨N + 1, 1, none⟩ = some (.int .i64 0) := (cellO L2.out).trans rfl
    have kz2 : ∀ q, WB.frozen? ⟨N, q, none⟩ = false := fun q => looseO L1.out
    have kz3 : ∀ q, WB.frozen? ⟨N + 1, q, none⟩ = false := fun q => looseO L2.out
    go_wp2_with fail
    exact bodyPost_ret (ret8 FA.out.1 FA.out.2.1 rfl rfl) rfl (told_bad HL4.out (by decide) FB.out)
  have d1 : decide ((gl : Int) > 500) = false := by simp; omega
  have d1' : decide (500 < (gl : Int)) = false := by simp; omega
  have hl := HLX.out
  rw [if_neg (by rw [← HGL.out]; exact h5)] at hl
  have HLY := hidd hl
  have L20 := hidd (L2.start HLS.out)
  clear hl h5 HLX
  go_wp2_with fail
  clear d1 d1' x0
  go_loopw [138] (fun i wr => ∃ (t : Nat) (pv sv : Value) (ps : List PE) (ss : List Int), t ≤ j ∧ i = .int .i64 t ∧ Hid (L2 w gs (.slice va gs.length vc) pv sv ps ss wr ∧ (ps.map PE.pro, ss) = imgS gs (us.take t) ∧ fstF (unitU gs us) 0 j = fstF (unitU gs us) t (j - t))) (fun i _ => j - (intOf i).toNat)
  case atStart => exact ⟨0, _, _, [], [], Nat.zero_le _, rfl, L20.out, rfl, rfl⟩
  case round =>
  clear L20 HLS
  obtain ⟨t, pv, sv, ps, ss, ht, rfl, HT⟩ := hrel
  by_cases htl : t < j
  · obtain ⟨u, hu⟩ : ∃ u, us[t]? = some u := ⟨_, List.getElem?_eq_getElem (by rw [← HN.out]; exact htl)⟩
    have hfs := fstF_step (er := unitU gs us) htl
    rw [← HT.out.2.2, unitU_at hu] at hfs
    have HFS := hidd hfs
    have HIN := hidd (imgS_next (gs := gs) hu)
    have HRU := hidd (HRT.out u (List.mem_of_getElem? hu))
    have HUM := hidd (List.mem_of_getElem? hu)
    obtain ⟨ab, ao, rfl, hab, hall⟩ := HA.out.at hu
    obtain ⟨ua, uc, s0, s1, huc, hunm, hupl⟩ := hall t u hu
    have s0' := (HT.out.1.bl.cell (p := ⟨ab, ao + t * 2, none⟩) hab).trans s0
    have s1' := (HT.out.1.bl.cell (p := ⟨ab, ao + t * 2 + 1, none⟩) hab).trans s1
    obtain ⟨nm, hnm⟩ : ∃ v, v = u.1 := ⟨_, rfl⟩
    obtain ⟨un, hun⟩ : ∃ v, v = u.2.length := ⟨_, rfl⟩
    rw [← hnm] at s0'
    rw [← hun] at s1' huc
    have HNM := hidd hnm
    have HUN := hidd hun
    have HUPL := hidd hupl
    have hun5 : un ≤ 500 := by rw [hun]; exact HRU.out.n500
    obtain ⟨pva, pvc, rfl, hpvc⟩ := own_slice HT.out.1.im.pr
    obtain ⟨sva, svc, rfl, hsvc⟩ := own_slice HT.out.1.im.sr
    have HIMG := hidd HT.out.2.1
    have hpl2 : ps.length ≤ 20000 := by
      have h1 : ps.length = (imgS gs (us.take t)).1.length := by rw [← HT.out.2.1]; simp
      have h2 := (img_small gs (us.take t) ([], []) (fun v hv => ⟨(HRT.out v (List.mem_of_mem_take hv)).n500, (HRT.out v (List.mem_of_mem_take hv)).c6⟩) (by simp)).2
      have h3 : (us.take t).length ≤ 40 := by rw [List.length_take]; omega
      unfold imgS at h1
      simp at h2
      omega
    have hsl2 : ss.length ≤ 40 := by
      have h1 := imgS_len gs us t
      rw [← HT.out.2.1] at h1
      simp only at h1
      omega
    have bx := (Below.refl wr.heap.size wr).alloc (Nat.le_refl _) (.cells #[.string nm, .slice ua un uc] 37)
    have L21 := hidd (HT.out.1.on bx)
    have UBX := hidd (World.alloc_heap_new wr (.cells #[.string nm, .slice ua un uc] 37))
    clear hfs hall s0 s1 hupl hnm hun hu bx HT
    go_upto_region 40 with fail
    clear s0' s1'
    generalize wr.alloc (.cells #[.string nm, .slice ua un uc] 37) = V1 at L21 UBX ⊢
    obtain ⟨ub, hub⟩ : ∃ u, u = wr.heap.size := ⟨_, rfl⟩
    rw [← hub] at UBX ⊢
    clear hub
    obtain ⟨pl, hpl⟩ : ∃ v, v = ps.length := ⟨_, rfl⟩
    obtain ⟨sl, hsl⟩ : ∃ v, v = ss.length := ⟨_, rfl⟩
    have HPL := hidd hpl
    have HSL := hidd hsl
    have i1 : V1.cell? ⟨IB, 1, none⟩ = some (.slice pva ps.length pvc) := by rw [HIB.out]; exact (cellO L21.out.im.box).trans rfl
    have i2 : V1.cell? ⟨IB, 2, none⟩ = some (.slice sva ss.length svc) := by rw [HIB.out]; exact (cellO L21.out.im.box).trans rfl
    rw [← hpl] at i1 hpvc hpl2
    rw [← hsl] at i2 hsvc hsl2
    have tb := (Below.refl V1.heap.size V1).alloc (Nat.le_refl _) (.cells #[.int .i64 (pl : Int)] 3)
    have L22 := hidd (L21.out.on tb)
    have UB2 := hidd ((tb.block _ (Array.getElem?_eq_some_iff.1 UBX.out).1).trans UBX.out)
    obtain ⟨i0, hinf, hz0, hz1, hz2⟩ := info_parts infoInt
    have OWN : Hid ((V1.alloc (.cells #[.int .i64 (pl : Int)] 3)).ownsRow w.heap.size 3 1 (.slice sva sl svc) sl (ints ss)) := by
      have := L22.out.im.sr
      rw [← hsl] at this
      exact this
    have SRC := hidd (alloc1S V1 #[.int .i64 (pl : Int)] 3 [.int .i64 (pl : Int)] rfl)
    have BAS : w.heap.size ≤ (V1.alloc (.cells #[.int .i64 (pl : Int)] 3)).heap.size := L22.out.bl.size
    clear tb hpl hsl
    go_wp2_with (at_builtin; refine wpList_rowS rfl _ _ 25 rfl w.heap.size 3 i0 _ 1 8 Tryd.underlying25 hinf hz0 hz1 hz2 rfl (by decide) (.slice sva sl svc) sl (ints ss) rfl OWN.out (some ⟨V1.heap.size, 0, none⟩) 1 1 [.int .i64 (pl : Int)] rfl rfl (Or.inr ⟨_, 0, rfl, SRC.out⟩) (by simp [Value.oneCell']) (by unfold maxLen; omega) (by omega) BAS ?_)
    intro v4 W4 hown4 hg4 hw4
    rw [HSL.out] at hown4 hg4 hw4
    obtain ⟨im4, fm4⟩ := L22.out.im.start (s := (pl : Int)) hown4 hg4 (by simpa using hw4)
    have l4 := L22.out.frame im4 fm4
    have ub4 := (fm4.keep ub (Array.getElem?_eq_some_iff.1 UB2.out).1 (L22.out.not_og UB2.out (fun e => by
      have h1 := L22.out.im.box
      rw [← e, UB2.out] at h1
      cases h1) (by decide) (by decide))).trans UB2.out
    have box4 : W4.heap[w.heap.size + 2]? = some (.cells #[.slice va gs.length vc, .slice pva ps.length pvc, .slice sva ss.length svc] 27 (0, 0)) := (gk hg4 L22.out.im.lt L22.out.im.s2).trans L22.out.im.box
    obtain ⟨sva4, svc4, rfl, hsvc4⟩ := own_slice hown4
    have L24 := hidd l4
    have UB4 := hidd ub4
    rw [← HIB.out] at L24 UB4 box4
    have m2 : W4.cell? ⟨IB, 2, none⟩ = some (.slice sva ss.length svc) := (cellO box4).trans rfl
    have mz : ∀ q, W4.frozen? ⟨IB, q, none⟩ = false := fun q => looseO box4
    clear hown4 hg4 hw4 im4 fm4 l4 ub4 box4 OWN SRC BAS i1 i2 L22 UB2 L21 UBX
    try simp only [Act.put, List.setIfInBounds_toArray, List.set_cons_succ, List.set_cons_zero]
    go_upto_region 42 with fail
    clear m2 mz
    generalize W4.setCell ⟨IB, 2, none⟩ (.slice sva4 (ss.length + 1) svc4) = W5 at L24 UB4 ⊢
    obtain ⟨xs, hxs⟩ : ∃ l, l = u.2.flatMap Pro.code := ⟨_, rfl⟩
    have HXS := hidd hxs
    have hxl : xs.length ≤ 3000000 := by
      have h1 := code_len HRU.out.c6
      have h2 := HRU.out.n500
      rw [hxs]; omega
    have HUU : Hid (useU gs u = fstE (insU gs nm xs) 0 xs.length) := by rw [hxs, HNM.out]; rfl
    have y1 : W5.cell? ⟨ub, 1, none⟩ = some (.slice ua un uc) := (cellO UB4.out).trans rfl
    clear hxs
    go_wp2_with fail
    clear y1
    go_loopw [155] (fun i wz => ∃ (p : Nat) (pv : Value) (ps2 : List PE), p ≤ un ∧ i = .int .i64 p ∧ Hid (L2 w gs (.slice va gs.length vc) pv (.slice sva4 (ss.length + 1) svc4) ps2 (ss ++ [(pl : Int)]) wz ∧ wz.heap[ub]? = some (.cells #[.string nm, .slice ua un uc] 37 (0, 0)) ∧ ps2.map PE.pro = ps.map PE.pro ++ (u.2.take p).map (placeP gs pl) ∧ fstE (insU gs nm xs) 0 xs.length = fstE (insU gs nm xs) ((u.2.take p).flatMap Pro.code).length (xs.length - ((u.2.take p).flatMap Pro.code).length))) (fun i _ => un - (intOf i).toNat)
    case atStart => exact ⟨0, _, ps, Nat.zero_le _, rfl, L24.out, UB4.out, by simp, rfl⟩
    case round =>
    clear L24 UB4
    obtain ⟨p, pv, ps2, hp, rfl, HP⟩ := hrel
    by_cases hpp : p < un
    · obtain ⟨P, hP⟩ : ∃ P, u.2[p]? = some P := ⟨_, List.getElem?_eq_getElem (by rw [← HUN.out]; exact hpp)⟩
      have HPP := hidd hP
      obtain ⟨pb, po, rfl, hpb, hallp⟩ := HUPL.out.at hP
      obtain ⟨ca, cc, s0, s1, hcc, hcl⟩ := hallp p _ hP
      have s0' := (HP.out.1.bl.cell (p := ⟨pb, po + p * 2, none⟩) hpb).trans s0
      have s1' := (HP.out.1.bl.cell (p := ⟨pb, po + p * 2 + 1, none⟩) hpb).trans s1
      obtain ⟨cn, hcn⟩ : ∃ c, c = P.code.length := ⟨_, rfl⟩
      rw [← hcn] at s1' hcc
      have HCN := hidd hcn
      have HCL := hidd hcl
      have hc6 : cn ≤ 6000 := by rw [hcn]; exact HRU.out.c6 P (List.mem_of_getElem? hP)
      have HIX := hidd (fun x hx => HRU.out.place (List.mem_of_getElem? hP) (x := x) hx)
      have HST := hidd (fun x hx => HRU.out.st (List.mem_of_getElem? hP) (x := x) hx)
      obtain ⟨K0, hK0⟩ : ∃ v, v = ((u.2.take p).flatMap Pro.code).length := ⟨_, rfl⟩
      have HK0 := hidd hK0
      rw [← hK0] at HP
      obtain ⟨pva, pvc, rfl, hpvc⟩ := own_slice HP.out.1.im.pr
      have bx := (Below.refl wr.heap.size wr).alloc (Nat.le_refl _) (.cells #[.int .i64 P.args, .slice ca cn cc] 46)
      have L26 := hidd (HP.out.1.on bx)
      have NB := World.alloc_heap_new wr (.cells #[.int .i64 P.args, .slice ca cn cc] 46)
      have UB6 := hidd ((bx.block _ (Array.getElem?_eq_some_iff.1 HP.out.2.1).1).trans HP.out.2.1)
      have HPE := hidd HP.out.2.2.1
      have HFE := hidd HP.out.2.2.2
      have hp2 : ps2.length ≤ 30000 := by
        have h1 := congrArg List.length HP.out.2.2.1
        simp at h1
        rw [← HPL.out] at h1
        omega
      have HPB := hidd NB
      clear hP hallp s0 s1 hcl hcn hK0 bx NB HP
      go_upto_region 45 with fail
      clear s0' s1'
      generalize wr.alloc (.cells #[.int .i64 P.args, .slice ca cn cc] 46) = V6 at L26 HPB UB6 ⊢
      obtain ⟨vb, hvb⟩ : ∃ u, u = wr.heap.size := ⟨_, rfl⟩
      rw [← hvb] at HPB ⊢
      clear hvb
      have q0 : V6.cell? ⟨vb, 0, none⟩ = some (.int .i64 P.args) := (cellO HPB.out).trans rfl
      have tq := (Below.refl V6.heap.size V6).alloc (Nat.le_refl _) (.cells #[.int .i64 P.args, .slice none 0 0] 46)
      have AQ0 := hidd (AQ.start V6 P.args)
      have HB6 := hidd tq
      have q1 : (V6.alloc (.cells #[.int .i64 P.args, .slice none 0 0] 46)).cell? ⟨vb, 1, none⟩ = some (.slice ca cn cc) := (tq.cell (p := ⟨vb, 1, none⟩) (Array.getElem?_eq_some_iff.1 HPB.out).1).trans ((cellO HPB.out).trans rfl)
      clear tq
      go_upto_region 46 with fail
      clear q0
      generalize V6.alloc (.cells #[.int .i64 P.args, .slice none 0 0] 46) = V7 at AQ0 HB6 q1 ⊢
      obtain ⟨Q, hQ⟩ : ∃ v, v = V6.heap.size := ⟨_, rfl⟩
      have HQ := hidd hQ
      rw [← hQ] at AQ0 HB6 ⊢
      clear hQ
      go_wp2_with fail
      clear q1
      go_loopw [165] (fun i wz => ∃ (k : Nat) (v : Value) (es : List IE), k ≤ cn ∧ i = .int .i64 k ∧ Hid (Below Q V6 wz ∧ AQ Q P.args v es wz ∧ es.map IE.i = (P.code.take k).map (placeI gs pl) ∧ fstE (insU gs nm xs) 0 xs.length = fstE (insU gs nm xs) (K0 + k) (xs.length - (K0 + k)))) (fun i _ => cn - (intOf i).toNat)
      case atStart => exact ⟨0, _, [], Nat.zero_le _, rfl, HB6.out, AQ0.out, by simp, HFE.out⟩
      case round =>
      clear AQ0 HB6
      obtain ⟨k, v, es, hk, rfl, HK⟩ := hrel
      by_cases hkl : k < cn
      · obtain ⟨x, hx⟩ : ∃ x, P.code[k]? = some x := ⟨_, List.getElem?_eq_getElem (by rw [← HCN.out]; exact hkl)⟩
        have hxk : xs[K0 + k]? = some x := by rw [HXS.out, HK0.out]; exact flat_idx HPP.out hx
        have HXK := hidd hxk
        have HXR := hidd (HIX.out x (List.mem_of_getElem? hx))
        have HXT := hidd (HST.out x (List.mem_of_getElem? hx))
        obtain ⟨ib, io, rfl, hib, hins⟩ : ∃ b o, ca = some ⟨b, o, none⟩ ∧ b < w.heap.size ∧ ∀ i x, P.code[i]? = some x → ∃ qa qc, IL w.heap.size w b (o + i * 11) x qa qc := by
          rcases HCL.out with h | h
          · rw [h] at hx; simp at hx
          · exact h
        obtain ⟨xa, xc, hil⟩ := hins k x hx
        have bw0 := L26.out.bl.trans (HK.out.1.mono (by rw [HQ.out]; exact L26.out.bl.size))
        have hilz := hil.below hib bw0
        have a0 := hilz.c0
        have a1 := hilz.c1
        have a2 := hilz.c2
        have a3 := hilz.c3
        have a4 := hilz.c4
        have a5 := hilz.c5
        have a6 := hilz.c6
        have a7 := hilz.c7
        have a8 := hilz.c8
        have a9 := hilz.c9
        have a10 := hilz.c10
        have HIL := hidd hil
        have b1 := (Below.refl wr.heap.size wr).alloc (Nat.le_refl _) (.cells #[.int .i64 x.op, .int .i64 x.a, .int .i64 x.n, .string x.lib, .string x.own, .int .i64 x.quote.kind, .int .i64 x.quote.n, .string x.quote.name, .int .i64 x.quote.stamp, .int .i64 x.quote.lib, .slice xa x.quote.kids.length xc] 51)
        have XBX := hidd (World.alloc_heap_new wr (.cells #[.int .i64 x.op, .int .i64 x.a, .int .i64 x.n, .string x.lib, .string x.own, .int .i64 x.quote.kind, .int .i64 x.quote.n, .string x.quote.name, .int .i64 x.quote.stamp, .int .i64 x.quote.lib, .slice xa x.quote.kids.length xc] 51))
        have HB1 := hidd b1
        have htk : P.code.take (k + 1) = P.code.take k ++ [x] := by rw [List.take_add_one, hx]; rfl
        have HTK := hidd htk
        clear hx hxk hil hilz hins b1 htk bw0
        go_upto_region 49 with fail
        clear a0 a1 a2 a3 a4 a5 a6 a7 a8 a9 a10
        generalize wr.alloc (.cells #[.int .i64 x.op, .int .i64 x.a, .int .i64 x.n, .string x.lib, .string x.own, .int .i64 x.quote.kind, .int .i64 x.quote.n, .string x.quote.name, .int .i64 x.quote.stamp, .int .i64 x.quote.lib, .slice xa x.quote.kids.length xc] 51) = V8 at XBX HB1 ⊢
        obtain ⟨xb, hxb⟩ : ∃ u, u = wr.heap.size := ⟨_, rfl⟩
        have HXB := hidd hxb
        rw [← hxb] at XBX ⊢
        clear hxb
        have z0 : V8.cell? ⟨xb, 0, none⟩ = some (.int .i64 x.op) := (cellO XBX.out).trans rfl
        have b2 := (Below.refl V8.heap.size V8).alloc (Nat.le_refl _) (.cells #[.int .i64 x.op, .int .i64 0, .int .i64 0, .string ⟨#[]⟩, .string ⟨#[]⟩, .int .i64 0, .int .i64 0, .string ⟨#[]⟩, .int .i64 0, .int .i64 0, .slice none 0 0] 51)
        have YBX := hidd (World.alloc_heap_new V8 (.cells #[.int .i64 x.op, .int .i64 0, .int .i64 0, .string ⟨#[]⟩, .string ⟨#[]⟩, .int .i64 0, .int .i64 0, .string ⟨#[]⟩, .int .i64 0, .int .i64 0, .slice none 0 0] 51))
        have HB2 := hidd b2
        clear b2
        go_upto_region 50 with fail
        clear z0
        generalize V8.alloc (.cells #[.int .i64 x.op, .int .i64 0, .int .i64 0, .string ⟨#[]⟩, .string ⟨#[]⟩, .int .i64 0, .int .i64 0, .string ⟨#[]⟩, .int .i64 0, .int .i64 0, .slice none 0 0] 51) = V9 at YBX HB2 ⊢
        obtain ⟨Y, hY⟩ : ∃ u, u = V8.heap.size := ⟨_, rfl⟩
        have HYE := hidd hY
        rw [← hY] at YBX HB2 ⊢
        clear hY
        have HX9 := hidd ((HB2.out.block _ (by rw [HYE.out]; exact (Array.getElem?_eq_some_iff.1 XBX.out).1)).trans XBX.out)
        obtain ⟨X, hX⟩ : ∃ X, X = placeI gs pl x := ⟨_, rfl⟩
        have HX := hidd hX
        clear hX
        obtain ⟨xp, hxp⟩ : ∃ v, v = x.op := ⟨_, rfl⟩
        have HXP := hidd hxp
        have z0 : V9.cell? ⟨xb, 0, none⟩ = some (.int .i64 xp) := by rw [hxp]; exact (cellO HX9.out).trans rfl
        have KD := hidd (fun w => Kind_any xp w)
        clear hxp
        go_wp2_with fail
        refine (KD.out _).mono ?_
        rintro e W9 ⟨rfl, rfl⟩
        go_upto_block 14 with fail
        go_cut [] from 175 to 240 (fun wx => ∃ qa qc f, wx.heap[Y]? = some (.cells (ic X (.slice qa X.quote.kids.length qc)) 51 (0, 0)) ∧ Below Y W9 wx ∧ X.quote.kids.length ≤ qc ∧ Dc (fun b => Y < b ∧ b < wx.heap.size) wx f qa X.quote.kids ∧ useE gs nm x = 0)
        case first =>
          have hop : xp = 1 ∨ xp = 2 ∨ xp = 3 ∨ xp = 4 ∨ xp = 5 ∨ xp = 6 ∨ xp = 7 ∨ xp = 8 ∨ xp = 9 ∨ xp = 10 ∨ xp = 11 ∨ xp = 12 ∨ xp = 13 ∨ xp = 14 ∨ xp = 15 := by have h1 := HXR.out.1; rw [← HXP.out] at h1; omega
          clear z0
          rcases hop with rfl | rfl | rfl | rfl | rfl | rfl | rfl | rfl | rfl | rfl | rfl | rfl | rfl | rfl | rfl
          · as_aux_lemma =>
              have hX := HX.out
              unfold placeI at hX
              rw [← HXP.out] at hX
              simp at hX
              subst hX
              rw [show kindB 1 = 110 from rfl]
              have xq : W9.cell? ⟨xb, 2, none⟩ = some (.int .i64 x.n) := (cellO HX9.out).trans rfl
              have yq : W9.cell? ⟨Y, 2, none⟩ = some (.int .i64 0) := (cellO YBX.out).trans rfl
              have yz := looseO (q := 2) YBX.out
              have hc := heap_setCell_same W9 Y 2 _ 51 (.int .i64 x.n) YBX.out
              have END := hidd hc
              have BE := hidd ((Below.refl Y W9).setCell (p := ⟨Y, 2, none⟩) (Nat.le_refl _) (.int .i64 x.n))
              clear hc
              go_wp2_with fail
              go_meet
              case rel => exact ⟨none, 0, 0, by rw [END.out, HXP.out]; rfl, BE.out, Nat.le_refl _, Dc.nil _ _ _ _, by unfold useE; rw [← HXP.out]; simp⟩
          · as_aux_lemma =>
              have hX := HX.out
              unfold placeI at hX
              rw [← HXP.out] at hX
              simp at hX
              subst hX
              rw [show kindB 2 = 110 from rfl]
              have xq : W9.cell? ⟨xb, 2, none⟩ = some (.int .i64 x.n) := (cellO HX9.out).trans rfl
              have yq : W9.cell? ⟨Y, 2, none⟩ = some (.int .i64 0) := (cellO YBX.out).trans rfl
              have yz := looseO (q := 2) YBX.out
              have hc := heap_setCell_same W9 Y 2 _ 51 (.int .i64 x.n) YBX.out
              have END := hidd hc
              have BE := hidd ((Below.refl Y W9).setCell (p := ⟨Y, 2, none⟩) (Nat.le_refl _) (.int .i64 x.n))
              clear hc
              go_wp2_with fail
              go_meet
              case rel => exact ⟨none, 0, 0, by rw [END.out, HXP.out]; rfl, BE.out, Nat.le_refl _, Dc.nil _ _ _ _, by unfold useE; rw [← HXP.out]; simp⟩
          · as_aux_lemma =>
              have hX := HX.out
              unfold placeI at hX
              rw [← HXP.out] at hX
              simp at hX
              subst hX
              rw [show kindB 3 = 113 from rfl]
              have d5 : W9.cell? ⟨xb, 5, none⟩ = some (.int .i64 x.quote.kind) := (cellO HX9.out).trans rfl
              have d6 : W9.cell? ⟨xb, 6, none⟩ = some (.int .i64 x.quote.n) := (cellO HX9.out).trans rfl
              have d7 : W9.cell? ⟨xb, 7, none⟩ = some (.string x.quote.name) := (cellO HX9.out).trans rfl
              have d8 : W9.cell? ⟨xb, 8, none⟩ = some (.int .i64 x.quote.stamp) := (cellO HX9.out).trans rfl
              have d9 : W9.cell? ⟨xb, 9, none⟩ = some (.int .i64 x.quote.lib) := (cellO HX9.out).trans rfl
              have d10 : W9.cell? ⟨xb, 10, none⟩ = some (.slice xa x.quote.kids.length xc) := (cellO HX9.out).trans rfl
              have bw0 := L26.out.bl.trans (HK.out.1.mono (by rw [HQ.out]; exact L26.out.bl.size))
              have hwY : wr.heap.size ≤ Y := by rw [HYE.out]; exact HB1.out.size
              have b9 : Below wr.heap.size wr W9 := HB1.out.trans (HB2.out.mono hwY)
              have bw9 := bw0.trans (b9.mono bw0.size)
              obtain ⟨kf, hkf⟩ := HIL.out.lk
              have BR0 := RBare_any kf x.quote xa xc W9 (Dc.stay (fun k hk => bw9.block k hk) (fun k hk => Nat.lt_of_lt_of_le hk bw9.size) _ _ _ hkf) HIL.out.lq (HXR.out.2.1 HXP.out.symm) (HXT.out HXP.out.symm)
              unfold dv at BR0
              have BR := hidd BR0
              clear BR0 hkf bw9 b9 bw0 hwY
              go_wp2_with fail
              refine BR.out.mono ?_
              rintro e W1 ⟨s1, ra, rc, rf, rfl, hrc, hrd⟩
              obtain ⟨DQ, hDQ⟩ : ∃ d, d = bareQ x.quote := ⟨_, rfl⟩
              rw [← hDQ] at hrc hrd ⊢
              have HDQ := hidd hDQ
              clear hDQ
              unfold dv
              have LY := (Array.getElem?_eq_some_iff.1 YBX.out).1
              have YB1 := (s1.block _ LY).trans YBX.out
              have p5 : W1.cell? ⟨Y, 5, none⟩ = some (.int .i64 0) := (cellO YB1).trans rfl
              have p6 : W1.cell? ⟨Y, 6, none⟩ = some (.int .i64 0) := (cellO YB1).trans rfl
              have p7 : W1.cell? ⟨Y, 7, none⟩ = some (.string ⟨#[]⟩) := (cellO YB1).trans rfl
              have p8 : W1.cell? ⟨Y, 8, none⟩ = some (.int .i64 0) := (cellO YB1).trans rfl
              have p9 : W1.cell? ⟨Y, 9, none⟩ = some (.int .i64 0) := (cellO YB1).trans rfl
              have p10 : W1.cell? ⟨Y, 10, none⟩ = some (.slice none 0 0) := (cellO YB1).trans rfl
              have z5 := looseO (q := 5) YB1
              have z6 := looseO (q := 6) YB1
              have z7 := looseO (q := 7) YB1
              have z8 := looseO (q := 8) YB1
              have z9 := looseO (q := 9) YB1
              have z10 := looseO (q := 10) YB1
              have h5 := heap_setCell_same W1 Y 5 _ 51 (.int .i64 DQ.kind) YB1
              have h6 := heap_setCell_same _ Y 6 _ 51 (.int .i64 DQ.n) h5
              have h7 := heap_setCell_same _ Y 7 _ 51 (.string DQ.name) h6
              have h8 := heap_setCell_same _ Y 8 _ 51 (.int .i64 DQ.stamp) h7
              have h9 := heap_setCell_same _ Y 9 _ 51 (.int .i64 DQ.lib) h8
              have h10 := heap_setCell_same _ Y 10 _ 51 (.slice ra DQ.kids.length rc) h9
              simp only [List.setIfInBounds_toArray, List.set_cons_succ, List.set_cons_zero] at h10
              have END := hidd h10
              have BE := hidd ((((((((s1.mono (Nat.le_of_lt LY)).setCell (p := ⟨Y, 5, none⟩) (Nat.le_refl _) (.int .i64 DQ.kind)).setCell (p := ⟨Y, 6, none⟩) (Nat.le_refl _) (.int .i64 DQ.n)).setCell (p := ⟨Y, 7, none⟩) (Nat.le_refl _) (.string DQ.name)).setCell (p := ⟨Y, 8, none⟩) (Nat.le_refl _) (.int .i64 DQ.stamp)).setCell (p := ⟨Y, 9, none⟩) (Nat.le_refl _) (.int .i64 DQ.lib)).setCell (p := ⟨Y, 10, none⟩) (Nat.le_refl _) (.slice ra DQ.kids.length rc)))
              have HRC := hidd hrc
              have HRD := hidd hrd
              have HLY2 := hidd LY
              clear BR s1 hrc hrd h5 h6 h7 h8 h9 h10 YB1 LY d5 d6 d7 d8 d9 d10
              go_wp2_with fail
              go_meet
              case rel =>
                have hs : ∀ (U : World) (q : Nat) (v : Value) (k : Nat), k ≠ Y → (U.setCell ⟨Y, q, none⟩ v).heap[k]? = U.heap[k]? := fun U q v k hk => Below.heap_setCell _ _ _ _ hk
                rw [← HDQ.out]
                refine ⟨ra, rc, rf, ?_, BE.out, HRC.out, ?_, ?_⟩
                · rw [END.out, HXP.out]
                  rfl
                · refine Dc.stay (fun k hk => ?_) (fun k hk => ⟨?_, ?_⟩) _ _ _ HRD.out
                  · have hk1 : k ≠ Y := by have := hk.1; have := HLY2.out; omega
                    rw [hs _ _ _ _ hk1, hs _ _ _ _ hk1, hs _ _ _ _ hk1, hs _ _ _ _ hk1, hs _ _ _ _ hk1, hs _ _ _ _ hk1]
                  · have := hk.1; have := HLY2.out; omega
                  · have h2 := hk.2
                    simpa using h2
                · unfold useE
                  rw [← HXP.out]
                  simp
          · as_aux_lemma =>
              have hX := HX.out
              unfold placeI at hX
              rw [← HXP.out] at hX
              simp at hX
              subst hX
              rw [show kindB 4 = 108 from rfl]
              have xq : W9.cell? ⟨xb, 1, none⟩ = some (.int .i64 x.a) := (cellO HX9.out).trans rfl
              have yq : W9.cell? ⟨Y, 1, none⟩ = some (.int .i64 0) := (cellO YBX.out).trans rfl
              have yz := looseO (q := 1) YBX.out
              have hc := heap_setCell_same W9 Y 1 _ 51 (.int .i64 x.a) YBX.out
              have END := hidd hc
              have BE := hidd ((Below.refl Y W9).setCell (p := ⟨Y, 1, none⟩) (Nat.le_refl _) (.int .i64 x.a))
              clear hc
              go_wp2_with fail
              go_meet
              case rel => exact ⟨none, 0, 0, by rw [END.out, HXP.out]; rfl, BE.out, Nat.le_refl _, Dc.nil _ _ _ _, by unfold useE; rw [← HXP.out]; simp⟩
          · as_aux_lemma =>
              have hX := HX.out
              unfold placeI at hX
              rw [← HXP.out] at hX
              simp at hX
              subst hX
              rw [show kindB 5 = 103 from rfl]
              have hwY : wr.heap.size ≤ Y := by rw [HYE.out]; exact HB1.out.size
              have b9 : Below wr.heap.size wr W9 := HB1.out.trans (HB2.out.mono hwY)
              have b69 : Below V6.heap.size V6 W9 := by rw [← HQ.out]; exact HK.out.1.trans (b9.mono (Nat.le_of_lt HK.out.2.1.lt))
              have L9 := hidd (L26.out.on b69)
              have UB9 := (b69.block _ (Array.getElem?_eq_some_iff.1 UB6.out).1).trans UB6.out
              have z0 : W9.cell? ⟨xb, 0, none⟩ = some (.int .i64 5) := by rw [HXP.out]; exact (cellO HX9.out).trans rfl
              have z3 : W9.cell? ⟨xb, 3, none⟩ = some (.string x.lib) := (cellO HX9.out).trans rfl
              have z4 : W9.cell? ⟨xb, 4, none⟩ = some (.string x.own) := (cellO HX9.out).trans rfl
              have y0 : W9.cell? ⟨ub, 0, none⟩ = some (.string nm) := (cellO UB9).trans rfl
              have lk := L9.out.mp.look (x.lib, x.own) ⟨HIL.out.l3, HIL.out.l4⟩
              rw [← HMB.out] at lk
              clear hwY b9 b69 UB9
              cases hi : idxG gs (x.lib, x.own) with
              | none =>
                rw [hi] at lk
                simp only [Option.getD_none, Option.isSome_none] at lk
                have hl := HLY.out
                have hue : useE gs nm x = 7 := by unfold useE; rw [← HXP.out]; simp [hi]
                have hu7 : useU gs u = 7 := by rw [HUU.out, HK.out.2.2.2, fstE_step (List.getElem?_eq_some_iff.1 HXK.out).1, insU_at HXK.out, hue, if_neg (by decide)]
                have hf := HFS.out
                rw [hu7, if_neg (by decide)] at hf
                rw [hf, if_neg (by simp)] at hl
                have HL4 := hidd (HLF.out.trans hl)
                clear hl hue hu7 hf hi
                go_wp2_with fail
                refine (bad16_any _ _ _).mono ?_
                rintro e WB ⟨rfl, hbB⟩
                have L1 := hidd ((hbB.block _ (Array.getElem?_eq_some_iff.1 L9.out.r2).1).trans L9.out.r2)
                have L2 := hidd ((hbB.block _ (Array.getElem?_eq_some_iff.1 L9.out.r3).1).trans L9.out.r3)
                have LB := hidd (Below.trans L9.out.bl (hbB.mono (Below.size L9.out.bl)))
                clear hbB
                rw [← HNN.out] at L1 L2
                have FA := hidd (fin5_at (W := WB) (by omega) L1.out L2.out (.slice none 0 0) (.slice none 0 0) (.slice none 0 0) (.int .i64 7) (.int .i64 t))
                have FB := hidd (fin5_below LB.out (N2 := N) (N3 := N + 1) (by rw [HNN.out]; exact Nat.le_refl _) (by rw [HNN.out]; omega) (.slice none 0 0) (.slice none 0 0) (.slice none 0 0) (.int .i64 7) (.int .i64 t))
                have k20 : WB.cell? ⟨N, 0, none⟩ = some (.slice none 0 0) := (cellO L1.out).trans rfl
                have k21 : WB.cell? ⟨N, 1, none⟩ = some (.slice none 0 0) := (cellO L1.out).trans rfl
                have k22 : WB.cell? ⟨N, 2, none⟩ = some (.slice none 0 0) := (cellO L1.out).trans rfl
                have k30 : WB.cell? ⟨N + 1, 0, none⟩ = some (.int .i64 0) := (cellO L2.out).trans rfl
                have k31 : WB.cell? ⟨N + 1, 1, none⟩ = some (.int .i64 0) := (cellO L2.out).trans rfl
                have kz2 : ∀ q, WB.frozen? ⟨N, q, none⟩ = false := fun q => looseO L1.out
                have kz3 : ∀ q, WB.frozen? ⟨N + 1, q, none⟩ = false := fun q => looseO L2.out
                go_wp2_with fail
                exact bodyPost_ret (ret8 FA.out.1 FA.out.2.1 rfl rfl) rfl (told_bad HL4.out (by decide) FB.out)
              | some i =>
                rw [hi] at lk
                simp only [Option.getD_some, Option.isSome_some] at lk
                have HI := hidd hi
                have yq : W9.cell? ⟨Y, 1, none⟩ = some (.int .i64 0) := (cellO YBX.out).trans rfl
                have yz := looseO (q := 1) YBX.out
                have hc := heap_setCell_same W9 Y 1 _ 51 (.int .i64 (i : Int)) YBX.out
                have END := hidd hc
                have BE := hidd ((Below.refl Y W9).setCell (p := ⟨Y, 1, none⟩) (Nat.le_refl _) (.int .i64 (i : Int)))
                clear hc hi
                go_wp2_with fail
                go_meet
                case rel => exact ⟨none, 0, 0, by rw [END.out, HXP.out, HI.out]; rfl, BE.out, Nat.le_refl _, Dc.nil _ _ _ _, by unfold useE; rw [← HXP.out]; simp [HI.out]⟩
          · as_aux_lemma =>
              have hX := HX.out
              unfold placeI at hX
              rw [← HXP.out] at hX
              simp at hX
              subst hX
              rw [show kindB 6 = 112 from rfl]
              have xq : W9.cell? ⟨xb, 4, none⟩ = some (.string x.own) := (cellO HX9.out).trans rfl
              have yq : W9.cell? ⟨Y, 4, none⟩ = some (.string ⟨#[]⟩) := (cellO YBX.out).trans rfl
              have yz := looseO (q := 4) YBX.out
              have hc := heap_setCell_same W9 Y 4 _ 51 (.string x.own) YBX.out
              have END := hidd hc
              have BE := hidd ((Below.refl Y W9).setCell (p := ⟨Y, 4, none⟩) (Nat.le_refl _) (.string x.own))
              clear hc
              go_wp2_with fail
              go_meet
              case rel => exact ⟨none, 0, 0, by rw [END.out, HXP.out]; rfl, BE.out, Nat.le_refl _, Dc.nil _ _ _ _, by unfold useE; rw [← HXP.out]; simp⟩
          · as_aux_lemma =>
              have hX := HX.out
              unfold placeI at hX
              rw [← HXP.out] at hX
              simp at hX
              subst hX
              rw [show kindB 7 = 99 from rfl]
              have h7 := HXR.out.2.2.2 HXP.out.symm
              have xq : W9.cell? ⟨xb, 1, none⟩ = some (.int .i64 x.a) := (cellO HX9.out).trans rfl
              have yq : W9.cell? ⟨Y, 1, none⟩ = some (.int .i64 0) := (cellO YBX.out).trans rfl
              have yz := looseO (q := 1) YBX.out
              have hc := heap_setCell_same W9 Y 1 _ 51 (.int .i64 ((pl : Int) + x.a)) YBX.out
              have END := hidd hc
              have BE := hidd ((Below.refl Y W9).setCell (p := ⟨Y, 1, none⟩) (Nat.le_refl _) (.int .i64 ((pl : Int) + x.a)))
              clear hc
              go_wp2_with fail
              go_meet
              case rel => exact ⟨none, 0, 0, by rw [END.out, HXP.out]; rfl, BE.out, Nat.le_refl _, Dc.nil _ _ _ _, by unfold useE; rw [← HXP.out]; simp⟩
          · as_aux_lemma =>
              have hX := HX.out
              unfold placeI at hX
              rw [← HXP.out] at hX
              simp at hX
              subst hX
              rw [show kindB 8 = 97 from rfl]
              have xq : W9.cell? ⟨xb, 1, none⟩ = some (.int .i64 x.a) := (cellO HX9.out).trans rfl
              have yq : W9.cell? ⟨Y, 1, none⟩ = some (.int .i64 0) := (cellO YBX.out).trans rfl
              have yz := looseO (q := 1) YBX.out
              have hc := heap_setCell_same W9 Y 1 _ 51 (.int .i64 x.a) YBX.out
              have END := hidd hc
              have BE := hidd ((Below.refl Y W9).setCell (p := ⟨Y, 1, none⟩) (Nat.le_refl _) (.int .i64 x.a))
              clear hc
              go_wp2_with fail
              go_meet
              case rel => exact ⟨none, 0, 0, by rw [END.out, HXP.out]; rfl, BE.out, Nat.le_refl _, Dc.nil _ _ _ _, by unfold useE; rw [← HXP.out]; simp⟩
          · as_aux_lemma =>
              have hX := HX.out
              unfold placeI at hX
              rw [← HXP.out] at hX
              simp at hX
              subst hX
              rw [show kindB 9 = 106 from rfl]
              have xq : W9.cell? ⟨xb, 1, none⟩ = some (.int .i64 x.a) := (cellO HX9.out).trans rfl
              have yq : W9.cell? ⟨Y, 1, none⟩ = some (.int .i64 0) := (cellO YBX.out).trans rfl
              have yz := looseO (q := 1) YBX.out
              have hc := heap_setCell_same W9 Y 1 _ 51 (.int .i64 x.a) YBX.out
              have END := hidd hc
              have BE := hidd ((Below.refl Y W9).setCell (p := ⟨Y, 1, none⟩) (Nat.le_refl _) (.int .i64 x.a))
              clear hc
              go_wp2_with fail
              go_meet
              case rel => exact ⟨none, 0, 0, by rw [END.out, HXP.out]; rfl, BE.out, Nat.le_refl _, Dc.nil _ _ _ _, by unfold useE; rw [← HXP.out]; simp⟩
          · as_aux_lemma =>
              have hX := HX.out
              unfold placeI at hX
              rw [← HXP.out] at hX
              simp at hX
              subst hX
              rw [show kindB 10 = 106 from rfl]
              have xq : W9.cell? ⟨xb, 1, none⟩ = some (.int .i64 x.a) := (cellO HX9.out).trans rfl
              have yq : W9.cell? ⟨Y, 1, none⟩ = some (.int .i64 0) := (cellO YBX.out).trans rfl
              have yz := looseO (q := 1) YBX.out
              have hc := heap_setCell_same W9 Y 1 _ 51 (.int .i64 x.a) YBX.out
              have END := hidd hc
              have BE := hidd ((Below.refl Y W9).setCell (p := ⟨Y, 1, none⟩) (Nat.le_refl _) (.int .i64 x.a))
              clear hc
              go_wp2_with fail
              go_meet
              case rel => exact ⟨none, 0, 0, by rw [END.out, HXP.out]; rfl, BE.out, Nat.le_refl _, Dc.nil _ _ _ _, by unfold useE; rw [← HXP.out]; simp⟩
          · as_aux_lemma =>
              have hX := HX.out
              unfold placeI at hX
              rw [← HXP.out] at hX
              simp at hX
              subst hX
              rw [show kindB 11 = 108 from rfl]
              have xq : W9.cell? ⟨xb, 1, none⟩ = some (.int .i64 x.a) := (cellO HX9.out).trans rfl
              have yq : W9.cell? ⟨Y, 1, none⟩ = some (.int .i64 0) := (cellO YBX.out).trans rfl
              have yz := looseO (q := 1) YBX.out
              have hc := heap_setCell_same W9 Y 1 _ 51 (.int .i64 x.a) YBX.out
              have END := hidd hc
              have BE := hidd ((Below.refl Y W9).setCell (p := ⟨Y, 1, none⟩) (Nat.le_refl _) (.int .i64 x.a))
              clear hc
              go_wp2_with fail
              go_meet
              case rel => exact ⟨none, 0, 0, by rw [END.out, HXP.out]; rfl, BE.out, Nat.le_refl _, Dc.nil _ _ _ _, by unfold useE; rw [← HXP.out]; simp⟩
          · as_aux_lemma =>
              have hX := HX.out
              unfold placeI at hX
              rw [← HXP.out] at hX
              simp at hX
              subst hX
              rw [show kindB 12 = 103 from rfl]
              have hwY : wr.heap.size ≤ Y := by rw [HYE.out]; exact HB1.out.size
              have b9 : Below wr.heap.size wr W9 := HB1.out.trans (HB2.out.mono hwY)
              have b69 : Below V6.heap.size V6 W9 := by rw [← HQ.out]; exact HK.out.1.trans (b9.mono (Nat.le_of_lt HK.out.2.1.lt))
              have L9 := hidd (L26.out.on b69)
              have UB9 := (b69.block _ (Array.getElem?_eq_some_iff.1 UB6.out).1).trans UB6.out
              have z0 : W9.cell? ⟨xb, 0, none⟩ = some (.int .i64 12) := by rw [HXP.out]; exact (cellO HX9.out).trans rfl
              have z3 : W9.cell? ⟨xb, 3, none⟩ = some (.string x.lib) := (cellO HX9.out).trans rfl
              have z4 : W9.cell? ⟨xb, 4, none⟩ = some (.string x.own) := (cellO HX9.out).trans rfl
              have y0 : W9.cell? ⟨ub, 0, none⟩ = some (.string nm) := (cellO UB9).trans rfl
              have lk := L9.out.mp.look (x.lib, x.own) ⟨HIL.out.l3, HIL.out.l4⟩
              rw [← HMB.out] at lk
              clear hwY b9 b69 UB9
              cases hi : idxG gs (x.lib, x.own) with
              | none =>
                rw [hi] at lk
                simp only [Option.getD_none, Option.isSome_none] at lk
                have hl := HLY.out
                have hue : useE gs nm x = 7 := by unfold useE; rw [← HXP.out]; simp [hi]
                have hu7 : useU gs u = 7 := by rw [HUU.out, HK.out.2.2.2, fstE_step (List.getElem?_eq_some_iff.1 HXK.out).1, insU_at HXK.out, hue, if_neg (by decide)]
                have hf := HFS.out
                rw [hu7, if_neg (by decide)] at hf
                rw [hf, if_neg (by simp)] at hl
                have HL4 := hidd (HLF.out.trans hl)
                clear hl hue hu7 hf hi
                go_wp2_with fail
                refine (bad16_any _ _ _).mono ?_
                rintro e WB ⟨rfl, hbB⟩
                have L1 := hidd ((hbB.block _ (Array.getElem?_eq_some_iff.1 L9.out.r2).1).trans L9.out.r2)
                have L2 := hidd ((hbB.block _ (Array.getElem?_eq_some_iff.1 L9.out.r3).1).trans L9.out.r3)
                have LB := hidd (Below.trans L9.out.bl (hbB.mono (Below.size L9.out.bl)))
                clear hbB
                rw [← HNN.out] at L1 L2
                have FA := hidd (fin5_at (W := WB) (by omega) L1.out L2.out (.slice none 0 0) (.slice none 0 0) (.slice none 0 0) (.int .i64 7) (.int .i64 t))
                have FB := hidd (fin5_below LB.out (N2 := N) (N3 := N + 1) (by rw [HNN.out]; exact Nat.le_refl _) (by rw [HNN.out]; omega) (.slice none 0 0) (.slice none 0 0) (.slice none 0 0) (.int .i64 7) (.int .i64 t))
                have k20 : WB.cell? ⟨N, 0, none⟩ = some (.slice none 0 0) := (cellO L1.out).trans rfl
                have k21 : WB.cell? ⟨N, 1, none⟩ = some (.slice none 0 0) := (cellO L1.out).trans rfl
                have k22 : WB.cell? ⟨N, 2, none⟩ = some (.slice none 0 0) := (cellO L1.out).trans rfl
                have k30 : WB.cell? ⟨N + 1, 0, none⟩ = some (.int .i64 0) := (cellO L2.out).trans rfl
                have k31 : WB.cell? ⟨N + 1, 1, none⟩ = some (.int .i64 0) := (cellO L2.out).trans rfl
                have kz2 : ∀ q, WB.frozen? ⟨N, q, none⟩ = false := fun q => looseO L1.out
                have kz3 : ∀ q, WB.frozen? ⟨N + 1, q, none⟩ = false := fun q => looseO L2.out
                go_wp2_with fail
                exact bodyPost_ret (ret8 FA.out.1 FA.out.2.1 rfl rfl) rfl (told_bad HL4.out (by decide) FB.out)
              | some i =>
                rw [hi] at lk
                simp only [Option.getD_some, Option.isSome_some] at lk
                have HI := hidd hi
                by_cases hlib : x.lib = nm
                · have hq1 : (x.lib.toList == nm.toList) = true := by rw [hlib]; simp
                  have hq2 : (x.lib.toList != nm.toList) = false := by rw [hlib]; simp
                  have HLB := hidd hlib
                  clear hlib
                  have yq : W9.cell? ⟨Y, 1, none⟩ = some (.int .i64 0) := (cellO YBX.out).trans rfl
                  have yz := looseO (q := 1) YBX.out
                  have hc := heap_setCell_same W9 Y 1 _ 51 (.int .i64 (i : Int)) YBX.out
                  have END := hidd hc
                  have BE := hidd ((Below.refl Y W9).setCell (p := ⟨Y, 1, none⟩) (Nat.le_refl _) (.int .i64 (i : Int)))
                  clear hc hi
                  go_wp2_with fail
                  go_meet
                  case rel => exact ⟨none, 0, 0, by rw [END.out, HXP.out, HI.out]; rfl, BE.out, Nat.le_refl _, Dc.nil _ _ _ _, by unfold useE; rw [← HXP.out, HI.out]; simp [HLB.out]⟩
                · have hq1 : (x.lib.toList == nm.toList) = false := beqS_ne hlib
                  have hq2 : (x.lib.toList != nm.toList) = true := by simp only [bne, hq1, Bool.not_false]
                  have hl := HLY.out
                  have hue : useE gs nm x = 10 := by unfold useE; rw [← HXP.out]; simp [hi, hlib]
                  have hu7 : useU gs u = 10 := by rw [HUU.out, HK.out.2.2.2, fstE_step (List.getElem?_eq_some_iff.1 HXK.out).1, insU_at HXK.out, hue, if_neg (by decide)]
                  have hf := HFS.out
                  rw [hu7, if_neg (by decide)] at hf
                  rw [hf, if_neg (by simp)] at hl
                  have HL4 := hidd (HLF.out.trans hl)
                  clear hl hue hu7 hf hi hlib
                  go_wp2_with fail
                  refine (bad16_any _ _ _).mono ?_
                  rintro e WB ⟨rfl, hbB⟩
                  have L1 := hidd ((hbB.block _ (Array.getElem?_eq_some_iff.1 L9.out.r2).1).trans L9.out.r2)
                  have L2 := hidd ((hbB.block _ (Array.getElem?_eq_some_iff.1 L9.out.r3).1).trans L9.out.r3)
                  have LB := hidd (Below.trans L9.out.bl (hbB.mono (Below.size L9.out.bl)))
                  clear hbB
                  rw [← HNN.out] at L1 L2
                  have FA := hidd (fin5_at (W := WB) (by omega) L1.out L2.out (.slice none 0 0) (.slice none 0 0) (.slice none 0 0) (.int .i64 10) (.int .i64 t))
                  have FB := hidd (fin5_below LB.out (N2 := N) (N3 := N + 1) (by rw [HNN.out]; exact Nat.le_refl _) (by rw [HNN.out]; omega) (.slice none 0 0) (.slice none 0 0) (.slice none 0 0) (.int .i64 10) (.int .i64 t))
                  have k20 : WB.cell? ⟨N, 0, none⟩ = some (.slice none 0 0) := (cellO L1.out).trans rfl
                  have k21 : WB.cell? ⟨N, 1, none⟩ = some (.slice none 0 0) := (cellO L1.out).trans rfl
                  have k22 : WB.cell? ⟨N, 2, none⟩ = some (.slice none 0 0) := (cellO L1.out).trans rfl
                  have k30 : WB.cell? ⟨N + 1, 0, none⟩ = some (.int .i64 0) := (cellO L2.out).trans rfl
                  have k31 : WB.cell? ⟨N + 1, 1, none⟩ = some (.int .i64 0) := (cellO L2.out).trans rfl
                  have kz2 : ∀ q, WB.frozen? ⟨N, q, none⟩ = false := fun q => looseO L1.out
                  have kz3 : ∀ q, WB.frozen? ⟨N + 1, q, none⟩ = false := fun q => looseO L2.out
                  go_wp2_with fail
                  exact bodyPost_ret (ret8 FA.out.1 FA.out.2.1 rfl rfl) rfl (told_bad HL4.out (by decide) FB.out)
          · as_aux_lemma =>
              have hX := HX.out
              unfold placeI at hX
              rw [← HXP.out] at hX
              simp at hX
              subst hX
              rw [show kindB 13 = 103 from rfl]
              have hwY : wr.heap.size ≤ Y := by rw [HYE.out]; exact HB1.out.size
              have b9 : Below wr.heap.size wr W9 := HB1.out.trans (HB2.out.mono hwY)
              have b69 : Below V6.heap.size V6 W9 := by rw [← HQ.out]; exact HK.out.1.trans (b9.mono (Nat.le_of_lt HK.out.2.1.lt))
              have L9 := hidd (L26.out.on b69)
              have UB9 := (b69.block _ (Array.getElem?_eq_some_iff.1 UB6.out).1).trans UB6.out
              have z0 : W9.cell? ⟨xb, 0, none⟩ = some (.int .i64 13) := by rw [HXP.out]; exact (cellO HX9.out).trans rfl
              have z3 : W9.cell? ⟨xb, 3, none⟩ = some (.string x.lib) := (cellO HX9.out).trans rfl
              have z4 : W9.cell? ⟨xb, 4, none⟩ = some (.string x.own) := (cellO HX9.out).trans rfl
              have y0 : W9.cell? ⟨ub, 0, none⟩ = some (.string nm) := (cellO UB9).trans rfl
              have lk := L9.out.mp.look (x.lib, x.own) ⟨HIL.out.l3, HIL.out.l4⟩
              rw [← HMB.out] at lk
              clear hwY b9 b69 UB9
              cases hi : idxG gs (x.lib, x.own) with
              | none =>
                exfalso
                have hm : x ∈ allI us := List.mem_flatMap.2 ⟨u, HUM.out, by rw [← HXS.out]; exact List.mem_of_getElem? HXK.out⟩
                obtain ⟨k', hk'⟩ := List.mem_iff_getElem?.1 hm
                obtain ⟨i', hi', _⟩ := def_number hk' HXP.out.symm
                have hg : gs = defGs [] (allI us) := by rw [HGS.out, HN.out]; unfold defAll; rw [List.take_length]
                rw [hg, hi'] at hi
                cases hi
              | some i =>
                rw [hi] at lk
                simp only [Option.getD_some, Option.isSome_some] at lk
                have HI := hidd hi
                have yq : W9.cell? ⟨Y, 1, none⟩ = some (.int .i64 0) := (cellO YBX.out).trans rfl
                have yz := looseO (q := 1) YBX.out
                have hc := heap_setCell_same W9 Y 1 _ 51 (.int .i64 (i : Int)) YBX.out
                have END := hidd hc
                have BE := hidd ((Below.refl Y W9).setCell (p := ⟨Y, 1, none⟩) (Nat.le_refl _) (.int .i64 (i : Int)))
                clear hc hi
                go_wp2_with fail
                go_meet
                case rel => exact ⟨none, 0, 0, by rw [END.out, HXP.out, HI.out]; rfl, BE.out, Nat.le_refl _, Dc.nil _ _ _ _, by unfold useE; rw [← HXP.out]; simp [HI.out]⟩
          · as_aux_lemma =>
              have hX := HX.out
              unfold placeI at hX
              rw [← HXP.out] at hX
              simp at hX
              subst hX
              rw [show kindB 14 = 45 from rfl]
              go_wp2_with fail
              go_meet
              case rel => exact ⟨none, 0, 0, by rw [YBX.out, HXP.out]; rfl, Below.refl _ _, Nat.le_refl _, Dc.nil _ _ _ _, by unfold useE; rw [← HXP.out]; simp⟩
          · as_aux_lemma =>
              have hX := HX.out
              unfold placeI at hX
              rw [← HXP.out] at hX
              simp at hX
              subst hX
              rw [show kindB 15 = 45 from rfl]
              go_wp2_with fail
              go_meet
              case rel => exact ⟨none, 0, 0, by rw [YBX.out, HXP.out]; rfl, Below.refl _ _, Nat.le_refl _, Dc.nil _ _ _ _, by unfold useE; rw [← HXP.out]; simp⟩
        case rest =>
        obtain ⟨qa, qc, f, hYX, hbY, hqc, hdc, hue⟩ := hcut
        have hwY : wr.heap.size ≤ Y := by rw [HYE.out]; exact HB1.out.size
        have bwr : Below wr.heap.size wr wc := HB1.out.trans ((HB2.out.trans hbY).mono hwY)
        have aqc := HK.out.2.1.below bwr
        obtain ⟨cva, cvc, rfl, hcvc⟩ := own_slice aqc.row
        have tb := (Below.refl wc.heap.size wc).alloc (Nat.le_refl _) (.cells (ic X (.slice qa X.quote.kids.length qc)) 51)
        have aqt := aqc.below tb
        have hel : es.length = k := by
          have h1 := congrArg List.length HK.out.2.2.1
          simp at h1
          rw [h1, ← HCN.out]; omega
        have hsm := placeI_small gs pl HIL.out.l4 HIL.out.l7
        rw [← HX.out] at hsm
        have EOK := hidd (show IE.Ok (fun b => Q < b ∧ b < (wc.alloc (.cells (ic X (.slice qa X.quote.kids.length qc)) 51)).heap.size ∧ (Value.slice cva es.length cvc).ownBlock ≠ some b) (wc.alloc (.cells (ic X (.slice qa X.quote.kids.length qc)) 51)) ⟨X, qa, qc⟩ from ⟨hsm.1, hsm.2.1, hsm.2.2, hqc, f, Dc.stay (fun b hb => tb.block b hb.2) (fun b hb => ⟨by have := HK.out.2.1.lt; omega, Nat.lt_of_lt_of_le hb.2 tb.size, fun e => by have := (HK.out.2.1.row.lt b e).2; omega⟩) f _ _ hdc⟩)
        have AQT := hidd aqt
        have hBQ : Below Q V6 (wc.alloc (.cells (ic X (.slice qa X.quote.kids.length qc)) 51)) := by
          have hq : Q ≤ wr.heap.size := Nat.le_of_lt HK.out.2.1.lt
          exact (HK.out.1.trans (bwr.mono hq)).trans (tb.mono (Nat.le_trans hq bwr.size))
        have HBQ := hidd hBQ
        have HME : Hid ((es ++ [IE.mk X qa qc]).map IE.i = (P.code.take (k + 1)).map (placeI gs pl)) := by
          show (es ++ [IE.mk X qa qc]).map IE.i = (P.code.take (k + 1)).map (placeI gs pl)
          rw [HTK.out, List.map_append, List.map_append, HK.out.2.2.1, HX.out]
          simp
        have hfe := HK.out.2.2.2
        rw [fstE_step (List.getElem?_eq_some_iff.1 HXK.out).1, insU_at HXK.out, hue, if_pos rfl] at hfe
        have HF2 := hidd hfe
        have z1 : wc.cell? ⟨Q, 1, none⟩ = some (.slice cva es.length cvc) := (cellO aqc.box).trans rfl
        unfold ic at hYX EOK AQT HBQ
        have w0 : wc.cell? ⟨Y, 0, none⟩ = some (.int .i64 X.op) := (cellO hYX).trans rfl
        have w1 : wc.cell? ⟨Y, 1, none⟩ = some (.int .i64 X.a) := (cellO hYX).trans rfl
        have w2 : wc.cell? ⟨Y, 2, none⟩ = some (.int .i64 X.n) := (cellO hYX).trans rfl
        have w3 : wc.cell? ⟨Y, 3, none⟩ = some (.string X.lib) := (cellO hYX).trans rfl
        have w4 : wc.cell? ⟨Y, 4, none⟩ = some (.string X.own) := (cellO hYX).trans rfl
        have w5 : wc.cell? ⟨Y, 5, none⟩ = some (.int .i64 X.quote.kind) := (cellO hYX).trans rfl
        have w6 : wc.cell? ⟨Y, 6, none⟩ = some (.int .i64 X.quote.n) := (cellO hYX).trans rfl
        have w7 : wc.cell? ⟨Y, 7, none⟩ = some (.string X.quote.name) := (cellO hYX).trans rfl
        have w8 : wc.cell? ⟨Y, 8, none⟩ = some (.int .i64 X.quote.stamp) := (cellO hYX).trans rfl
        have w9 : wc.cell? ⟨Y, 9, none⟩ = some (.int .i64 X.quote.lib) := (cellO hYX).trans rfl
        have w10 : wc.cell? ⟨Y, 10, none⟩ = some (.slice qa X.quote.kids.length qc) := (cellO hYX).trans rfl
        obtain ⟨i0, hinf, hz0, hz1, hz2⟩ := info_parts infoIns
        obtain ⟨el, hele⟩ : ∃ v, v = es.length := ⟨_, rfl⟩
        have HEL := hidd hele
        have hel6 : el ≤ 6000 := by rw [hele, hel]; omega
        have OWN : Hid ((wc.alloc (.cells #[.int .i64 X.op, .int .i64 X.a, .int .i64 X.n, .string X.lib, .string X.own, .int .i64 X.quote.kind, .int .i64 X.quote.n, .string X.quote.name, .int .i64 X.quote.stamp, .int .i64 X.quote.lib, .slice qa X.quote.kids.length qc] 51)).ownsRow Q 51 11 (.slice cva el cvc) el (flatI es)) := by
          have := AQT.out.row
          rw [← hele] at this
          exact this
        have SRC := hidd (alloc1S wc #[.int .i64 X.op, .int .i64 X.a, .int .i64 X.n, .string X.lib, .string X.own, .int .i64 X.quote.kind, .int .i64 X.quote.n, .string X.quote.name, .int .i64 X.quote.stamp, .int .i64 X.quote.lib, .slice qa X.quote.kids.length qc] 51 (IE.cells ⟨X, qa, qc⟩) rfl)
        have BAS : Q ≤ (wc.alloc (.cells #[.int .i64 X.op, .int .i64 X.a, .int .i64 X.n, .string X.lib, .string X.own, .int .i64 X.quote.kind, .int .i64 X.quote.n, .string X.quote.name, .int .i64 X.quote.stamp, .int .i64 X.quote.lib, .slice qa X.quote.kids.length qc] 51)).heap.size := Nat.le_of_lt AQT.out.lt
        rw [← hele] at z1
        clear hel hele aqc aqt tb hBQ hfe hsm hdc hue hqc bwr hwY hbY hYX HK HB1 HB2 YBX XBX HX9
        go_wp2_with (at_builtin; refine wpList_rowS rfl _ _ 44 rfl Q 51 i0 _ 11 128 Tryd.underlying44 hinf hz0 hz1 hz2 rfl (by decide) (.slice cva el cvc) el (flatI es) rfl OWN.out (some ⟨wc.heap.size, 0, none⟩) 1 1 (IE.cells ⟨X, qa, qc⟩) rfl rfl (Or.inr ⟨_, 0, rfl, SRC.out⟩) (by simp [IE.cells, ic, Value.oneCell']) (by unfold maxLen; omega) (by omega) BAS ?_)
        intro v9 W10 hown9 hg9 hw9
        rw [HEL.out] at hown9 hg9 hw9
        obtain ⟨aq9, bq9, bx9⟩ := AQT.out.push ⟨X, qa, qc⟩ EOK.out hown9 hg9 (by simpa using hw9)
        obtain ⟨cva9, cvc9, rfl, hcvc9⟩ := own_slice hown9
        have AQ9 := hidd aq9
        have BQ9 := hidd (HBQ.out.trans bq9)
        have m1 : W10.cell? ⟨Q, 1, none⟩ = some (.slice cva es.length cvc) := (cellO bx9).trans rfl
        have mz : ∀ q, W10.frozen? ⟨Q, q, none⟩ = false := fun q => looseO bx9
        clear hown9 hg9 hw9 aq9 bq9 bx9 OWN SRC BAS z1 w0 w1 w2 w3 w4 w5 w6 w7 w8 w9 w10
        try simp only [Act.put, List.setIfInBounds_toArray, List.set_cons_succ, List.set_cons_zero]
        go_wp2_with fail
        go_roundw
        case rel => exact ⟨k + 1, _, _, by omega, by go_num, BQ9.out, AQ9.out, HME.out, by rw [← Nat.add_assoc]; exact HF2.out⟩
        case measure => simp [intOf]; omega
      obtain rfl : k = cn := by omega
      obtain ⟨cva, cvc, rfl, hcvc⟩ := own_slice HK.out.2.1.row
      have hel : es.length = k := by
        have h1 := congrArg List.length HK.out.2.2.1
        simp at h1
        rw [h1, ← HCN.out]; omega
      have bq : Below V6.heap.size V6 wr := by rw [← HQ.out]; exact HK.out.1
      have tb := (Below.refl wr.heap.size wr).alloc (Nat.le_refl _) (.cells #[.int .i64 P.args, .slice cva es.length cvc] 46)
      have L27 := hidd (L26.out.on (bq.trans (tb.mono bq.size)))
      have aq7 := HK.out.2.1.below tb
      rw [HQ.out] at aq7
      have FIT := hidd (L26.out.fits aq7)
      have UB7 := hidd (((bq.trans (tb.mono bq.size)).block _ (Array.getElem?_eq_some_iff.1 UB6.out).1).trans UB6.out)
      have l7 := L26.out.on bq
      have i1 : wr.cell? ⟨IB, 1, none⟩ = some (.slice pva ps2.length pvc) := by rw [HIB.out]; exact (cellO l7.im.box).trans rfl
      have z0 : wr.cell? ⟨Q, 0, none⟩ = some (.int .i64 P.args) := (cellO HK.out.2.1.box).trans rfl
      have z1 : wr.cell? ⟨Q, 1, none⟩ = some (.slice cva es.length cvc) := (cellO HK.out.2.1.box).trans rfl
      have HKE := hidd HK.out.2.2.1
      have hfe := HK.out.2.2.2
      have hKE : K0 + k = ((u.2.take (p + 1)).flatMap Pro.code).length := by rw [flat_next HPP.out, HK0.out, HCN.out]
      rw [hKE] at hfe
      have HF2 := hidd hfe
      have HPR : Hid ((ps2 ++ [PE.mk P.args es cva cvc]).map PE.pro = ps.map PE.pro ++ (u.2.take (p + 1)).map (placeP gs pl)) := by
        show (ps2 ++ [PE.mk P.args es cva cvc]).map PE.pro = ps.map PE.pro ++ (u.2.take (p + 1)).map (placeP gs pl)
        rw [List.map_append, HPE.out, List.take_add_one, HPP.out]
        have e1 : PE.pro (PE.mk P.args es cva cvc) = placeP gs pl P := by
          unfold PE.pro placeP
          simp only
          rw [HKE.out, List.take_of_length_le (by rw [← HCN.out]; exact Nat.le_refl _)]
        simp [e1]
      obtain ⟨i0, hinf, hz0, hz1, hz2⟩ := info_parts infoPro
      obtain ⟨pl2, hpl2e⟩ : ∃ v, v = ps2.length := ⟨_, rfl⟩
      have HPL2 := hidd hpl2e
      have OWN : Hid ((wr.alloc (.cells #[.int .i64 P.args, .slice cva es.length cvc] 46)).ownsRow w.heap.size 46 2 (.slice pva pl2 pvc) pl2 (flatP ps2)) := by
        have := L27.out.im.pr
        rw [← hpl2e] at this
        exact this
      have SRC := hidd (alloc1S wr #[.int .i64 P.args, .slice cva es.length cvc] 46 [.int .i64 P.args, .slice cva es.length cvc] rfl)
      have BAS : w.heap.size ≤ (wr.alloc (.cells #[.int .i64 P.args, .slice cva es.length cvc] 46)).heap.size := L27.out.bl.size
      rw [← hpl2e] at i1 hp2
      clear hel tb bq aq7 l7 hfe hKE HK hpl2e hpvc
      go_wp2_with (at_builtin; refine wpList_rowS rfl _ _ 24 rfl w.heap.size 46 i0 _ 2 32 Tryd.underlying24 hinf hz0 hz1 hz2 rfl (by decide) (.slice pva pl2 pvc) pl2 (flatP ps2) rfl OWN.out (some ⟨wr.heap.size, 0, none⟩) 1 1 [.int .i64 P.args, .slice cva es.length cvc] rfl rfl (Or.inr ⟨_, 0, rfl, SRC.out⟩) (by simp [Value.oneCell']) (by unfold maxLen; omega) (by omega) BAS ?_)
      intro v9 W9 hown9 hg9 hw9
      rw [HPL2.out] at hown9 hg9 hw9
      obtain ⟨im9, fm9⟩ := L27.out.im.proto FIT.out hown9 hg9 (by simpa using hw9)
      have l9 := L27.out.frame im9 fm9
      have ub9 := (fm9.keep ub (Array.getElem?_eq_some_iff.1 UB7.out).1 (L27.out.not_og UB7.out (fun e => by
        have h1 := L27.out.im.box
        rw [← e, UB7.out] at h1
        cases h1) (by decide) (by decide))).trans UB7.out
      have box9 : W9.heap[w.heap.size + 2]? = some (.cells #[.slice va gs.length vc, .slice pva ps2.length pvc, .slice sva4 (ss.length + 1) svc4] 27 (0, 0)) := (gk hg9 L27.out.im.lt L27.out.im.s1).trans L27.out.im.box
      obtain ⟨pva9, pvc9, rfl, hpvc9⟩ := own_slice hown9
      have L29 := hidd l9
      have UB9 := hidd ub9
      rw [← HIB.out] at L29 UB9 box9
      have m1 : W9.cell? ⟨IB, 1, none⟩ = some (.slice pva ps2.length pvc) := (cellO box9).trans rfl
      have mz : ∀ q, W9.frozen? ⟨IB, q, none⟩ = false := fun q => looseO box9
      clear hown9 hg9 hw9 im9 fm9 l9 ub9 box9 OWN SRC BAS i1 z0 z1 L27 UB7 L26 UB6 FIT
      try simp only [Act.put, List.setIfInBounds_toArray, List.set_cons_succ, List.set_cons_zero]
      go_wp2_with fail
      go_roundw
      case rel => exact ⟨p + 1, _, _, by omega, by go_num, L29.out, UB9.out, HPR.out, HF2.out⟩
      case measure => simp [intOf]; omega
    obtain rfl : p = un := by omega
    have hpx := HP.out.2.2.2
    rw [List.take_of_length_le (by rw [HUN.out]; exact Nat.le_refl _), ← HXS.out, Nat.sub_self, fstE] at hpx
    have hf := HFS.out
    rw [HUU.out, hpx, if_pos rfl] at hf
    have hi := HIN.out
    have HNX : Hid ((ps2.map PE.pro, ss ++ [(pl : Int)]) = imgS gs (us.take (t + 1))) := by
      show (ps2.map PE.pro, ss ++ [(pl : Int)]) = imgS gs (us.take (t + 1))
      rw [hi, ← HIMG.out]
      unfold imgStep
      have h1 := HP.out.2.2.1
      rw [List.take_of_length_le (by rw [HUN.out]; exact Nat.le_refl _)] at h1
      rw [h1, HPL.out]
      simp
    have HFN := hidd hf
    have L2N := hidd HP.out.1
    clear hpx hf hi HP
    go_wp2_with fail
    go_roundw
    case rel => exact ⟨t + 1, _, _, ps2, _, by omega, by go_num, L2N.out, HNX.out, HFN.out⟩
    case measure => simp [intOf]; omega
  obtain rfl : t = j := by omega
  have hz : fstF (unitU gs us) 0 t = (0, 0) := by
    have := HT.out.2.2
    rw [Nat.sub_self, fstF] at this
    exact this
  have hl := HLY.out
  rw [hz, if_pos rfl] at hl
  have HL4 := hidd (HLF.out.trans hl)
  have him := HT.out.2.1
  rw [List.take_of_length_le (by rw [HN.out]; exact Nat.le_refl _)] at him
  have hg2 : gs = defAll us us.length := by rw [HGS.out, HN.out]
  obtain ⟨pva, pvc, rfl, hpvc⟩ := own_slice HT.out.1.im.pr
  obtain ⟨sva, svc, rfl, hsvc⟩ := own_slice HT.out.1.im.sr
  have FIN := hidd (HT.out.1.done hg2 him)
  have r2 := HT.out.1.r2
  have r3 := HT.out.1.r3
  have FA := hidd (fin5_at (W := wr) (by omega) r2 r3 (.slice va gs.length vc) (.slice pva ps.length pvc) (.slice sva ss.length svc) (.int .i64 0) (.int .i64 0))
  have FB : Hid (Below w.heap.size w (fin5 wr N (N + 1) (.slice va gs.length vc) (.slice pva ps.length pvc) (.slice sva ss.length svc) (.int .i64 0) (.int .i64 0))) := fin5_below HT.out.1.bl (N2 := N) (N3 := N + 1) (by rw [HNN.out]; exact Nat.le_refl _) (by rw [HNN.out]; omega) (.slice va gs.length vc) (.slice pva ps.length pvc) (.slice sva ss.length svc) (.int .i64 0) (.int .i64 0)
  rw [← HNN.out] at FIN FA r2 r3
  have i0 : wr.cell? ⟨IB, 0, none⟩ = some (.slice va gs.length vc) := by rw [HIB.out]; exact (cellO HT.out.1.im.box).trans rfl
  have i1 : wr.cell? ⟨IB, 1, none⟩ = some (.slice pva ps.length pvc) := by rw [HIB.out]; exact (cellO HT.out.1.im.box).trans rfl
  have i2 : wr.cell? ⟨IB, 2, none⟩ = some (.slice sva ss.length svc) := by rw [HIB.out]; exact (cellO HT.out.1.im.box).trans rfl
  have k20 : wr.cell? ⟨N, 0, none⟩ = some (.slice none 0 0) := (cellO r2).trans rfl
  have k21 : wr.cell? ⟨N, 1, none⟩ = some (.slice none 0 0) := (cellO r2).trans rfl
  have k22 : wr.cell? ⟨N, 2, none⟩ = some (.slice none 0 0) := (cellO r2).trans rfl
  have k30 : wr.cell? ⟨N + 1, 0, none⟩ = some (.int .i64 0) := (cellO r3).trans rfl
  have k31 : wr.cell? ⟨N + 1, 1, none⟩ = some (.int .i64 0) := (cellO r3).trans rfl
  have kz2 : ∀ q, wr.frozen? ⟨N, q, none⟩ = false := fun q => looseO r2
  have kz3 : ∀ q, wr.frozen? ⟨N + 1, q, none⟩ = false := fun q => looseO r3
  clear hz hl him hg2 r2 r3 HT
  go_wp2_with fail
  exact bodyPost_ret (ret8 FA.out.1 FA.out.2.1 rfl rfl) rfl (told_ok HL4.out FB.out FIN.out)
end Go.Proofs.YtdnbingddbakaaaDoor
