/- The maker: an instruction put upon a tape. -/
import Derived.Test.YtfmanhkeclogfaaGreatDoorK16
namespace Go.Proofs.YtfmanhkeclogfaaGreatDoor
set_option linter.unusedVariables false
set_option linter.unusedSimpArgs false
open Go.RowKit

theorem infoIns : (Tryz.prog.info? 52).map (fun i => (i.zero, i.size, i.bytes)) = some (some (.agg #[.int .i64 0, .int .i64 0, .int .i64 0, .string ⟨#[]⟩, .string ⟨#[]⟩, .int .i64 0, .int .i64 0, .string ⟨#[]⟩, .int .i64 0, .int .i64 0, .slice none 0 0]), 11, 128) := by kernel_rfl
theorem infoPro : (Tryz.prog.info? 47).map (fun i => (i.zero, i.size, i.bytes)) = some (some (.agg #[.int .i64 0, .slice none 0 0]), 2, 32) := by kernel_rfl

set_option maxRecDepth 100000 in
set_option maxHeartbeats 1600000 in
theorem put_any (B : Nat) (X : Nat → Prop) (T M : Nat) (tv pv : Value) (is : List IE) (ps : List PE) (w : World) (i : In) (qa : Option Addr) (qc : Nat) (h : MK B X T M tv pv is ps w) (he : (IE.mk i qa qc).Ok (fun b => b < w.heap.size ∧ Fr T M tv pv b ∧ ¬ X b) w) (hlen : is.length ≤ 1000000000) :
    Calls Tryz.prog 73 #[.pointer (some ⟨T, 0, none⟩), iv i qa qc] w fun e w' => e = .returned (.int .i64 is.length) ∧ ∃ tv', MK B X T M tv' pv (is ++ [IE.mk i qa qc]) ps w' ∧ FR B T M tv pv tv' pv w w' := by
  have MK0 := hidd h
  have HE := hidd he
  have hT := h.tlt
  have ba : Below w.heap.size w (w.alloc (.cells #[.int .i64 i.op, .int .i64 i.a, .int .i64 i.n, .string i.lib, .string i.own, .int .i64 i.quote.kind, .int .i64 i.quote.n, .string i.quote.name, .int .i64 i.quote.stamp, .int .i64 i.quote.lib, .slice qa i.quote.kids.length qc] 52)).drew := Below.drew ((Below.refl _ _).alloc (Nat.le_refl _) _)
  have M1 := hidd (h.below ba)
  have BL2 : Hid (Below w.heap.size w ((w.alloc (.cells #[.int .i64 i.op, .int .i64 i.a, .int .i64 i.n, .string i.lib, .string i.own, .int .i64 i.quote.kind, .int .i64 i.quote.n, .string i.quote.name, .int .i64 i.quote.stamp, .int .i64 i.quote.lib, .slice qa i.quote.kids.length qc] 52)).drew.alloc (.cells #[.int .i64 i.op, .int .i64 i.a, .int .i64 i.n, .string i.lib, .string i.own, .int .i64 i.quote.kind, .int .i64 i.quote.n, .string i.quote.name, .int .i64 i.quote.stamp, .int .i64 i.quote.lib, .slice qa i.quote.kids.length qc] 52))) := ba.alloc (by simp [World.drew]) _
  have M2 := hidd (h.below BL2.out)
  have TB0 := hidd M1.out.tb
  have TB1 := hidd M2.out.tb
  clear h he ba
  obtain ⟨ta, tc, hts, htc⟩ := MK0.out.tslice
  subst hts
  unfold iv ic
  go_enter Tryz.func73, Tryz.ntmps73
  go_upto_region 1 with fail
  refine wp_region_held_drew (S := fun u => u.heap[w.heap.size]? = some (.cells #[.int .i64 i.op, .int .i64 i.a, .int .i64 i.n, .string i.lib, .string i.own, .int .i64 i.quote.kind, .int .i64 i.quote.n, .string i.quote.name, .int .i64 i.quote.stamp, .int .i64 i.quote.lib, .slice qa i.quote.kids.length qc] 52 (0, 0))) (by kernel_rfl) (World.alloc_heap_new w (.cells #[.int .i64 i.op, .int .i64 i.a, .int .i64 i.n, .string i.lib, .string i.own, .int .i64 i.quote.kind, .int .i64 i.quote.n, .string i.quote.name, .int .i64 i.quote.stamp, .int .i64 i.quote.lib, .slice qa i.quote.kids.length qc] 52)) (fun hS => ?_)
  refine wpAnyH_take (i := 0) (oi := { dst := some 5, op := Op.move (Operand.tmp 0), type := 127, pos := _, after := _, guard := none }) (v := .pointer (some ⟨T, 0, none⟩)) rfl (by kernel_rfl) (by kernel_rfl) (by kernel_rfl) (fun _ _ _ h => h) (Or.inl ⟨by rfl, fun u hu => by go_simp⟩) hS ?_
  simp only [Act.put, List.setIfInBounds_toArray, List.set_cons_zero, List.set_cons_succ]
  refine wpAnyH_take (i := 1) (oi := { dst := some 6, op := Op.move (Operand.tmp 0), type := 127, pos := _, after := _, guard := none }) (v := .pointer (some ⟨T, 0, none⟩)) rfl (by kernel_rfl) (by kernel_rfl) (by kernel_rfl) (fun _ _ _ h => h) (Or.inl ⟨by rfl, fun u hu => by go_simp⟩) hS ?_
  simp only [Act.put, List.setIfInBounds_toArray, List.set_cons_zero, List.set_cons_succ]
  refine wpAnyH_take (i := 2) (oi := { dst := some 7, op := Op.nilCheck (Operand.tmp 6), type := 0, pos := _, after := _, guard := none }) (v := .pointer (some ⟨T, 0, none⟩)) rfl (by kernel_rfl) (by kernel_rfl) (by kernel_rfl) (fun _ _ _ h => h) (Or.inl ⟨by rfl, fun u hu => by go_simp⟩) hS ?_
  simp only [Act.put, List.setIfInBounds_toArray, List.set_cons_zero, List.set_cons_succ]
  refine wpAnyH_take (i := 4) (oi := { dst := some 9, op := Op.load 52 (Operand.tmp 3), type := 52, pos := _, after := _, guard := none }) (v := .agg #[.int .i64 i.op, .int .i64 i.a, .int .i64 i.n, .string i.lib, .string i.own, .int .i64 i.quote.kind, .int .i64 i.quote.n, .string i.quote.name, .int .i64 i.quote.stamp, .int .i64 i.quote.lib, .slice qa i.quote.kids.length qc]) rfl (by kernel_rfl) (by kernel_rfl) (by kernel_rfl) (fun _ _ _ h => h) (Or.inl ⟨by rfl, fun u hu => by (have z : ∀ q, u.cell? ⟨w.heap.size, q, none⟩ = #[.int .i64 i.op, .int .i64 i.a, .int .i64 i.n, .string i.lib, .string i.own, .int .i64 i.quote.kind, .int .i64 i.quote.n, .string i.quote.name, .int .i64 i.quote.stamp, .int .i64 i.quote.lib, .slice qa i.quote.kids.length qc][q]? := (fun q => by simp [World.cell?, show u.heap[w.heap.size]? = _ from hu]); have z0 := z 0; have z1 := z 1; have z2 := z 2; have z3 := z 3; have z4 := z 4; have z5 := z 5; have z6 := z 6; have z7 := z 7; have z8 := z 8; have z9 := z 9; have z10 := z 10; simp at z0 z1 z2 z3 z4 z5 z6 z7 z8 z9 z10; go_simp)⟩) hS ?_
  simp only [Act.put, List.setIfInBounds_toArray, List.set_cons_zero, List.set_cons_succ]
  refine wpAnyH_ready (rs := [3, 5]) (by kernel_rfl) (by simp) (AllReadyH.cons (o := { dst := some 8, op := Op.load 165 (Operand.tmp 7), type := 165, pos := _, after := _, guard := none }) rfl (fun K hK => ?_) (AllReadyH.cons (o := { dst := some 10, op := Op.buildSlice 165 1 #[(0, Operand.tmp 9)], type := 165, pos := _, after := _, guard := none }) rfl (fun K hK => ?_) AllReadyH.nil))
  · have zt : ((w.alloc (.cells #[.int .i64 i.op, .int .i64 i.a, .int .i64 i.n, .string i.lib, .string i.own, .int .i64 i.quote.kind, .int .i64 i.quote.n, .string i.quote.name, .int .i64 i.quote.stamp, .int .i64 i.quote.lib, .slice qa i.quote.kids.length qc] 52)).drew).cell? ⟨T, 0, none⟩ = some (.slice ta is.length tc) := by simp [World.cell?, show ((w.alloc (.cells #[.int .i64 i.op, .int .i64 i.a, .int .i64 i.n, .string i.lib, .string i.own, .int .i64 i.quote.kind, .int .i64 i.quote.n, .string i.quote.name, .int .i64 i.quote.stamp, .int .i64 i.quote.lib, .slice qa i.quote.kids.length qc] 52)).drew).heap[T]? = _ from TB0.out]
    go_simp
    clear zt
    refine hK.out _ _ hS (fun hS => ?_)
    clear hK K
    refine wpAnyH_ready (rs := [5]) (by kernel_rfl) (by simp) (AllReadyH.cons (o := { dst := some 10, op := Op.buildSlice 165 1 #[(0, Operand.tmp 9)], type := 165, pos := _, after := _, guard := none }) rfl (fun K hK => ?_) AllReadyH.nil)
    go_simp
    have hS1 : ((w.alloc (.cells #[.int .i64 i.op, .int .i64 i.a, .int .i64 i.n, .string i.lib, .string i.own, .int .i64 i.quote.kind, .int .i64 i.quote.n, .string i.quote.name, .int .i64 i.quote.stamp, .int .i64 i.quote.lib, .slice qa i.quote.kids.length qc] 52)).drew.alloc (.cells #[.int .i64 i.op, .int .i64 i.a, .int .i64 i.n, .string i.lib, .string i.own, .int .i64 i.quote.kind, .int .i64 i.quote.n, .string i.quote.name, .int .i64 i.quote.stamp, .int .i64 i.quote.lib, .slice qa i.quote.kids.length qc] 52)).heap[w.heap.size]? = some (.cells #[.int .i64 i.op, .int .i64 i.a, .int .i64 i.n, .string i.lib, .string i.own, .int .i64 i.quote.kind, .int .i64 i.quote.n, .string i.quote.name, .int .i64 i.quote.stamp, .int .i64 i.quote.lib, .slice qa i.quote.kids.length qc] 52 (0, 0)) := (Below.heap_alloc _ _ _ (by simp [World.drew])).trans hS
    have AC : Hid (∀ q, ((w.alloc (.cells #[.int .i64 i.op, .int .i64 i.a, .int .i64 i.n, .string i.lib, .string i.own, .int .i64 i.quote.kind, .int .i64 i.quote.n, .string i.quote.name, .int .i64 i.quote.stamp, .int .i64 i.quote.lib, .slice qa i.quote.kids.length qc] 52)).drew.alloc (.cells #[.int .i64 i.op, .int .i64 i.a, .int .i64 i.n, .string i.lib, .string i.own, .int .i64 i.quote.kind, .int .i64 i.quote.n, .string i.quote.name, .int .i64 i.quote.stamp, .int .i64 i.quote.lib, .slice qa i.quote.kids.length qc] 52)).cell? ⟨w.heap.size + 1, q, none⟩ = (#[.int .i64 i.op, .int .i64 i.a, .int .i64 i.n, .string i.lib, .string i.own, .int .i64 i.quote.kind, .int .i64 i.quote.n, .string i.quote.name, .int .i64 i.quote.stamp, .int .i64 i.quote.lib, .slice qa i.quote.kids.length qc] : Array Value)[q]?) := fun q => by
      have := World.cell?_alloc_mark (w.alloc (.cells #[.int .i64 i.op, .int .i64 i.a, .int .i64 i.n, .string i.lib, .string i.own, .int .i64 i.quote.kind, .int .i64 i.quote.n, .string i.quote.name, .int .i64 i.quote.stamp, .int .i64 i.quote.lib, .slice qa i.quote.kids.length qc] 52)).drew #[.int .i64 i.op, .int .i64 i.a, .int .i64 i.n, .string i.lib, .string i.own, .int .i64 i.quote.kind, .int .i64 i.quote.n, .string i.quote.name, .int .i64 i.quote.stamp, .int .i64 i.quote.lib, .slice qa i.quote.kids.length qc] 52 (0, 0) q
      simpa [World.drew] using this
    change K _ ((w.alloc (.cells #[.int .i64 i.op, .int .i64 i.a, .int .i64 i.n, .string i.lib, .string i.own, .int .i64 i.quote.kind, .int .i64 i.quote.n, .string i.quote.name, .int .i64 i.quote.stamp, .int .i64 i.quote.lib, .slice qa i.quote.kids.length qc] 52)).drew.alloc (.cells #[.int .i64 i.op, .int .i64 i.a, .int .i64 i.n, .string i.lib, .string i.own, .int .i64 i.quote.kind, .int .i64 i.quote.n, .string i.quote.name, .int .i64 i.quote.stamp, .int .i64 i.quote.lib, .slice qa i.quote.kids.length qc] 52))
    generalize (w.alloc (.cells #[.int .i64 i.op, .int .i64 i.a, .int .i64 i.n, .string i.lib, .string i.own, .int .i64 i.quote.kind, .int .i64 i.quote.n, .string i.quote.name, .int .i64 i.quote.stamp, .int .i64 i.quote.lib, .slice qa i.quote.kids.length qc] 52)).drew.alloc (.cells #[.int .i64 i.op, .int .i64 i.a, .int .i64 i.n, .string i.lib, .string i.own, .int .i64 i.quote.kind, .int .i64 i.quote.n, .string i.quote.name, .int .i64 i.quote.stamp, .int .i64 i.quote.lib, .slice qa i.quote.kids.length qc] 52) = W1 at hS1 M2 BL2 TB1 AC ⊢
    refine hK.out _ _ hS1 (fun hS => ?_)
    clear hK K
    refine wpAnyH_ready (rs := [6]) (by kernel_rfl) (by simp) (AllReadyH.cons (o := { dst := some 11, op := Op.call { callee := Callee.builtin Builtin.append, args := #[Operand.tmp 8, Operand.tmp 10], argTypes := #[165, 165] }, type := 165, pos := _, after := _, guard := none }) rfl (fun K hK => ?_) AllReadyH.nil)
    obtain ⟨i0, hinf, hz0, hz1, hz2⟩ := info_parts infoIns
    refine step_append_where rfl (.tmp 8) (.tmp 10) 165 rfl B 52 i0 _ 11 128 Tryz.underlying165 hinf hz0 hz1 hz2 rfl (by decide) (.slice ta is.length tc) is.length (flatI is) rfl (by exact M2.out.tr) ⟨w.heap.size + 1, 0, none⟩ 1 1 (IE.mk i qa qc).cells rfl rfl ?_ (IE.one _) (by decide) ?_ ?_ ?_ ?_
    · intro q u hq
      have hcell := AC.out q
      have hadd := addr_add (w.heap.size + 1) q
      rw [hadd, hcell]
      simpa [IE.cells, ic] using hq
    · unfold maxLen; omega
    · omega
    · exact M2.out.ble
    intro tv' w4 hown4 hg4 hw4
    obtain ⟨hmk, hfr⟩ := MK0.out.push BL2.out (IE.mk i qa qc) HE.out hown4 hg4 hw4
    have HP := hidd (⟨hmk, hfr⟩ : _ ∧ _)
    have T4 : w4.heap[T]? = some (.cells #[.slice ta is.length tc] 165 (0, 0)) := (hg4.block T M2.out.tlt (fun e => MK0.out.s1 e.symm)).trans M2.out.tb
    have hS4 : w4.heap[w.heap.size]? = some (.cells #[.int .i64 i.op, .int .i64 i.a, .int .i64 i.n, .string i.lib, .string i.own, .int .i64 i.quote.kind, .int .i64 i.quote.n, .string i.quote.name, .int .i64 i.quote.stamp, .int .i64 i.quote.lib, .slice qa i.quote.kids.length qc] 52 (0, 0)) := (hg4.block _ (Array.getElem?_eq_some_iff.1 hS).1 (fun e => by have := (MK0.out.tr.lt _ e.symm).2; omega)).trans hS
    have TB4 := hidd T4
    clear hmk hfr hown4 hg4 hw4 T4
    show K _ w4
    refine hK.out _ _ hS4 (fun hS => ?_)
    clear hK K
    refine wpAnyH_take (i := 7) (oi := { dst := some 12, op := Op.nilCheck (Operand.tmp 5), type := 0, pos := _, after := _, guard := none }) (v := .pointer (some ⟨T, 0, none⟩)) rfl (by kernel_rfl) (by kernel_rfl) (by kernel_rfl) (fun _ _ _ h => h) (Or.inl ⟨by rfl, fun u hu => by go_simp⟩) hS ?_
    simp only [Act.put, List.setIfInBounds_toArray, List.set_cons_zero, List.set_cons_succ]
    refine wpAnyH_ready (rs := [8]) (by kernel_rfl) (by simp) (AllReadyH.cons (o := { dst := none, op := Op.store 165 (Operand.tmp 12) (Operand.tmp 11), type := 0, pos := _, after := _, guard := none }) rfl (fun K hK => ?_) AllReadyH.nil)
    obtain ⟨sa, sc, hsv, _⟩ := HP.out.1.tslice
    have n0 : w4.cell? ⟨T, 0, none⟩ = some (.slice ta is.length tc) := by simp [World.cell?, TB4.out]
    have nz : w4.frozen? ⟨T, 0, none⟩ = false := by simp [World.frozen?, TB4.out]
    rw [List.length_append, List.length_singleton] at hsv
    subst hsv
    go_simp
    clear n0 nz
    have hS5 : (w4.setCell ⟨T, 0, none⟩ (.slice sa (is.length + 1) sc)).heap[w.heap.size]? = some (.cells #[.int .i64 i.op, .int .i64 i.a, .int .i64 i.n, .string i.lib, .string i.own, .int .i64 i.quote.kind, .int .i64 i.quote.n, .string i.quote.name, .int .i64 i.quote.stamp, .int .i64 i.quote.lib, .slice qa i.quote.kids.length qc] 52 (0, 0)) := (Below.heap_setCell _ _ _ _ (by show w.heap.size ≠ T; omega)).trans hS
    change K _ (w4.setCell ⟨T, 0, none⟩ (.slice sa (is.length + 1) sc))
    generalize w4.setCell ⟨T, 0, none⟩ (.slice sa (is.length + 1) sc) = w5 at HP hS5 ⊢
    clear TB4
    refine hK.out _ _ hS5 (fun hS => ?_)
    clear hK K
    refine wpAnyH_done (by kernel_rfl) ?_ _
    have n0 : w5.cell? ⟨T, 0, none⟩ = some (.slice sa (is.length + 1) sc) := by simp [World.cell?, HP.out.1.tb]
    go_wp2_with fail
    go_ret
    exact ⟨by simp, _, HP.out.1, HP.out.2⟩
  · go_simp
    have hS1 : ((w.alloc (.cells #[.int .i64 i.op, .int .i64 i.a, .int .i64 i.n, .string i.lib, .string i.own, .int .i64 i.quote.kind, .int .i64 i.quote.n, .string i.quote.name, .int .i64 i.quote.stamp, .int .i64 i.quote.lib, .slice qa i.quote.kids.length qc] 52)).drew.alloc (.cells #[.int .i64 i.op, .int .i64 i.a, .int .i64 i.n, .string i.lib, .string i.own, .int .i64 i.quote.kind, .int .i64 i.quote.n, .string i.quote.name, .int .i64 i.quote.stamp, .int .i64 i.quote.lib, .slice qa i.quote.kids.length qc] 52)).heap[w.heap.size]? = some (.cells #[.int .i64 i.op, .int .i64 i.a, .int .i64 i.n, .string i.lib, .string i.own, .int .i64 i.quote.kind, .int .i64 i.quote.n, .string i.quote.name, .int .i64 i.quote.stamp, .int .i64 i.quote.lib, .slice qa i.quote.kids.length qc] 52 (0, 0)) := (Below.heap_alloc _ _ _ (by simp [World.drew])).trans hS
    have AC : Hid (∀ q, ((w.alloc (.cells #[.int .i64 i.op, .int .i64 i.a, .int .i64 i.n, .string i.lib, .string i.own, .int .i64 i.quote.kind, .int .i64 i.quote.n, .string i.quote.name, .int .i64 i.quote.stamp, .int .i64 i.quote.lib, .slice qa i.quote.kids.length qc] 52)).drew.alloc (.cells #[.int .i64 i.op, .int .i64 i.a, .int .i64 i.n, .string i.lib, .string i.own, .int .i64 i.quote.kind, .int .i64 i.quote.n, .string i.quote.name, .int .i64 i.quote.stamp, .int .i64 i.quote.lib, .slice qa i.quote.kids.length qc] 52)).cell? ⟨w.heap.size + 1, q, none⟩ = (#[.int .i64 i.op, .int .i64 i.a, .int .i64 i.n, .string i.lib, .string i.own, .int .i64 i.quote.kind, .int .i64 i.quote.n, .string i.quote.name, .int .i64 i.quote.stamp, .int .i64 i.quote.lib, .slice qa i.quote.kids.length qc] : Array Value)[q]?) := fun q => by
      have := World.cell?_alloc_mark (w.alloc (.cells #[.int .i64 i.op, .int .i64 i.a, .int .i64 i.n, .string i.lib, .string i.own, .int .i64 i.quote.kind, .int .i64 i.quote.n, .string i.quote.name, .int .i64 i.quote.stamp, .int .i64 i.quote.lib, .slice qa i.quote.kids.length qc] 52)).drew #[.int .i64 i.op, .int .i64 i.a, .int .i64 i.n, .string i.lib, .string i.own, .int .i64 i.quote.kind, .int .i64 i.quote.n, .string i.quote.name, .int .i64 i.quote.stamp, .int .i64 i.quote.lib, .slice qa i.quote.kids.length qc] 52 (0, 0) q
      simpa [World.drew] using this
    change K _ ((w.alloc (.cells #[.int .i64 i.op, .int .i64 i.a, .int .i64 i.n, .string i.lib, .string i.own, .int .i64 i.quote.kind, .int .i64 i.quote.n, .string i.quote.name, .int .i64 i.quote.stamp, .int .i64 i.quote.lib, .slice qa i.quote.kids.length qc] 52)).drew.alloc (.cells #[.int .i64 i.op, .int .i64 i.a, .int .i64 i.n, .string i.lib, .string i.own, .int .i64 i.quote.kind, .int .i64 i.quote.n, .string i.quote.name, .int .i64 i.quote.stamp, .int .i64 i.quote.lib, .slice qa i.quote.kids.length qc] 52))
    generalize (w.alloc (.cells #[.int .i64 i.op, .int .i64 i.a, .int .i64 i.n, .string i.lib, .string i.own, .int .i64 i.quote.kind, .int .i64 i.quote.n, .string i.quote.name, .int .i64 i.quote.stamp, .int .i64 i.quote.lib, .slice qa i.quote.kids.length qc] 52)).drew.alloc (.cells #[.int .i64 i.op, .int .i64 i.a, .int .i64 i.n, .string i.lib, .string i.own, .int .i64 i.quote.kind, .int .i64 i.quote.n, .string i.quote.name, .int .i64 i.quote.stamp, .int .i64 i.quote.lib, .slice qa i.quote.kids.length qc] 52) = W1 at hS1 M2 BL2 TB1 AC ⊢
    refine hK.out _ _ hS1 (fun hS => ?_)
    clear hK K
    refine wpAnyH_ready (rs := [3]) (by kernel_rfl) (by simp) (AllReadyH.cons (o := { dst := some 8, op := Op.load 165 (Operand.tmp 7), type := 165, pos := _, after := _, guard := none }) rfl (fun K hK => ?_) AllReadyH.nil)
    have zt : (W1).cell? ⟨T, 0, none⟩ = some (.slice ta is.length tc) := by simp [World.cell?, show (W1).heap[T]? = _ from TB1.out]
    go_simp
    clear zt
    refine hK.out _ _ hS (fun hS => ?_)
    clear hK K
    refine wpAnyH_ready (rs := [6]) (by kernel_rfl) (by simp) (AllReadyH.cons (o := { dst := some 11, op := Op.call { callee := Callee.builtin Builtin.append, args := #[Operand.tmp 8, Operand.tmp 10], argTypes := #[165, 165] }, type := 165, pos := _, after := _, guard := none }) rfl (fun K hK => ?_) AllReadyH.nil)
    obtain ⟨i0, hinf, hz0, hz1, hz2⟩ := info_parts infoIns
    refine step_append_where rfl (.tmp 8) (.tmp 10) 165 rfl B 52 i0 _ 11 128 Tryz.underlying165 hinf hz0 hz1 hz2 rfl (by decide) (.slice ta is.length tc) is.length (flatI is) rfl (by exact M2.out.tr) ⟨w.heap.size + 1, 0, none⟩ 1 1 (IE.mk i qa qc).cells rfl rfl ?_ (IE.one _) (by decide) ?_ ?_ ?_ ?_
    · intro q u hq
      have hcell := AC.out q
      have hadd := addr_add (w.heap.size + 1) q
      rw [hadd, hcell]
      simpa [IE.cells, ic] using hq
    · unfold maxLen; omega
    · omega
    · exact M2.out.ble
    intro tv' w4 hown4 hg4 hw4
    obtain ⟨hmk, hfr⟩ := MK0.out.push BL2.out (IE.mk i qa qc) HE.out hown4 hg4 hw4
    have HP := hidd (⟨hmk, hfr⟩ : _ ∧ _)
    have T4 : w4.heap[T]? = some (.cells #[.slice ta is.length tc] 165 (0, 0)) := (hg4.block T M2.out.tlt (fun e => MK0.out.s1 e.symm)).trans M2.out.tb
    have hS4 : w4.heap[w.heap.size]? = some (.cells #[.int .i64 i.op, .int .i64 i.a, .int .i64 i.n, .string i.lib, .string i.own, .int .i64 i.quote.kind, .int .i64 i.quote.n, .string i.quote.name, .int .i64 i.quote.stamp, .int .i64 i.quote.lib, .slice qa i.quote.kids.length qc] 52 (0, 0)) := (hg4.block _ (Array.getElem?_eq_some_iff.1 hS).1 (fun e => by have := (MK0.out.tr.lt _ e.symm).2; omega)).trans hS
    have TB4 := hidd T4
    clear hmk hfr hown4 hg4 hw4 T4
    show K _ w4
    refine hK.out _ _ hS4 (fun hS => ?_)
    clear hK K
    refine wpAnyH_take (i := 7) (oi := { dst := some 12, op := Op.nilCheck (Operand.tmp 5), type := 0, pos := _, after := _, guard := none }) (v := .pointer (some ⟨T, 0, none⟩)) rfl (by kernel_rfl) (by kernel_rfl) (by kernel_rfl) (fun _ _ _ h => h) (Or.inl ⟨by rfl, fun u hu => by go_simp⟩) hS ?_
    simp only [Act.put, List.setIfInBounds_toArray, List.set_cons_zero, List.set_cons_succ]
    refine wpAnyH_ready (rs := [8]) (by kernel_rfl) (by simp) (AllReadyH.cons (o := { dst := none, op := Op.store 165 (Operand.tmp 12) (Operand.tmp 11), type := 0, pos := _, after := _, guard := none }) rfl (fun K hK => ?_) AllReadyH.nil)
    obtain ⟨sa, sc, hsv, _⟩ := HP.out.1.tslice
    have n0 : w4.cell? ⟨T, 0, none⟩ = some (.slice ta is.length tc) := by simp [World.cell?, TB4.out]
    have nz : w4.frozen? ⟨T, 0, none⟩ = false := by simp [World.frozen?, TB4.out]
    rw [List.length_append, List.length_singleton] at hsv
    subst hsv
    go_simp
    clear n0 nz
    have hS5 : (w4.setCell ⟨T, 0, none⟩ (.slice sa (is.length + 1) sc)).heap[w.heap.size]? = some (.cells #[.int .i64 i.op, .int .i64 i.a, .int .i64 i.n, .string i.lib, .string i.own, .int .i64 i.quote.kind, .int .i64 i.quote.n, .string i.quote.name, .int .i64 i.quote.stamp, .int .i64 i.quote.lib, .slice qa i.quote.kids.length qc] 52 (0, 0)) := (Below.heap_setCell _ _ _ _ (by show w.heap.size ≠ T; omega)).trans hS
    change K _ (w4.setCell ⟨T, 0, none⟩ (.slice sa (is.length + 1) sc))
    generalize w4.setCell ⟨T, 0, none⟩ (.slice sa (is.length + 1) sc) = w5 at HP hS5 ⊢
    clear TB4
    refine hK.out _ _ hS5 (fun hS => ?_)
    clear hK K
    refine wpAnyH_done (by kernel_rfl) ?_ _
    have n0 : w5.cell? ⟨T, 0, none⟩ = some (.slice sa (is.length + 1) sc) := by simp [World.cell?, HP.out.1.tb]
    go_wp2_with fail
    go_ret
    exact ⟨by simp, _, HP.out.1, HP.out.2⟩
end Go.Proofs.YtfmanhkeclogfaaGreatDoor
