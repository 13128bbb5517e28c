/- The maker: a closure that writes one kid's code. -/
import Derived.Test.YtbbmdhkbndgdkaaCv
namespace Go.Proofs.Ytbbmdhkbndgdkaa
set_option linter.unusedVariables false
set_option linter.unusedSimpArgs false
open Go.RowKit

/-- The two boxes of core, and two of the node's cells. -/
structure Bx (bm bc M b o : Nat) (i : Int) (ka : Option Addr) (kn kc : Nat) (u : World) : Prop where
  bm : u.heap[bm]? = some (.cells #[.pointer (some ⟨M, 0, none⟩)] 68 (0, 0))
  bc : u.heap[bc]? = some (.cells #[.pointer (some ⟨b, o, none⟩)] 72 (0, 0))
  i : u.cell? ⟨b, o + 1, none⟩ = some (.int .i64 i)
  k : u.cell? ⟨b, o + 11, none⟩ = some (.slice ka kn kc)
theorem Bx.next {bm bc M b o : Nat} {i : Int} {ka : Option Addr} {kn kc : Nat} {u u' : World} (h : Bx bm bc M b o i ka kn kc u) {B T : Nat} {tv pv tv' pv' : Value} (hm : Fr T M tv pv bm) (hc : Fr T M tv pv bc) (hf : FR B T M tv pv tv' pv' u u') (hb : b < B) : Bx bm bc M b o i ka kn kc u' :=
  ⟨(hf.keep _ (Array.getElem?_eq_some_iff.1 h.bm).1 hm).trans h.bm, (hf.keep _ (Array.getElem?_eq_some_iff.1 h.bc).1 hc).trans h.bc, (hf.low.cell (p := ⟨b, o + 1, none⟩) hb).trans h.i, (hf.low.cell (p := ⟨b, o + 11, none⟩) hb).trans h.k⟩
theorem Bx.drew {bm bc M b o : Nat} {i : Int} {ka : Option Addr} {kn kc : Nat} {u : World} (h : Bx bm bc M b o i ka kn kc u) : Bx bm bc M b o i ka kn kc u.drew := ⟨h.bm, h.bc, h.i, h.k⟩

set_option maxRecDepth 100000 in
set_option maxHeartbeats 800000 in
theorem clos37_any (B : Nat) (X : Nat → Prop) (T M : Nat) (tv pv : Value) (is : List IE) (ps : List PE) (g : List In × List Pro) (bm bc b o kb ko kc : Nat) (i : Int) (w : World) (hbx : Bx bm bc M b o i (some ⟨kb, ko, none⟩) 1 kc w) (hkc : 1 ≤ kc) (hfm : Fr T M tv pv bm) (hfc : Fr T M tv pv bc) (hbB : b < B) (hble : B ≤ w.heap.size)
    (hcall : Calls Try.prog 28 #[.pointer (some ⟨M, 0, none⟩), .pointer (some ⟨T, 0, none⟩), .pointer (some ⟨kb, ko, none⟩)] w.drew (ToldM B X T M tv pv is ps g w.drew)) :
    Calls Try.prog 37 #[.pointer (some ⟨T, 0, none⟩), .pointer (some ⟨bm, 0, none⟩), .pointer (some ⟨bc, 0, none⟩)] w (ToldM B X T M tv pv is ps g w) := by
  have CALL := hidd hcall
  clear hcall
  go_enter Try.func37, Try.ntmps37
  refine wp_region_held_drew (S := fun u => Bx bm bc M b o i (some ⟨kb, ko, none⟩) 1 kc u) (by kernel_rfl) hbx.drew (fun hS => ?_)
  refine wpAnyH_take (i := 0) (oi := { dst := some 4, op := Op.load 68 (Operand.tmp 1), type := 68, pos := _, after := _, guard := none }) (v := .pointer (some ⟨M, 0, none⟩)) rfl (by kernel_rfl) (by kernel_rfl) (by kernel_rfl) (fun _ _ _ h => h) (Or.inl ⟨by rfl, fun u hu => by (have z : u.cell? ⟨bm, 0, none⟩ = some (.pointer (some ⟨M, 0, none⟩)) := (by simp [World.cell?, show u.heap[bm]? = _ from hu.bm]); go_simp)⟩) hS ?_
  simp only [Act.put, List.setIfInBounds_toArray, List.set_cons_zero, List.set_cons_succ]
  refine wpAnyH_take (i := 1) (oi := { dst := some 5, op := Op.move (Operand.tmp 0), type := 70, pos := _, after := _, guard := none }) (v := .pointer (some ⟨T, 0, none⟩)) rfl (by kernel_rfl) (by kernel_rfl) (by kernel_rfl) (fun _ _ _ h => h) (Or.inl ⟨by rfl, fun u hu => by go_simp⟩) hS ?_
  simp only [Act.put, List.setIfInBounds_toArray, List.set_cons_zero, List.set_cons_succ]
  refine wpAnyH_take (i := 2) (oi := { dst := some 6, op := Op.load 72 (Operand.tmp 2), type := 72, pos := _, after := _, guard := none }) (v := .pointer (some ⟨b, o, none⟩)) rfl (by kernel_rfl) (by kernel_rfl) (by kernel_rfl) (fun _ _ _ h => h) (Or.inl ⟨by rfl, fun u hu => by (have z : u.cell? ⟨bc, 0, none⟩ = some (.pointer (some ⟨b, o, none⟩)) := (by simp [World.cell?, show u.heap[bc]? = _ from hu.bc]); go_simp)⟩) hS ?_
  simp only [Act.put, List.setIfInBounds_toArray, List.set_cons_zero, List.set_cons_succ]
  refine wpAnyH_take (i := 3) (oi := { dst := some 7, op := Op.nilCheck (Operand.tmp 6), type := 0, pos := _, after := _, guard := none }) (v := .pointer (some ⟨b, o, none⟩)) rfl (by kernel_rfl) (by kernel_rfl) (by kernel_rfl) (fun _ _ _ h => h) (Or.inl ⟨by rfl, fun u hu => by go_simp⟩) hS ?_
  simp only [Act.put, List.setIfInBounds_toArray, List.set_cons_zero, List.set_cons_succ]
  refine wpAnyH_take (i := 4) (oi := { dst := some 8, op := Op.fieldAddr 40 (Operand.tmp 7) 6, type := 0, pos := _, after := _, guard := none }) (v := .pointer (some ⟨b, o + 11, none⟩)) rfl (by kernel_rfl) (by kernel_rfl) (by kernel_rfl) (fun _ _ _ h => h) (Or.inl ⟨by rfl, fun u hu => by go_simp⟩) hS ?_
  simp only [Act.put, List.setIfInBounds_toArray, List.set_cons_zero, List.set_cons_succ]
  refine wpAnyH_take (i := 5) (oi := { dst := some 9, op := Op.load 22 (Operand.tmp 8), type := 22, pos := _, after := _, guard := none }) (v := .slice (some ⟨kb, ko, none⟩) 1 kc) rfl (by kernel_rfl) (by kernel_rfl) (by kernel_rfl) (fun _ _ _ h => h) (Or.inl ⟨by rfl, fun u hu => by (have z := hu.k; go_simp)⟩) hS ?_
  simp only [Act.put, List.setIfInBounds_toArray, List.set_cons_zero, List.set_cons_succ]
  refine wpAnyH_take (i := 6) (oi := { dst := some 10, op := Op.indexAddr 22 (Operand.tmp 9) (Operand.const (Value.int IntKind.i64 0)), type := 0, pos := _, after := _, guard := none }) (v := .pointer (some ⟨kb, ko, none⟩)) rfl (by kernel_rfl) (by kernel_rfl) (by kernel_rfl) (fun _ _ _ h => h) (Or.inl ⟨by rfl, fun u hu => by go_simp⟩) hS ?_
  simp only [Act.put, List.setIfInBounds_toArray, List.set_cons_zero, List.set_cons_succ]
  refine wpAnyH_ready (rs := [7]) (by kernel_rfl) (by simp) (AllReadyH.cons (o := { dst := some 11, op := Op.call { callee := Callee.value (Operand.func 28), args := #[Operand.tmp 4, Operand.tmp 5, Operand.tmp 10], argTypes := #[68, 70, 72] }, type := 0, pos := _, after := _, guard := none }) rfl (fun K hK => ?_) AllReadyH.nil)
  go_simp
  refine CALL.out.mono ?_
  rintro e w2 hto
  obtain ⟨rfl, tv2, pv2, is2, ps2, hi2, hp2, mk2, fr2⟩ := hto
  have hS2 := hS.next hfm hfc fr2 hbB
  have TO : Hid (ToldM B X T M tv pv is ps g w (.returned (.tuple #[])) w2) := ⟨rfl, tv2, pv2, is2, ps2, hi2, hp2, mk2, (FR.of_below (Below.drew (Below.refl _ _)) hble).trans fr2⟩
  clear hi2 hp2 mk2 fr2
  show K _ w2
  refine hK.out _ _ hS2 (fun hS => ?_)
  clear hK K
  refine wpAnyH_done (by kernel_rfl) ?_ _
  go_wp2_with fail
  go_end0
  exact TO.out
end Go.Proofs.Ytbbmdhkbndgdkaa
