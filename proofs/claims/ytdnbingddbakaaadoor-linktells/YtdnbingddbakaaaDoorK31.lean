/- Chapter 10: how globals are used. -/
import Derived.Test.YtdnbingddbakaaaDoorK30
import Derived.Test.YtdnbingddbakaaaDoorK24
import Derived.Test.YtdnbingddbakaaaDoorK24
namespace Go.Proofs.YtdnbingddbakaaaDoor
set_option linter.unusedVariables false
set_option linter.unusedSimpArgs false
open Go.RowKit

/-- What is wrong with an instruction that uses a global. -/
def useE (gs : List Gl) (nm : ByteArray) (x : In) : Int :=
  if x.op = 5 ∨ x.op = 12 then (if (idxG gs (x.lib, x.own)).isSome = true then (if x.op = 12 ∧ x.lib ≠ nm then 10 else 0) else 7) else 0
set_option maxRecDepth 100000 in
set_option maxHeartbeats 6400000 in
theorem use34_any (B t m : Nat) (gs : List Gl) (bv : Value) (x : In) (b o : Nat) (qa : Option Addr) (qc : Nat) (nm : ByteArray) (w : World) (hil : IL B w b o x qa qc) (hb : b < B) (hT : TB B t m gs bv w) :
    Calls Tryd.prog 34 #[.pointer (some ⟨t, 0, none⟩), .string nm, .pointer (some ⟨b, o, none⟩)] w fun e w' => e = .returned (.int .i64 (useE gs nm x)) ∧ Below w.heap.size w w' := by
  obtain ⟨y, hy⟩ : ∃ y, y = useE gs nm x := ⟨_, rfl⟩
  rw [← hy]
  have HY : Hid (y = if x.op = 5 ∨ x.op = 12 then (if (idxG gs (x.lib, x.own)).isSome = true then (if x.op = 12 ∧ x.lib ≠ nm then 10 else 0) else 7) else 0) := hy
  have c0 := hil.c0
  have c3 := hil.c3
  have c4 := hil.c4
  have LK : Hid (∀ u, Below w.heap.size w u → _) := hidd (fun u hu => (hT.mp.kept (w' := u) (hu.block _ hT.mp.lt)).look (x.lib, x.own) ⟨hil.l3, hil.l4⟩)
  have HT := hidd hT
  have hBw : B ≤ w.heap.size := Nat.le_trans hT.bt (Nat.le_of_lt (Array.getElem?_eq_some_iff.1 hT.tb).1)
  have hbw : b < w.heap.size := Nat.lt_of_lt_of_le hb hBw
  obtain ⟨xl, hxl⟩ : ∃ v, v = x.lib := ⟨_, rfl⟩
  obtain ⟨xo, hxo⟩ : ∃ v, v = x.own := ⟨_, rfl⟩
  obtain ⟨xp, hxp⟩ : ∃ v, v = x.op := ⟨_, rfl⟩
  rw [← hxl, ← hxo] at LK
  rw [← hxp, ← hxl, ← hxo] at HY
  rw [← hxp] at c0
  rw [← hxl] at c3
  rw [← hxo] at c4
  clear hy hil hT hxl hxo hxp
  obtain ⟨ix, hix⟩ : ∃ i, i = idxG gs (xl, xo) := ⟨_, rfl⟩
  rw [← hix] at LK HY
  clear hix
  by_cases h5 : xp = 5
  · subst h5
    have hyy := HY.out
    rw [if_pos (Or.inl rfl)] at hyy
    clear HY
    cases ix with
    | none =>
      simp only [Option.isSome_none, Option.getD_none] at LK hyy
      rw [if_neg (by simp)] at hyy
      subst hyy
      go_enter Tryd.func34, Tryd.ntmps34
      go_upto_region 4 with fail
      refine wp_region_held_drew (S := fun u => Below w.heap.size w u) (by kernel_rfl) (Below.drew (Below.refl _ _)) (fun hS => ?_)
      refine wpAnyH_take (i := 0) (oi := { dst := some 17, op := Op.move (Operand.tmp 0), type := 67, pos := _, after := _, guard := none }) (v := .pointer (some ⟨t, 0, none⟩)) rfl (by kernel_rfl) (by kernel_rfl) (by kernel_rfl) (fun _ _ _ h => h) (Or.inl ⟨by rfl, fun u hu => by go_simp⟩) hS ?_
      simp only [Act.put, List.setIfInBounds_toArray, List.set_cons_zero, List.set_cons_succ]
      refine wpAnyH_take (i := 1) (oi := { dst := some 18, op := Op.nilCheck (Operand.tmp 17), type := 0, pos := _, after := _, guard := none }) (v := .pointer (some ⟨t, 0, none⟩)) rfl (by kernel_rfl) (by kernel_rfl) (by kernel_rfl) (fun _ _ _ h => h) (Or.inl ⟨by rfl, fun u hu => by go_simp⟩) hS ?_
      simp only [Act.put, List.setIfInBounds_toArray, List.set_cons_zero, List.set_cons_succ]
      refine wpAnyH_take (i := 2) (oi := { dst := some 19, op := Op.fieldAddr 55 (Operand.tmp 18) 1, type := 0, pos := _, after := _, guard := none }) (v := .pointer (some ⟨t, 1, none⟩)) rfl (by kernel_rfl) (by kernel_rfl) (by kernel_rfl) (fun _ _ _ h => h) (Or.inl ⟨by rfl, fun u hu => by go_simp⟩) hS ?_
      simp only [Act.put, List.setIfInBounds_toArray, List.set_cons_zero, List.set_cons_succ]
      refine wpAnyH_take (i := 3) (oi := { dst := some 20, op := Op.load 53 (Operand.tmp 19), type := 53, pos := _, after := _, guard := none }) (v := .map (some m)) rfl (by kernel_rfl) (by kernel_rfl) (by kernel_rfl) (fun _ _ _ h => h) (Or.inl ⟨by rfl, fun u hu => by (have z : u.cell? ⟨t, 1, none⟩ = some (.map (some m)) := (cellO ((hu.block _ (Array.getElem?_eq_some_iff.1 HT.out.tb).1).trans HT.out.tb)).trans rfl; go_simp)⟩) hS ?_
      simp only [Act.put, List.setIfInBounds_toArray, List.set_cons_zero, List.set_cons_succ]
      refine wpAnyH_take (i := 4) (oi := { dst := some 21, op := Op.move (Operand.tmp 2), type := 72, pos := _, after := _, guard := none }) (v := .pointer (some ⟨b, o, none⟩)) rfl (by kernel_rfl) (by kernel_rfl) (by kernel_rfl) (fun _ _ _ h => h) (Or.inl ⟨by rfl, fun u hu => by go_simp⟩) hS ?_
      simp only [Act.put, List.setIfInBounds_toArray, List.set_cons_zero, List.set_cons_succ]
      refine wpAnyH_ready (rs := [5]) (by kernel_rfl) (by simp) (AllReadyH.cons (o := { dst := some 22, op := Op.call { callee := Callee.value (Operand.func 31), args := #[Operand.tmp 21], argTypes := #[72] }, type := 75, pos := _, after := _, guard := none }) rfl (fun K hK => ?_) AllReadyH.nil)
      go_simp
      refine (globalOf_any b o (xl, xo) _ (Nat.lt_of_lt_of_le hbw hS.size) ((hS.cell (p := ⟨b, o + 3, none⟩) hbw).trans c3) ((hS.cell (p := ⟨b, o + 4, none⟩) hbw).trans c4)).mono ?_
      rintro e W1 ⟨rfl, hb1⟩
      have hS1 := hS.trans (hb1.mono hS.size)
      clear hb1
      show K _ W1
      refine hK.out _ _ hS1 (fun hS => ?_)
      clear hK K
      refine wpAnyH_take (i := 6) (oi := { dst := some 23, op := Op.lookup 53 (Operand.tmp 20) (Operand.tmp 22) true, type := 61, pos := _, after := _, guard := none }) (v := .tuple #[.int .i64 ((0 : Nat) : Int), .bool false]) rfl (by kernel_rfl) (by kernel_rfl) (by kernel_rfl) (fun _ _ _ h => h) (Or.inl ⟨by rfl, fun u hu => by (have z := LK.out u hu; go_simp)⟩) hS ?_
      simp only [Act.put, List.setIfInBounds_toArray, List.set_cons_zero, List.set_cons_succ]
      refine wpAnyH_take (i := 7) (oi := { dst := some 16, op := Op.move (Operand.tmp 23), type := 61, pos := _, after := _, guard := none }) (v := .tuple #[.int .i64 ((0 : Nat) : Int), .bool false]) rfl (by kernel_rfl) (by kernel_rfl) (by kernel_rfl) (fun _ _ _ h => h) (Or.inl ⟨by rfl, fun u hu => by go_simp⟩) hS ?_
      simp only [Act.put, List.setIfInBounds_toArray, List.set_cons_zero, List.set_cons_succ]
      refine wpAnyH_take (i := 8) (oi := { dst := some 24, op := Op.extract (Operand.tmp 16) 0, type := 3, pos := _, after := _, guard := none }) (v := .int .i64 ((0 : Nat) : Int)) rfl (by kernel_rfl) (by kernel_rfl) (by kernel_rfl) (fun _ _ _ h => h) (Or.inl ⟨by rfl, fun u hu => by go_simp⟩) hS ?_
      simp only [Act.put, List.setIfInBounds_toArray, List.set_cons_zero, List.set_cons_succ]
      refine wpAnyH_take (i := 9) (oi := { dst := some 25, op := Op.extract (Operand.tmp 16) 1, type := 4, pos := _, after := _, guard := none }) (v := .bool false) rfl (by kernel_rfl) (by kernel_rfl) (by kernel_rfl) (fun _ _ _ h => h) (Or.inl ⟨by rfl, fun u hu => by go_simp⟩) hS ?_
      simp only [Act.put, List.setIfInBounds_toArray, List.set_cons_zero, List.set_cons_succ]
      refine wpAnyH_take (i := 10) (oi := { dst := some 7, op := Op.assign (Operand.tmp 24), type := 3, pos := _, after := _, guard := none }) (v := .int .i64 ((0 : Nat) : Int)) rfl (by kernel_rfl) (by kernel_rfl) (by kernel_rfl) (fun _ _ _ h => h) (Or.inl ⟨by rfl, fun u hu => by go_simp⟩) hS ?_
      simp only [Act.put, List.setIfInBounds_toArray, List.set_cons_zero, List.set_cons_succ]
      refine wpAnyH_take (i := 11) (oi := { dst := some 8, op := Op.assign (Operand.tmp 25), type := 4, pos := _, after := _, guard := none }) (v := .bool false) rfl (by kernel_rfl) (by kernel_rfl) (by kernel_rfl) (fun _ _ _ h => h) (Or.inl ⟨by rfl, fun u hu => by go_simp⟩) hS ?_
      simp only [Act.put, List.setIfInBounds_toArray, List.set_cons_zero, List.set_cons_succ]
      refine wpAnyH_done (by kernel_rfl) ?_ _
      go_wp2_with fail
      go_ret
      exact ⟨rfl, hS⟩
    | some i =>
      simp only [Option.isSome_some, Option.getD_some] at LK hyy
      rw [if_pos trivial, if_neg (by simp)] at hyy
      subst hyy
      go_enter Tryd.func34, Tryd.ntmps34
      go_upto_region 4 with fail
      refine wp_region_held_drew (S := fun u => Below w.heap.size w u) (by kernel_rfl) (Below.drew (Below.refl _ _)) (fun hS => ?_)
      refine wpAnyH_take (i := 0) (oi := { dst := some 17, op := Op.move (Operand.tmp 0), type := 67, pos := _, after := _, guard := none }) (v := .pointer (some ⟨t, 0, none⟩)) rfl (by kernel_rfl) (by kernel_rfl) (by kernel_rfl) (fun _ _ _ h => h) (Or.inl ⟨by rfl, fun u hu => by go_simp⟩) hS ?_
      simp only [Act.put, List.setIfInBounds_toArray, List.set_cons_zero, List.set_cons_succ]
      refine wpAnyH_take (i := 1) (oi := { dst := some 18, op := Op.nilCheck (Operand.tmp 17), type := 0, pos := _, after := _, guard := none }) (v := .pointer (some ⟨t, 0, none⟩)) rfl (by kernel_rfl) (by kernel_rfl) (by kernel_rfl) (fun _ _ _ h => h) (Or.inl ⟨by rfl, fun u hu => by go_simp⟩) hS ?_
      simp only [Act.put, List.setIfInBounds_toArray, List.set_cons_zero, List.set_cons_succ]
      refine wpAnyH_take (i := 2) (oi := { dst := some 19, op := Op.fieldAddr 55 (Operand.tmp 18) 1, type := 0, pos := _, after := _, guard := none }) (v := .pointer (some ⟨t, 1, none⟩)) rfl (by kernel_rfl) (by kernel_rfl) (by kernel_rfl) (fun _ _ _ h => h) (Or.inl ⟨by rfl, fun u hu => by go_simp⟩) hS ?_
      simp only [Act.put, List.setIfInBounds_toArray, List.set_cons_zero, List.set_cons_succ]
      refine wpAnyH_take (i := 3) (oi := { dst := some 20, op := Op.load 53 (Operand.tmp 19), type := 53, pos := _, after := _, guard := none }) (v := .map (some m)) rfl (by kernel_rfl) (by kernel_rfl) (by kernel_rfl) (fun _ _ _ h => h) (Or.inl ⟨by rfl, fun u hu => by (have z : u.cell? ⟨t, 1, none⟩ = some (.map (some m)) := (cellO ((hu.block _ (Array.getElem?_eq_some_iff.1 HT.out.tb).1).trans HT.out.tb)).trans rfl; go_simp)⟩) hS ?_
      simp only [Act.put, List.setIfInBounds_toArray, List.set_cons_zero, List.set_cons_succ]
      refine wpAnyH_take (i := 4) (oi := { dst := some 21, op := Op.move (Operand.tmp 2), type := 72, pos := _, after := _, guard := none }) (v := .pointer (some ⟨b, o, none⟩)) rfl (by kernel_rfl) (by kernel_rfl) (by kernel_rfl) (fun _ _ _ h => h) (Or.inl ⟨by rfl, fun u hu => by go_simp⟩) hS ?_
      simp only [Act.put, List.setIfInBounds_toArray, List.set_cons_zero, List.set_cons_succ]
      refine wpAnyH_ready (rs := [5]) (by kernel_rfl) (by simp) (AllReadyH.cons (o := { dst := some 22, op := Op.call { callee := Callee.value (Operand.func 31), args := #[Operand.tmp 21], argTypes := #[72] }, type := 75, pos := _, after := _, guard := none }) rfl (fun K hK => ?_) AllReadyH.nil)
      go_simp
      refine (globalOf_any b o (xl, xo) _ (Nat.lt_of_lt_of_le hbw hS.size) ((hS.cell (p := ⟨b, o + 3, none⟩) hbw).trans c3) ((hS.cell (p := ⟨b, o + 4, none⟩) hbw).trans c4)).mono ?_
      rintro e W1 ⟨rfl, hb1⟩
      have hS1 := hS.trans (hb1.mono hS.size)
      clear hb1
      show K _ W1
      refine hK.out _ _ hS1 (fun hS => ?_)
      clear hK K
      refine wpAnyH_take (i := 6) (oi := { dst := some 23, op := Op.lookup 53 (Operand.tmp 20) (Operand.tmp 22) true, type := 61, pos := _, after := _, guard := none }) (v := .tuple #[.int .i64 (i : Int), .bool true]) rfl (by kernel_rfl) (by kernel_rfl) (by kernel_rfl) (fun _ _ _ h => h) (Or.inl ⟨by rfl, fun u hu => by (have z := LK.out u hu; go_simp)⟩) hS ?_
      simp only [Act.put, List.setIfInBounds_toArray, List.set_cons_zero, List.set_cons_succ]
      refine wpAnyH_take (i := 7) (oi := { dst := some 16, op := Op.move (Operand.tmp 23), type := 61, pos := _, after := _, guard := none }) (v := .tuple #[.int .i64 (i : Int), .bool true]) rfl (by kernel_rfl) (by kernel_rfl) (by kernel_rfl) (fun _ _ _ h => h) (Or.inl ⟨by rfl, fun u hu => by go_simp⟩) hS ?_
      simp only [Act.put, List.setIfInBounds_toArray, List.set_cons_zero, List.set_cons_succ]
      refine wpAnyH_take (i := 8) (oi := { dst := some 24, op := Op.extract (Operand.tmp 16) 0, type := 3, pos := _, after := _, guard := none }) (v := .int .i64 (i : Int)) rfl (by kernel_rfl) (by kernel_rfl) (by kernel_rfl) (fun _ _ _ h => h) (Or.inl ⟨by rfl, fun u hu => by go_simp⟩) hS ?_
      simp only [Act.put, List.setIfInBounds_toArray, List.set_cons_zero, List.set_cons_succ]
      refine wpAnyH_take (i := 9) (oi := { dst := some 25, op := Op.extract (Operand.tmp 16) 1, type := 4, pos := _, after := _, guard := none }) (v := .bool true) rfl (by kernel_rfl) (by kernel_rfl) (by kernel_rfl) (fun _ _ _ h => h) (Or.inl ⟨by rfl, fun u hu => by go_simp⟩) hS ?_
      simp only [Act.put, List.setIfInBounds_toArray, List.set_cons_zero, List.set_cons_succ]
      refine wpAnyH_take (i := 10) (oi := { dst := some 7, op := Op.assign (Operand.tmp 24), type := 3, pos := _, after := _, guard := none }) (v := .int .i64 (i : Int)) rfl (by kernel_rfl) (by kernel_rfl) (by kernel_rfl) (fun _ _ _ h => h) (Or.inl ⟨by rfl, fun u hu => by go_simp⟩) hS ?_
      simp only [Act.put, List.setIfInBounds_toArray, List.set_cons_zero, List.set_cons_succ]
      refine wpAnyH_take (i := 11) (oi := { dst := some 8, op := Op.assign (Operand.tmp 25), type := 4, pos := _, after := _, guard := none }) (v := .bool true) rfl (by kernel_rfl) (by kernel_rfl) (by kernel_rfl) (fun _ _ _ h => h) (Or.inl ⟨by rfl, fun u hu => by go_simp⟩) hS ?_
      simp only [Act.put, List.setIfInBounds_toArray, List.set_cons_zero, List.set_cons_succ]
      refine wpAnyH_done (by kernel_rfl) ?_ _
      have e0 := (hS.cell (p := ⟨b, o, none⟩) hbw).trans c0
      have e3 := (hS.cell (p := ⟨b, o + 3, none⟩) hbw).trans c3
      go_wp2_with fail
      go_ret
      exact ⟨rfl, hS⟩
  · by_cases h12 : xp = 12
    · subst h12
      have hyy := HY.out
      rw [if_pos (Or.inr rfl)] at hyy
      clear HY
      cases ix with
      | none =>
        simp only [Option.isSome_none, Option.getD_none] at LK hyy
        rw [if_neg (by simp)] at hyy
        subst hyy
        go_enter Tryd.func34, Tryd.ntmps34
        go_upto_region 4 with fail
        refine wp_region_held_drew (S := fun u => Below w.heap.size w u) (by kernel_rfl) (Below.drew (Below.refl _ _)) (fun hS => ?_)
        refine wpAnyH_take (i := 0) (oi := { dst := some 17, op := Op.move (Operand.tmp 0), type := 67, pos := _, after := _, guard := none }) (v := .pointer (some ⟨t, 0, none⟩)) rfl (by kernel_rfl) (by kernel_rfl) (by kernel_rfl) (fun _ _ _ h => h) (Or.inl ⟨by rfl, fun u hu => by go_simp⟩) hS ?_
        simp only [Act.put, List.setIfInBounds_toArray, List.set_cons_zero, List.set_cons_succ]
        refine wpAnyH_take (i := 1) (oi := { dst := some 18, op := Op.nilCheck (Operand.tmp 17), type := 0, pos := _, after := _, guard := none }) (v := .pointer (some ⟨t, 0, none⟩)) rfl (by kernel_rfl) (by kernel_rfl) (by kernel_rfl) (fun _ _ _ h => h) (Or.inl ⟨by rfl, fun u hu => by go_simp⟩) hS ?_
        simp only [Act.put, List.setIfInBounds_toArray, List.set_cons_zero, List.set_cons_succ]
        refine wpAnyH_take (i := 2) (oi := { dst := some 19, op := Op.fieldAddr 55 (Operand.tmp 18) 1, type := 0, pos := _, after := _, guard := none }) (v := .pointer (some ⟨t, 1, none⟩)) rfl (by kernel_rfl) (by kernel_rfl) (by kernel_rfl) (fun _ _ _ h => h) (Or.inl ⟨by rfl, fun u hu => by go_simp⟩) hS ?_
        simp only [Act.put, List.setIfInBounds_toArray, List.set_cons_zero, List.set_cons_succ]
        refine wpAnyH_take (i := 3) (oi := { dst := some 20, op := Op.load 53 (Operand.tmp 19), type := 53, pos := _, after := _, guard := none }) (v := .map (some m)) rfl (by kernel_rfl) (by kernel_rfl) (by kernel_rfl) (fun _ _ _ h => h) (Or.inl ⟨by rfl, fun u hu => by (have z : u.cell? ⟨t, 1, none⟩ = some (.map (some m)) := (cellO ((hu.block _ (Array.getElem?_eq_some_iff.1 HT.out.tb).1).trans HT.out.tb)).trans rfl; go_simp)⟩) hS ?_
        simp only [Act.put, List.setIfInBounds_toArray, List.set_cons_zero, List.set_cons_succ]
        refine wpAnyH_take (i := 4) (oi := { dst := some 21, op := Op.move (Operand.tmp 2), type := 72, pos := _, after := _, guard := none }) (v := .pointer (some ⟨b, o, none⟩)) rfl (by kernel_rfl) (by kernel_rfl) (by kernel_rfl) (fun _ _ _ h => h) (Or.inl ⟨by rfl, fun u hu => by go_simp⟩) hS ?_
        simp only [Act.put, List.setIfInBounds_toArray, List.set_cons_zero, List.set_cons_succ]
        refine wpAnyH_ready (rs := [5]) (by kernel_rfl) (by simp) (AllReadyH.cons (o := { dst := some 22, op := Op.call { callee := Callee.value (Operand.func 31), args := #[Operand.tmp 21], argTypes := #[72] }, type := 75, pos := _, after := _, guard := none }) rfl (fun K hK => ?_) AllReadyH.nil)
        go_simp
        refine (globalOf_any b o (xl, xo) _ (Nat.lt_of_lt_of_le hbw hS.size) ((hS.cell (p := ⟨b, o + 3, none⟩) hbw).trans c3) ((hS.cell (p := ⟨b, o + 4, none⟩) hbw).trans c4)).mono ?_
        rintro e W1 ⟨rfl, hb1⟩
        have hS1 := hS.trans (hb1.mono hS.size)
        clear hb1
        show K _ W1
        refine hK.out _ _ hS1 (fun hS => ?_)
        clear hK K
        refine wpAnyH_take (i := 6) (oi := { dst := some 23, op := Op.lookup 53 (Operand.tmp 20) (Operand.tmp 22) true, type := 61, pos := _, after := _, guard := none }) (v := .tuple #[.int .i64 ((0 : Nat) : Int), .bool false]) rfl (by kernel_rfl) (by kernel_rfl) (by kernel_rfl) (fun _ _ _ h => h) (Or.inl ⟨by rfl, fun u hu => by (have z := LK.out u hu; go_simp)⟩) hS ?_
        simp only [Act.put, List.setIfInBounds_toArray, List.set_cons_zero, List.set_cons_succ]
        refine wpAnyH_take (i := 7) (oi := { dst := some 16, op := Op.move (Operand.tmp 23), type := 61, pos := _, after := _, guard := none }) (v := .tuple #[.int .i64 ((0 : Nat) : Int), .bool false]) rfl (by kernel_rfl) (by kernel_rfl) (by kernel_rfl) (fun _ _ _ h => h) (Or.inl ⟨by rfl, fun u hu => by go_simp⟩) hS ?_
        simp only [Act.put, List.setIfInBounds_toArray, List.set_cons_zero, List.set_cons_succ]
        refine wpAnyH_take (i := 8) (oi := { dst := some 24, op := Op.extract (Operand.tmp 16) 0, type := 3, pos := _, after := _, guard := none }) (v := .int .i64 ((0 : Nat) : Int)) rfl (by kernel_rfl) (by kernel_rfl) (by kernel_rfl) (fun _ _ _ h => h) (Or.inl ⟨by rfl, fun u hu => by go_simp⟩) hS ?_
        simp only [Act.put, List.setIfInBounds_toArray, List.set_cons_zero, List.set_cons_succ]
        refine wpAnyH_take (i := 9) (oi := { dst := some 25, op := Op.extract (Operand.tmp 16) 1, type := 4, pos := _, after := _, guard := none }) (v := .bool false) rfl (by kernel_rfl) (by kernel_rfl) (by kernel_rfl) (fun _ _ _ h => h) (Or.inl ⟨by rfl, fun u hu => by go_simp⟩) hS ?_
        simp only [Act.put, List.setIfInBounds_toArray, List.set_cons_zero, List.set_cons_succ]
        refine wpAnyH_take (i := 10) (oi := { dst := some 7, op := Op.assign (Operand.tmp 24), type := 3, pos := _, after := _, guard := none }) (v := .int .i64 ((0 : Nat) : Int)) rfl (by kernel_rfl) (by kernel_rfl) (by kernel_rfl) (fun _ _ _ h => h) (Or.inl ⟨by rfl, fun u hu => by go_simp⟩) hS ?_
        simp only [Act.put, List.setIfInBounds_toArray, List.set_cons_zero, List.set_cons_succ]
        refine wpAnyH_take (i := 11) (oi := { dst := some 8, op := Op.assign (Operand.tmp 25), type := 4, pos := _, after := _, guard := none }) (v := .bool false) rfl (by kernel_rfl) (by kernel_rfl) (by kernel_rfl) (fun _ _ _ h => h) (Or.inl ⟨by rfl, fun u hu => by go_simp⟩) hS ?_
        simp only [Act.put, List.setIfInBounds_toArray, List.set_cons_zero, List.set_cons_succ]
        refine wpAnyH_done (by kernel_rfl) ?_ _
        go_wp2_with fail
        go_ret
        exact ⟨rfl, hS⟩
      | some i =>
        simp only [Option.isSome_some, Option.getD_some] at LK hyy
        rw [if_pos trivial] at hyy
        by_cases hne : xl = nm
        · rw [if_neg (fun h => h.2 hne)] at hyy
          have hq : (xl.toList != nm.toList) = false := by rw [hne]; simp
          have hq2 : (xl.toList == nm.toList) = true := by rw [hne]; simp
          clear hne
          subst hyy
          go_enter Tryd.func34, Tryd.ntmps34
          go_upto_region 4 with fail
          refine wp_region_held_drew (S := fun u => Below w.heap.size w u) (by kernel_rfl) (Below.drew (Below.refl _ _)) (fun hS => ?_)
          refine wpAnyH_take (i := 0) (oi := { dst := some 17, op := Op.move (Operand.tmp 0), type := 67, pos := _, after := _, guard := none }) (v := .pointer (some ⟨t, 0, none⟩)) rfl (by kernel_rfl) (by kernel_rfl) (by kernel_rfl) (fun _ _ _ h => h) (Or.inl ⟨by rfl, fun u hu => by go_simp⟩) hS ?_
          simp only [Act.put, List.setIfInBounds_toArray, List.set_cons_zero, List.set_cons_succ]
          refine wpAnyH_take (i := 1) (oi := { dst := some 18, op := Op.nilCheck (Operand.tmp 17), type := 0, pos := _, after := _, guard := none }) (v := .pointer (some ⟨t, 0, none⟩)) rfl (by kernel_rfl) (by kernel_rfl) (by kernel_rfl) (fun _ _ _ h => h) (Or.inl ⟨by rfl, fun u hu => by go_simp⟩) hS ?_
          simp only [Act.put, List.setIfInBounds_toArray, List.set_cons_zero, List.set_cons_succ]
          refine wpAnyH_take (i := 2) (oi := { dst := some 19, op := Op.fieldAddr 55 (Operand.tmp 18) 1, type := 0, pos := _, after := _, guard := none }) (v := .pointer (some ⟨t, 1, none⟩)) rfl (by kernel_rfl) (by kernel_rfl) (by kernel_rfl) (fun _ _ _ h => h) (Or.inl ⟨by rfl, fun u hu => by go_simp⟩) hS ?_
          simp only [Act.put, List.setIfInBounds_toArray, List.set_cons_zero, List.set_cons_succ]
          refine wpAnyH_take (i := 3) (oi := { dst := some 20, op := Op.load 53 (Operand.tmp 19), type := 53, pos := _, after := _, guard := none }) (v := .map (some m)) rfl (by kernel_rfl) (by kernel_rfl) (by kernel_rfl) (fun _ _ _ h => h) (Or.inl ⟨by rfl, fun u hu => by (have z : u.cell? ⟨t, 1, none⟩ = some (.map (some m)) := (cellO ((hu.block _ (Array.getElem?_eq_some_iff.1 HT.out.tb).1).trans HT.out.tb)).trans rfl; go_simp)⟩) hS ?_
          simp only [Act.put, List.setIfInBounds_toArray, List.set_cons_zero, List.set_cons_succ]
          refine wpAnyH_take (i := 4) (oi := { dst := some 21, op := Op.move (Operand.tmp 2), type := 72, pos := _, after := _, guard := none }) (v := .pointer (some ⟨b, o, none⟩)) rfl (by kernel_rfl) (by kernel_rfl) (by kernel_rfl) (fun _ _ _ h => h) (Or.inl ⟨by rfl, fun u hu => by go_simp⟩) hS ?_
          simp only [Act.put, List.setIfInBounds_toArray, List.set_cons_zero, List.set_cons_succ]
          refine wpAnyH_ready (rs := [5]) (by kernel_rfl) (by simp) (AllReadyH.cons (o := { dst := some 22, op := Op.call { callee := Callee.value (Operand.func 31), args := #[Operand.tmp 21], argTypes := #[72] }, type := 75, pos := _, after := _, guard := none }) rfl (fun K hK => ?_) AllReadyH.nil)
          go_simp
          refine (globalOf_any b o (xl, xo) _ (Nat.lt_of_lt_of_le hbw hS.size) ((hS.cell (p := ⟨b, o + 3, none⟩) hbw).trans c3) ((hS.cell (p := ⟨b, o + 4, none⟩) hbw).trans c4)).mono ?_
          rintro e W1 ⟨rfl, hb1⟩
          have hS1 := hS.trans (hb1.mono hS.size)
          clear hb1
          show K _ W1
          refine hK.out _ _ hS1 (fun hS => ?_)
          clear hK K
          refine wpAnyH_take (i := 6) (oi := { dst := some 23, op := Op.lookup 53 (Operand.tmp 20) (Operand.tmp 22) true, type := 61, pos := _, after := _, guard := none }) (v := .tuple #[.int .i64 (i : Int), .bool true]) rfl (by kernel_rfl) (by kernel_rfl) (by kernel_rfl) (fun _ _ _ h => h) (Or.inl ⟨by rfl, fun u hu => by (have z := LK.out u hu; go_simp)⟩) hS ?_
          simp only [Act.put, List.setIfInBounds_toArray, List.set_cons_zero, List.set_cons_succ]
          refine wpAnyH_take (i := 7) (oi := { dst := some 16, op := Op.move (Operand.tmp 23), type := 61, pos := _, after := _, guard := none }) (v := .tuple #[.int .i64 (i : Int), .bool true]) rfl (by kernel_rfl) (by kernel_rfl) (by kernel_rfl) (fun _ _ _ h => h) (Or.inl ⟨by rfl, fun u hu => by go_simp⟩) hS ?_
          simp only [Act.put, List.setIfInBounds_toArray, List.set_cons_zero, List.set_cons_succ]
          refine wpAnyH_take (i := 8) (oi := { dst := some 24, op := Op.extract (Operand.tmp 16) 0, type := 3, pos := _, after := _, guard := none }) (v := .int .i64 (i : Int)) rfl (by kernel_rfl) (by kernel_rfl) (by kernel_rfl) (fun _ _ _ h => h) (Or.inl ⟨by rfl, fun u hu => by go_simp⟩) hS ?_
          simp only [Act.put, List.setIfInBounds_toArray, List.set_cons_zero, List.set_cons_succ]
          refine wpAnyH_take (i := 9) (oi := { dst := some 25, op := Op.extract (Operand.tmp 16) 1, type := 4, pos := _, after := _, guard := none }) (v := .bool true) rfl (by kernel_rfl) (by kernel_rfl) (by kernel_rfl) (fun _ _ _ h => h) (Or.inl ⟨by rfl, fun u hu => by go_simp⟩) hS ?_
          simp only [Act.put, List.setIfInBounds_toArray, List.set_cons_zero, List.set_cons_succ]
          refine wpAnyH_take (i := 10) (oi := { dst := some 7, op := Op.assign (Operand.tmp 24), type := 3, pos := _, after := _, guard := none }) (v := .int .i64 (i : Int)) rfl (by kernel_rfl) (by kernel_rfl) (by kernel_rfl) (fun _ _ _ h => h) (Or.inl ⟨by rfl, fun u hu => by go_simp⟩) hS ?_
          simp only [Act.put, List.setIfInBounds_toArray, List.set_cons_zero, List.set_cons_succ]
          refine wpAnyH_take (i := 11) (oi := { dst := some 8, op := Op.assign (Operand.tmp 25), type := 4, pos := _, after := _, guard := none }) (v := .bool true) rfl (by kernel_rfl) (by kernel_rfl) (by kernel_rfl) (fun _ _ _ h => h) (Or.inl ⟨by rfl, fun u hu => by go_simp⟩) hS ?_
          simp only [Act.put, List.setIfInBounds_toArray, List.set_cons_zero, List.set_cons_succ]
          refine wpAnyH_done (by kernel_rfl) ?_ _
          have e0 := (hS.cell (p := ⟨b, o, none⟩) hbw).trans c0
          have e3 := (hS.cell (p := ⟨b, o + 3, none⟩) hbw).trans c3
          go_wp2_with fail
          go_ret
          exact ⟨rfl, hS⟩
        · rw [if_pos ⟨trivial, hne⟩] at hyy
          have hq2 : (xl.toList == nm.toList) = false := beqS_ne hne
          have hq : (xl.toList != nm.toList) = true := by simp only [bne, hq2, Bool.not_false]
          clear hne
          subst hyy
          go_enter Tryd.func34, Tryd.ntmps34
          go_upto_region 4 with fail
          refine wp_region_held_drew (S := fun u => Below w.heap.size w u) (by kernel_rfl) (Below.drew (Below.refl _ _)) (fun hS => ?_)
          refine wpAnyH_take (i := 0) (oi := { dst := some 17, op := Op.move (Operand.tmp 0), type := 67, pos := _, after := _, guard := none }) (v := .pointer (some ⟨t, 0, none⟩)) rfl (by kernel_rfl) (by kernel_rfl) (by kernel_rfl) (fun _ _ _ h => h) (Or.inl ⟨by rfl, fun u hu => by go_simp⟩) hS ?_
          simp only [Act.put, List.setIfInBounds_toArray, List.set_cons_zero, List.set_cons_succ]
          refine wpAnyH_take (i := 1) (oi := { dst := some 18, op := Op.nilCheck (Operand.tmp 17), type := 0, pos := _, after := _, guard := none }) (v := .pointer (some ⟨t, 0, none⟩)) rfl (by kernel_rfl) (by kernel_rfl) (by kernel_rfl) (fun _ _ _ h => h) (Or.inl ⟨by rfl, fun u hu => by go_simp⟩) hS ?_
          simp only [Act.put, List.setIfInBounds_toArray, List.set_cons_zero, List.set_cons_succ]
          refine wpAnyH_take (i := 2) (oi := { dst := some 19, op := Op.fieldAddr 55 (Operand.tmp 18) 1, type := 0, pos := _, after := _, guard := none }) (v := .pointer (some ⟨t, 1, none⟩)) rfl (by kernel_rfl) (by kernel_rfl) (by kernel_rfl) (fun _ _ _ h => h) (Or.inl ⟨by rfl, fun u hu => by go_simp⟩) hS ?_
          simp only [Act.put, List.setIfInBounds_toArray, List.set_cons_zero, List.set_cons_succ]
          refine wpAnyH_take (i := 3) (oi := { dst := some 20, op := Op.load 53 (Operand.tmp 19), type := 53, pos := _, after := _, guard := none }) (v := .map (some m)) rfl (by kernel_rfl) (by kernel_rfl) (by kernel_rfl) (fun _ _ _ h => h) (Or.inl ⟨by rfl, fun u hu => by (have z : u.cell? ⟨t, 1, none⟩ = some (.map (some m)) := (cellO ((hu.block _ (Array.getElem?_eq_some_iff.1 HT.out.tb).1).trans HT.out.tb)).trans rfl; go_simp)⟩) hS ?_
          simp only [Act.put, List.setIfInBounds_toArray, List.set_cons_zero, List.set_cons_succ]
          refine wpAnyH_take (i := 4) (oi := { dst := some 21, op := Op.move (Operand.tmp 2), type := 72, pos := _, after := _, guard := none }) (v := .pointer (some ⟨b, o, none⟩)) rfl (by kernel_rfl) (by kernel_rfl) (by kernel_rfl) (fun _ _ _ h => h) (Or.inl ⟨by rfl, fun u hu => by go_simp⟩) hS ?_
          simp only [Act.put, List.setIfInBounds_toArray, List.set_cons_zero, List.set_cons_succ]
          refine wpAnyH_ready (rs := [5]) (by kernel_rfl) (by simp) (AllReadyH.cons (o := { dst := some 22, op := Op.call { callee := Callee.value (Operand.func 31), args := #[Operand.tmp 21], argTypes := #[72] }, type := 75, pos := _, after := _, guard := none }) rfl (fun K hK => ?_) AllReadyH.nil)
          go_simp
          refine (globalOf_any b o (xl, xo) _ (Nat.lt_of_lt_of_le hbw hS.size) ((hS.cell (p := ⟨b, o + 3, none⟩) hbw).trans c3) ((hS.cell (p := ⟨b, o + 4, none⟩) hbw).trans c4)).mono ?_
          rintro e W1 ⟨rfl, hb1⟩
          have hS1 := hS.trans (hb1.mono hS.size)
          clear hb1
          show K _ W1
          refine hK.out _ _ hS1 (fun hS => ?_)
          clear hK K
          refine wpAnyH_take (i := 6) (oi := { dst := some 23, op := Op.lookup 53 (Operand.tmp 20) (Operand.tmp 22) true, type := 61, pos := _, after := _, guard := none }) (v := .tuple #[.int .i64 (i : Int), .bool true]) rfl (by kernel_rfl) (by kernel_rfl) (by kernel_rfl) (fun _ _ _ h => h) (Or.inl ⟨by rfl, fun u hu => by (have z := LK.out u hu; go_simp)⟩) hS ?_
          simp only [Act.put, List.setIfInBounds_toArray, List.set_cons_zero, List.set_cons_succ]
          refine wpAnyH_take (i := 7) (oi := { dst := some 16, op := Op.move (Operand.tmp 23), type := 61, pos := _, after := _, guard := none }) (v := .tuple #[.int .i64 (i : Int), .bool true]) rfl (by kernel_rfl) (by kernel_rfl) (by kernel_rfl) (fun _ _ _ h => h) (Or.inl ⟨by rfl, fun u hu => by go_simp⟩) hS ?_
          simp only [Act.put, List.setIfInBounds_toArray, List.set_cons_zero, List.set_cons_succ]
          refine wpAnyH_take (i := 8) (oi := { dst := some 24, op := Op.extract (Operand.tmp 16) 0, type := 3, pos := _, after := _, guard := none }) (v := .int .i64 (i : Int)) rfl (by kernel_rfl) (by kernel_rfl) (by kernel_rfl) (fun _ _ _ h => h) (Or.inl ⟨by rfl, fun u hu => by go_simp⟩) hS ?_
          simp only [Act.put, List.setIfInBounds_toArray, List.set_cons_zero, List.set_cons_succ]
          refine wpAnyH_take (i := 9) (oi := { dst := some 25, op := Op.extract (Operand.tmp 16) 1, type := 4, pos := _, after := _, guard := none }) (v := .bool true) rfl (by kernel_rfl) (by kernel_rfl) (by kernel_rfl) (fun _ _ _ h => h) (Or.inl ⟨by rfl, fun u hu => by go_simp⟩) hS ?_
          simp only [Act.put, List.setIfInBounds_toArray, List.set_cons_zero, List.set_cons_succ]
          refine wpAnyH_take (i := 10) (oi := { dst := some 7, op := Op.assign (Operand.tmp 24), type := 3, pos := _, after := _, guard := none }) (v := .int .i64 (i : Int)) rfl (by kernel_rfl) (by kernel_rfl) (by kernel_rfl) (fun _ _ _ h => h) (Or.inl ⟨by rfl, fun u hu => by go_simp⟩) hS ?_
          simp only [Act.put, List.setIfInBounds_toArray, List.set_cons_zero, List.set_cons_succ]
          refine wpAnyH_take (i := 11) (oi := { dst := some 8, op := Op.assign (Operand.tmp 25), type := 4, pos := _, after := _, guard := none }) (v := .bool true) rfl (by kernel_rfl) (by kernel_rfl) (by kernel_rfl) (fun _ _ _ h => h) (Or.inl ⟨by rfl, fun u hu => by go_simp⟩) hS ?_
          simp only [Act.put, List.setIfInBounds_toArray, List.set_cons_zero, List.set_cons_succ]
          refine wpAnyH_done (by kernel_rfl) ?_ _
          have e0 := (hS.cell (p := ⟨b, o, none⟩) hbw).trans c0
          have e3 := (hS.cell (p := ⟨b, o + 3, none⟩) hbw).trans c3
          go_wp2_with fail
          go_ret
          exact ⟨rfl, hS⟩
    · have hyy := HY.out
      rw [if_neg (by omega)] at hyy
      subst hyy
      have g5 : (xp == 5) = false := by simpa using h5
      have g12 : (xp == 12) = false := by simpa using h12
      clear h5 h12 HY LK
      go_enter Tryd.func34, Tryd.ntmps34
      go_wp2_with fail
      go_ret
      exact ⟨rfl, Below.refl _ _⟩
end Go.Proofs.YtdnbingddbakaaaDoor
