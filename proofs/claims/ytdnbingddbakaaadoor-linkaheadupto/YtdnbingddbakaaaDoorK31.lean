/- Chapter 10: an instruction that may define a global. -/
import Derived.Test.YtdnbingddbakaaaDoorK30
namespace Go.Proofs.YtdnbingddbakaaaDoor
set_option linter.unusedVariables false
set_option linter.unusedSimpArgs false
open Go.RowKit

/-- What is wrong with an instruction that defines, in a unit called so. -/
def defE (nm : ByteArray) (x : In) : Int := if x.op = 13 then (if x.lib = nm then 0 else 10) else 0
/-- The globals, and what an instruction defines. -/
def defG (gs : List Gl) (x : In) : List Gl := if x.op = 13 then addG gs (x.lib, x.own) else gs
set_option maxRecDepth 100000 in
set_option maxHeartbeats 3200000 in
theorem def29_any (B t m : Nat) (gs : List Gl) (bv : Value) (x : In) (b o : Nat) (qa : Option Addr) (qc : Nat) (nm : ByteArray) (ub uo b1 b2 : Nat) (w : World) (hil : IL B w b o x qa qc) (hb : b < B) (hT : TB B t m gs bv w)
    (h1 : w.heap[b1]? = some (.cells #[.pointer (some ⟨ub, uo, none⟩)] 69 (0, 0))) (h2 : w.heap[b2]? = some (.cells #[.pointer (some ⟨t, 0, none⟩)] 67 (0, 0))) (hub : ub < B) (hu : w.cell? ⟨ub, uo, none⟩ = some (.string nm)) (hle : gs.length ≤ 200000000)
    (hsz : x.op = 13 → x.lib.size ≤ 1000 ∧ x.own.size ≤ 1000) :
    Calls Tryd.prog 29 #[.pointer (some ⟨b, o, none⟩), .pointer (some ⟨b1, 0, none⟩), .pointer (some ⟨b2, 0, none⟩)] w fun e w' => e = .returned (.int .i64 (defE nm x)) ∧ Ty w w' ∧ Below B w w' ∧ (defE nm x = 0 → ∃ bv', TB B t m (defG gs x) bv' w') := by
  obtain ⟨y, hy⟩ : ∃ y, y = defE nm x := ⟨_, rfl⟩
  obtain ⟨gs', hg⟩ : ∃ g, g = defG gs x := ⟨_, rfl⟩
  rw [← hy, ← hg]
  have HY : Hid (y = if x.op = 13 then (if x.lib = nm then 0 else 10) else 0) := hy
  have HG : Hid (gs' = if x.op = 13 then addG gs (x.lib, x.own) else gs) := hg
  have c0 := hil.c0
  have c3 := hil.c3
  have c4 := hil.c4
  have HSZ := hidd hsz
  have HSM : Hid (smG (x.lib, x.own)) := ⟨hil.l3, hil.l4⟩
  have HT := hidd hT
  have H1 := hidd h1
  have H2 := hidd h2
  have HLE := hidd hle
  have HBW : Hid (B ≤ w.heap.size) := hidd (Nat.le_trans hT.bt (Nat.le_of_lt (Array.getElem?_eq_some_iff.1 hT.tb).1))
  have r1 : w.cell? ⟨b1, 0, none⟩ = some (.pointer (some ⟨ub, uo, none⟩)) := (cellO h1).trans rfl
  obtain ⟨xl, hxl⟩ : ∃ v, v = x.lib := ⟨_, rfl⟩
  obtain ⟨xo, hxo⟩ : ∃ v, v = x.own := ⟨_, rfl⟩
  obtain ⟨xp, hxp⟩ : ∃ v, v = x.op := ⟨_, rfl⟩
  rw [← hxl, ← hxo] at HSM
  rw [← hxp, ← hxl] at HY
  rw [← hxp, ← hxl, ← hxo] at HG
  rw [← hxp, ← hxl, ← hxo] at HSZ
  rw [← hxp] at c0
  rw [← hxl] at c3
  rw [← hxo] at c4
  clear hy hg hil hsz hT h1 h2 hle hxl hxo hxp
  by_cases h13 : xp = 13
  · subst h13
    have hyy := HY.out
    rw [if_pos rfl] at hyy
    have hgg := HG.out
    rw [if_pos rfl] at hgg
    have HZ1 : Hid (xl.size ≤ 281474976710656) := hidd (Nat.le_trans (HSZ.out rfl).1 (by decide))
    have HZ2 : Hid (xo.size ≤ 281474976710656) := hidd (Nat.le_trans (HSZ.out rfl).2 (by decide))
    clear HY HG HSZ
    by_cases hne : xl = nm
    · rw [if_pos hne] at hyy
      subst hyy hgg
      have hq : (xl.toList != nm.toList) = false := by rw [hne]; simp
      have hq2 : (xl.toList == nm.toList) = true := by rw [hne]; simp
      have HNE := hidd hne
      clear hne
      go_enter Tryd.func29, Tryd.ntmps29
      go_upto_region 3 with fail
      go_cut [18] from 10 to 17 (fun s18 wx => s18 = .bool false ∧ wx = w.drew)
      case first =>
        go_region
        all_goals
          go_wp2_with fail
          go_meet
          case rel => exact ⟨rfl, rfl⟩
      case rest =>
      obtain ⟨rfl, hwc⟩ := hcut
      have bdr : Below w.heap.size w w.drew := Below.drew (Below.refl _ _)
      have HT0 := hidd (HT.out.below bdr)
      have HB : Hid (Ty w wc ∧ Below B w wc) := by rw [hwc]; exact ⟨Ty.below bdr, bdr.mono HBW.out⟩
      rw [← hwc] at HT0
      have H20 := hidd (HB.out.1 b2 _ 67 H2.out (by decide) (by decide))
      have HBW0 : Hid (B ≤ wc.heap.size) := hidd (Nat.le_trans HBW.out HB.out.2.size)
      have e3 := (HB.out.2.cell (p := ⟨b, o + 3, none⟩) hb).trans c3
      have e4 := (HB.out.2.cell (p := ⟨b, o + 4, none⟩) hb).trans c4
      clear HT H2 HBW c0 c3 c4 r1 H1 hwc bdr hq hq2 hu HNE
      have HT := HT0
      have H2 := H20
      have HBW := HBW0
      have c3 := e3
      have c4 := e4
      clear HT0 H20 HBW0 e3 e4
      generalize wc = V at *
      go_upto_region 5 with fail
      refine wp_region_held_drew (S := fun u => Ty V u ∧ Below B V u) (by kernel_rfl) ⟨Ty.below (Below.drew (Below.refl _ _)), Below.drew (Below.refl _ _)⟩ (fun hS => ?_)
      refine wpAnyH_take (i := 0) (oi := { dst := some 19, op := Op.load 67 (Operand.tmp 2), type := 67, pos := _, after := _, guard := none }) (v := .pointer (some ⟨t, 0, none⟩)) rfl (by kernel_rfl) (by kernel_rfl) (by kernel_rfl) (fun _ _ _ h => h) (Or.inl ⟨by rfl, fun u hu => by (have z : u.cell? ⟨b2, 0, none⟩ = some (.pointer (some ⟨t, 0, none⟩)) := (cellO (hu.1 b2 _ 67 H2.out (by decide) (by decide))).trans rfl; go_simp)⟩) hS ?_
      simp only [Act.put, List.setIfInBounds_toArray, List.set_cons_zero, List.set_cons_succ]
      refine wpAnyH_take (i := 1) (oi := { dst := some 20, op := Op.move (Operand.tmp 0), type := 72, pos := _, after := _, guard := none }) (v := .pointer (some ⟨b, o, none⟩)) rfl (by kernel_rfl) (by kernel_rfl) (by kernel_rfl) (fun _ _ _ h => h) (Or.inl ⟨by rfl, fun u hu => by go_simp⟩) hS ?_
      simp only [Act.put, List.setIfInBounds_toArray, List.set_cons_zero, List.set_cons_succ]
      refine wpAnyH_ready (rs := [2]) (by kernel_rfl) (by simp) (AllReadyH.cons (o := { dst := some 21, op := Op.call { callee := Callee.value (Operand.func 31), args := #[Operand.tmp 20], argTypes := #[72] }, type := 75, pos := _, after := _, guard := none }) rfl (fun K hK => ?_) AllReadyH.nil)
      have HBC := hS.2
      go_simp
      refine (globalOf_any b o (xl, xo) _ (Nat.lt_of_lt_of_le hb (Nat.le_trans HBW.out hS.2.size)) ((hS.2.cell (p := ⟨b, o + 3, none⟩) hb).trans c3) ((hS.2.cell (p := ⟨b, o + 4, none⟩) hb).trans c4)).mono ?_
      rintro e W1 ⟨rfl, hb1⟩
      have HT1 := hidd (HT.out.below ((Below.drew (Below.refl _ _)).trans hb1))
      have hS1 : Ty V W1 ∧ Below B V W1 := ⟨hS.1.trans (Ty.below hb1), hS.2.trans (hb1.mono (Nat.le_trans HBW.out hS.2.size))⟩
      clear hb1 HBC
      show K _ W1
      refine hK.out _ _ hS1 (fun hS => ?_)
      clear hK K
      refine wpAnyH_ready (rs := [3]) (by kernel_rfl) (by simp) (AllReadyH.cons (o := { dst := some 22, op := Op.call { callee := Callee.value (Operand.func 30), args := #[Operand.tmp 19, Operand.tmp 21], argTypes := #[67, 75] }, type := 0, pos := _, after := _, guard := none }) rfl (fun K hK => ?_) AllReadyH.nil)
      go_simp
      refine (add_any B t m gs bv (xl, xo) W1 HT1.out HSM.out HLE.out HZ1.out HZ2.out).mono ?_
      rintro e W2 ⟨rfl, ht2, hb2, hc2⟩
      have HT2 := hidd ht2
      have hS2 : Ty V W2 ∧ Below B V W2 := ⟨hS.1.trans hb2, hS.2.trans hc2⟩
      clear hb2 hc2 ht2
      show K _ W2
      refine hK.out _ _ hS2 (fun hS => ?_)
      clear hK K
      refine wpAnyH_done (by kernel_rfl) ?_ _
      go_wp2_with fail
      go_ret
      exact ⟨rfl, HB.out.1.trans hS.1, HB.out.2.trans hS.2, by first | exact fun _ => HT2.out | exact HT2.out⟩
    · rw [if_neg hne] at hyy
      subst hyy
      have hq : (xl.toList != nm.toList) = true := by
        have := beqS_ne hne
        simp only [bne, this, Bool.not_false]
      have hq2 : (xl.toList == nm.toList) = false := beqS_ne hne
      clear hne
      go_enter Tryd.func29, Tryd.ntmps29
      go_upto_region 3 with fail
      go_region
      all_goals
        go_wp2_with fail
        go_ret
        exact ⟨rfl, Ty.below (Below.drew (Below.refl _ _)), (Below.drew (Below.refl _ _)), by first | exact fun h => absurd h (by decide) | trivial⟩
  · have hyy := HY.out
    rw [if_neg h13] at hyy
    have hgg := HG.out
    rw [if_neg h13] at hgg
    subst hyy hgg
    have h13' : (xp != 13) = true := by simpa using h13
    clear h13 HY HG HSZ
    go_enter Tryd.func29, Tryd.ntmps29
    go_wp2_with fail
    go_ret
    exact ⟨rfl, Ty.refl _, Below.refl _ _, by first | exact fun _ => ⟨_, HT.out⟩ | exact ⟨_, HT.out⟩⟩
end Go.Proofs.YtdnbingddbakaaaDoor
