/- Chapter 10: an instruction that may define a global. Chapter 10: whether a unit ahead is called the same. Chapter 10, plainly: what a right unit is like; what units define. Chapter 9, the document's side: procedures, what is known of them, in memory. -/
import Derived.Test.YtdnbingddbakaaaDoorK24
import Derived.Test.YtdnbingddbakaaaDoorK25
import Derived.Test.YtdnbingddbakaaaDoorK26
import Derived.Test.YtdnbingddbakaaaDoorK27
namespace Go.Proofs.YtdnbingddbakaaaDoor
section
set_option linter.unusedVariables false
set_option linter.unusedSimpArgs false
open Go.RowKit

/-- What is wrong with an instruction that defines, in a unit called so. -/
def defE (nm : ByteArray) (x : In) : Int := if x.op = 13 then (if x.lib = nm then 0 else 10) else 0
/-- The globals, and what an instruction defines. -/
def defG (gs : List Gl) (x : In) : List Gl := if x.op = 13 then addG gs (x.lib, x.own) else gs
set_option maxRecDepth 100000 in
set_option maxHeartbeats 3200000 in
theorem def29_any (B t m : Nat) (gs : List Gl) (bv : Value) (x : In) (b o : Nat) (qa : Option Addr) (qc : Nat) (nm : ByteArray) (ub uo b1 b2 : Nat) (w : World) (hil : IL B w b o x qa qc) (hb : b < B) (hT : TB B t m gs bv w)
    (h1 : w.heap[b1]? = some (.cells #[.pointer (some ⟨ub, uo, none⟩)] 69 (0, 0))) (h2 : w.heap[b2]? = some (.cells #[.pointer (some ⟨t, 0, none⟩)] 67 (0, 0))) (hub : ub < B) (hu : w.cell? ⟨ub, uo, none⟩ = some (.string nm)) (hle : gs.length ≤ 200000000)
    (hsz : x.op = 13 → x.lib.size ≤ 1000 ∧ x.own.size ≤ 1000) :
    Calls Tryd.prog 29 #[.pointer (some ⟨b, o, none⟩), .pointer (some ⟨b1, 0, none⟩), .pointer (some ⟨b2, 0, none⟩)] w fun e w' => e = .returned (.int .i64 (defE nm x)) ∧ Ty w w' ∧ Below B w w' ∧ (defE nm x = 0 → ∃ bv', TB B t m (defG gs x) bv' w') := by
  obtain ⟨y, hy⟩ : ∃ y, y = defE nm x := ⟨_, rfl⟩
  obtain ⟨gs', hg⟩ : ∃ g, g = defG gs x := ⟨_, rfl⟩
  rw [← hy, ← hg]
  have HY : Hid (y = if x.op = 13 then (if x.lib = nm then 0 else 10) else 0) := hy
  have HG : Hid (gs' = if x.op = 13 then addG gs (x.lib, x.own) else gs) := hg
  have c0 := hil.c0
  have c3 := hil.c3
  have c4 := hil.c4
  have HSZ := hidd hsz
  have HSM : Hid (smG (x.lib, x.own)) := ⟨hil.l3, hil.l4⟩
  have HT := hidd hT
  have H1 := hidd h1
  have H2 := hidd h2
  have HLE := hidd hle
  have HBW : Hid (B ≤ w.heap.size) := hidd (Nat.le_trans hT.bt (Nat.le_of_lt (Array.getElem?_eq_some_iff.1 hT.tb).1))
  have r1 : w.cell? ⟨b1, 0, none⟩ = some (.pointer (some ⟨ub, uo, none⟩)) := (cellO h1).trans rfl
  obtain ⟨xl, hxl⟩ : ∃ v, v = x.lib := ⟨_, rfl⟩
  obtain ⟨xo, hxo⟩ : ∃ v, v = x.own := ⟨_, rfl⟩
  obtain ⟨xp, hxp⟩ : ∃ v, v = x.op := ⟨_, rfl⟩
  rw [← hxl, ← hxo] at HSM
  rw [← hxp, ← hxl] at HY
  rw [← hxp, ← hxl, ← hxo] at HG
  rw [← hxp, ← hxl, ← hxo] at HSZ
  rw [← hxp] at c0
  rw [← hxl] at c3
  rw [← hxo] at c4
  clear hy hg hil hsz hT h1 h2 hle hxl hxo hxp
  by_cases h13 : xp = 13
  · subst h13
    have hyy := HY.out
    rw [if_pos rfl] at hyy
    have hgg := HG.out
    rw [if_pos rfl] at hgg
    have HZ1 : Hid (xl.size ≤ 281474976710656) := hidd (Nat.le_trans (HSZ.out rfl).1 (by decide))
    have HZ2 : Hid (xo.size ≤ 281474976710656) := hidd (Nat.le_trans (HSZ.out rfl).2 (by decide))
    clear HY HG HSZ
    by_cases hne : xl = nm
    · rw [if_pos hne] at hyy
      subst hyy hgg
      have hq : (xl.toList != nm.toList) = false := by rw [hne]; simp
      have hq2 : (xl.toList == nm.toList) = true := by rw [hne]; simp
      have HNE := hidd hne
      clear hne
      go_enter Tryd.func29, Tryd.ntmps29
      go_upto_region 3 with fail
      go_cut [18] from 10 to 17 (fun s18 wx => s18 = .bool false ∧ wx = w.drew)
      case first =>
        go_region
        all_goals
          go_wp2_with fail
          go_meet
          case rel => exact ⟨rfl, rfl⟩
      case rest =>
      obtain ⟨rfl, hwc⟩ := hcut
      have bdr : Below w.heap.size w w.drew := Below.drew (Below.refl _ _)
      have HT0 := hidd (HT.out.below bdr)
      have HB : Hid (Ty w wc ∧ Below B w wc) := by rw [hwc]; exact ⟨Ty.below bdr, bdr.mono HBW.out⟩
      rw [← hwc] at HT0
      have H20 := hidd (HB.out.1 b2 _ 67 H2.out (by decide) (by decide))
      have HBW0 : Hid (B ≤ wc.heap.size) := hidd (Nat.le_trans HBW.out HB.out.2.size)
      have e3 := (HB.out.2.cell (p := ⟨b, o + 3, none⟩) hb).trans c3
      have e4 := (HB.out.2.cell (p := ⟨b, o + 4, none⟩) hb).trans c4
      clear HT H2 HBW c0 c3 c4 r1 H1 hwc bdr hq hq2 hu HNE
      have HT := HT0
      have H2 := H20
      have HBW := HBW0
      have c3 := e3
      have c4 := e4
      clear HT0 H20 HBW0 e3 e4
      generalize wc = V at *
      go_upto_region 5 with fail
      refine wp_region_held_drew (S := fun u => Ty V u ∧ Below B V u) (by kernel_rfl) ⟨Ty.below (Below.drew (Below.refl _ _)), Below.drew (Below.refl _ _)⟩ (fun hS => ?_)
      refine wpAnyH_take (i := 0) (oi := { dst := some 19, op := Op.load 67 (Operand.tmp 2), type := 67, pos := _, after := _, guard := none }) (v := .pointer (some ⟨t, 0, none⟩)) rfl (by kernel_rfl) (by kernel_rfl) (by kernel_rfl) (fun _ _ _ h => h) (Or.inl ⟨by rfl, fun u hu => by (have z : u.cell? ⟨b2, 0, none⟩ = some (.pointer (some ⟨t, 0, none⟩)) := (cellO (hu.1 b2 _ 67 H2.out (by decide) (by decide))).trans rfl; go_simp)⟩) hS ?_
      simp only [Act.put, List.setIfInBounds_toArray, List.set_cons_zero, List.set_cons_succ]
      refine wpAnyH_take (i := 1) (oi := { dst := some 20, op := Op.move (Operand.tmp 0), type := 72, pos := _, after := _, guard := none }) (v := .pointer (some ⟨b, o, none⟩)) rfl (by kernel_rfl) (by kernel_rfl) (by kernel_rfl) (fun _ _ _ h => h) (Or.inl ⟨by rfl, fun u hu => by go_simp⟩) hS ?_
      simp only [Act.put, List.setIfInBounds_toArray, List.set_cons_zero, List.set_cons_succ]
      refine wpAnyH_ready (rs := [2]) (by kernel_rfl) (by simp) (AllReadyH.cons (o := { dst := some 21, op := Op.call { callee := Callee.value (Operand.func 31), args := #[Operand.tmp 20], argTypes := #[72] }, type := 75, pos := _, after := _, guard := none }) rfl (fun K hK => ?_) AllReadyH.nil)
      have HBC := hS.2
      go_simp
      refine (globalOf_any b o (xl, xo) _ (Nat.lt_of_lt_of_le hb (Nat.le_trans HBW.out hS.2.size)) ((hS.2.cell (p := ⟨b, o + 3, none⟩) hb).trans c3) ((hS.2.cell (p := ⟨b, o + 4, none⟩) hb).trans c4)).mono ?_
      rintro e W1 ⟨rfl, hb1⟩
      have HT1 := hidd (HT.out.below ((Below.drew (Below.refl _ _)).trans hb1))
      have hS1 : Ty V W1 ∧ Below B V W1 := ⟨hS.1.trans (Ty.below hb1), hS.2.trans (hb1.mono (Nat.le_trans HBW.out hS.2.size))⟩
      clear hb1 HBC
      show K _ W1
      refine hK.out _ _ hS1 (fun hS => ?_)
      clear hK K
      refine wpAnyH_ready (rs := [3]) (by kernel_rfl) (by simp) (AllReadyH.cons (o := { dst := some 22, op := Op.call { callee := Callee.value (Operand.func 30), args := #[Operand.tmp 19, Operand.tmp 21], argTypes := #[67, 75] }, type := 0, pos := _, after := _, guard := none }) rfl (fun K hK => ?_) AllReadyH.nil)
      go_simp
      refine (add_any B t m gs bv (xl, xo) W1 HT1.out HSM.out HLE.out HZ1.out HZ2.out).mono ?_
      rintro e W2 ⟨rfl, ht2, hb2, hc2⟩
      have HT2 := hidd ht2
      have hS2 : Ty V W2 ∧ Below B V W2 := ⟨hS.1.trans hb2, hS.2.trans hc2⟩
      clear hb2 hc2 ht2
      show K _ W2
      refine hK.out _ _ hS2 (fun hS => ?_)
      clear hK K
      refine wpAnyH_done (by kernel_rfl) ?_ _
      go_wp2_with fail
      go_ret
      exact ⟨rfl, HB.out.1.trans hS.1, HB.out.2.trans hS.2, by first | exact fun _ => HT2.out | exact HT2.out⟩
    · rw [if_neg hne] at hyy
      subst hyy
      have hq : (xl.toList != nm.toList) = true := by
        have := beqS_ne hne
        simp only [bne, this, Bool.not_false]
      have hq2 : (xl.toList == nm.toList) = false := beqS_ne hne
      clear hne
      go_enter Tryd.func29, Tryd.ntmps29
      go_upto_region 3 with fail
      go_region
      all_goals
        go_wp2_with fail
        go_ret
        exact ⟨rfl, Ty.below (Below.drew (Below.refl _ _)), (Below.drew (Below.refl _ _)), by first | exact fun h => absurd h (by decide) | trivial⟩
  · have hyy := HY.out
    rw [if_neg h13] at hyy
    have hgg := HG.out
    rw [if_neg h13] at hgg
    subst hyy hgg
    have h13' : (xp != 13) = true := by simpa using h13
    clear h13 HY HG HSZ
    go_enter Tryd.func29, Tryd.ntmps29
    go_wp2_with fail
    go_ret
    exact ⟨rfl, Ty.refl _, Below.refl _ _, by first | exact fun _ => ⟨_, HT.out⟩ | exact ⟨_, HT.out⟩⟩
end
section
set_option linter.unusedVariables false
set_option linter.unusedSimpArgs false
open Go.RowKit

/-- A unit, plainly. -/
abbrev Un := ByteArray × List Pro
/-- Units that lie in memory. -/
def UL (B : Nat) (w : World) (a : Option Addr) (us : List Un) : Prop :=
  us = [] ∨ ∃ b o, a = some ⟨b, o, none⟩ ∧ b < B ∧ ∀ i u, us[i]? = some u → ∃ pa pc, w.cell? ⟨b, o + i * 2, none⟩ = some (.string u.1) ∧ w.cell? ⟨b, o + i * 2 + 1, none⟩ = some (.slice pa u.2.length pc) ∧ u.2.length ≤ pc ∧ u.1.size ≤ maxLen ∧ PL B w pa u.2
theorem UL.below {B : Nat} {w w' : World} {a : Option Addr} {us : List Un} (h : UL B w a us) (hw : Below B w w') : UL B w' a us := by
  rcases h with h | ⟨b, o, ha, hb, h⟩
  · exact Or.inl h
  · refine Or.inr ⟨b, o, ha, hb, fun i u hu => ?_⟩
    obtain ⟨pa, pc, h0, h1, h2, h3, h4⟩ := h i u hu
    exact ⟨pa, pc, (hw.cell (p := ⟨b, o + i * 2, none⟩) hb).trans h0, (hw.cell (p := ⟨b, o + i * 2 + 1, none⟩) hb).trans h1, h2, h3, h4.below hw⟩
theorem UL.at {B : Nat} {w : World} {a : Option Addr} {us : List Un} (h : UL B w a us) {j : Nat} {x : Un} (hx : us[j]? = some x) : ∃ b o, a = some ⟨b, o, none⟩ ∧ b < B ∧ ∀ i u, us[i]? = some u → ∃ pa pc, w.cell? ⟨b, o + i * 2, none⟩ = some (.string u.1) ∧ w.cell? ⟨b, o + i * 2 + 1, none⟩ = some (.slice pa u.2.length pc) ∧ u.2.length ≤ pc ∧ u.1.size ≤ maxLen ∧ PL B w pa u.2 := by
  rcases h with h | h
  · rw [h] at hx; simp at hx
  · exact h
set_option maxRecDepth 100000 in
set_option maxHeartbeats 3200000 in
theorem eq27_any (s nm : ByteArray) (pa : Option Addr) (pn pc ub uo b1 : Nat) (w : World) (hbw : b1 < w.heap.size) (hub : ub < w.heap.size) (r1 : w.cell? ⟨b1, 0, none⟩ = some (.pointer (some ⟨ub, uo, none⟩))) (hu : w.cell? ⟨ub, uo, none⟩ = some (.string nm)) :
    Calls Tryd.prog 27 #[.agg #[.string s, .slice pa pn pc], .pointer (some ⟨b1, 0, none⟩)] w fun e w' => e = .returned (.bool (s.toList == nm.toList)) ∧ Below w.heap.size w w' := by
  have ba := (Below.refl w.heap.size w).alloc (Nat.le_refl _) (.cells #[.string s, .slice pa pn pc] 37)
  have n0 : (w.alloc (.cells #[.string s, .slice pa pn pc] 37)).cell? ⟨w.heap.size, 0, none⟩ = some (.string s) := (cellO (World.alloc_heap_new w (.cells #[.string s, .slice pa pn pc] 37))).trans rfl
  have q1 := (ba.cell (p := ⟨b1, 0, none⟩) hbw).trans r1
  have q2 := (ba.cell (p := ⟨ub, uo, none⟩) hub).trans hu
  have HB := hidd ba
  clear ba r1 hu
  generalize hy : (s.toList == nm.toList) = y
  go_enter Tryd.func27, Tryd.ntmps27
  go_upto_region 1 with fail
  generalize w.alloc (.cells #[.string s, .slice pa pn pc] 37) = V at HB n0 q1 q2 ⊢
  go_region
  all_goals
    go_wp2_with fail
    go_ret
    exact ⟨rfl, HB.out.drew⟩
set_option maxRecDepth 100000 in
set_option maxHeartbeats 3200000 in
theorem Index_any (us : List Un) (nm : ByteArray) (a : Option Addr) (n cap ub uo b1 B : Nat) (w : World) (hB : B ≤ w.heap.size) (hn : n ≤ us.length) (hn4 : n ≤ 40) (hc : n ≤ cap) (hl : UL B w a us) (hbw : b1 < w.heap.size) (hub : ub < w.heap.size) (r1 : w.cell? ⟨b1, 0, none⟩ = some (.pointer (some ⟨ub, uo, none⟩))) (hu : w.cell? ⟨ub, uo, none⟩ = some (.string nm)) :
    Calls Tryd.prog 43 #[.slice a n cap, .func (.func 27) #[] #[.pointer (some ⟨b1, 0, none⟩)]] w fun e w' => (∃ i : Int, e = .returned (.int .i64 i) ∧ (0 ≤ i ↔ ∃ u ∈ us.take n, u.1 = nm)) ∧ Below w.heap.size w w' := by
  have HL := hidd hl
  have HN := hidd hn
  have HR1 := hidd r1
  have HU := hidd hu
  have HB := hidd hB
  clear hl hn r1 hu hB
  go_enter Tryd.func43, Tryd.ntmps43
  go_wp2_with fail
  go_loopw [8] (fun i wr => ∃ j : Nat, j ≤ n ∧ i = .int .i64 j ∧ Hid (Below w.heap.size w wr ∧ ∀ u ∈ us.take j, u.1 ≠ nm)) (fun i _ => n - (intOf i).toNat)
  case atStart => exact ⟨0, Nat.zero_le _, rfl, Below.refl _ _, by simp⟩
  case round =>
  obtain ⟨j, hj, rfl, HR⟩ := hrel
  by_cases hlt : j < n
  · have hjU : j < us.length := Nat.lt_of_lt_of_le hlt HN.out
    obtain ⟨x, hx⟩ : ∃ x, us[j]? = some x := ⟨_, List.getElem?_eq_getElem hjU⟩
    have HX := hidd hx
    obtain ⟨ab, ao, rfl, hab, hall⟩ := HL.out.at hx
    obtain ⟨pa, pc, p0, p1, hpc, _, _⟩ := hall j _ hx
    have habw : ab < w.heap.size := Nat.lt_of_lt_of_le hab HB.out
    have z0 := (HR.out.1.cell (p := ⟨ab, ao + j * 2, none⟩) habw).trans p0
    have z1 := (HR.out.1.cell (p := ⟨ab, ao + j * 2 + 1, none⟩) habw).trans p1
    have EQ := hidd (eq27_any x.1 nm pa x.2.length pc ub uo b1 wr (Nat.lt_of_lt_of_le hbw HR.out.1.size) (Nat.lt_of_lt_of_le hub HR.out.1.size) ((HR.out.1.cell (p := ⟨b1, 0, none⟩) hbw).trans HR1.out) ((HR.out.1.cell (p := ⟨ub, uo, none⟩) hub).trans HU.out))
    have htk : us.take (j + 1) = us.take j ++ [x] := by rw [List.take_add_one, hx]; rfl
    have HTK := hidd htk
    clear htk hx p0 p1 hall
    obtain ⟨pn, hpn⟩ : ∃ n, n = x.2.length := ⟨_, rfl⟩
    rw [← hpn] at z1 EQ hpc
    clear hpn
    by_cases he : x.1 = nm
    · have hq : (x.1.toList == nm.toList) = true := by rw [he]; simp
      rw [hq] at EQ
      have HE := hidd he
      clear hq he
      go_wp2_with fail
      refine EQ.out.mono ?_
      rintro e w1 ⟨rfl, s1⟩
      go_wp2_with fail
      go_ret
      refine ⟨⟨_, rfl, ?_⟩, HR.out.1.trans (s1.mono HR.out.1.size)⟩
      constructor
      · intro _
        have hm : x ∈ us.take n := by
          have : us.take n = us.take (j + 1) ++ (us.take n).drop (j + 1) := by
            have := List.take_append_drop (j + 1) (us.take n)
            rw [List.take_take, Nat.min_eq_left hlt] at this
            exact this.symm
          rw [this, HTK.out]
          simp
        exact ⟨x, hm, HE.out⟩
      · intro _; omega
    · have hq : (x.1.toList == nm.toList) = false := beqS_ne he
      rw [hq] at EQ
      have HE := hidd he
      clear hq he
      go_wp2_with fail
      refine EQ.out.mono ?_
      rintro e w1 ⟨rfl, s1⟩
      have HF := hidd (HR.out.1.trans (s1.mono HR.out.1.size))
      clear s1 EQ z0 z1
      go_wp2_with fail
      go_roundw
      case rel => exact ⟨j + 1, by omega, by go_num, HF.out, by
        rw [HTK.out]
        intro u hu
        rcases List.mem_append.1 hu with h | h
        · exact HR.out.2 u h
        · rw [List.mem_singleton.1 h]; exact HE.out⟩
      case measure => simp [intOf]; omega
  · obtain rfl : j = n := by omega
    go_wp2_with fail
    go_ret
    exact ⟨⟨_, rfl, ⟨fun h => absurd h (by decide), fun ⟨u, h1, h2⟩ => absurd h2 (HR.out.2 u h1)⟩⟩, HR.out.1⟩
set_option maxRecDepth 100000 in
set_option maxHeartbeats 3200000 in
theorem Contains26_any (us : List Un) (nm : ByteArray) (a : Option Addr) (n cap ub uo b1 B : Nat) (w : World) (hB : B ≤ w.heap.size) (hn : n ≤ us.length) (hn4 : n ≤ 40) (hc : n ≤ cap) (hl : UL B w a us) (hbw : b1 < w.heap.size) (hub : ub < w.heap.size) (r1 : w.cell? ⟨b1, 0, none⟩ = some (.pointer (some ⟨ub, uo, none⟩))) (hu : w.cell? ⟨ub, uo, none⟩ = some (.string nm)) :
    Calls Tryd.prog 26 #[.slice a n cap, .func (.func 27) #[] #[.pointer (some ⟨b1, 0, none⟩)]] w fun e w' => (∃ y : Bool, e = .returned (.bool y) ∧ (y = true ↔ ∃ u ∈ us.take n, u.1 = nm)) ∧ Below w.heap.size w w' := by
  have IX := hidd (Index_any us nm a n cap ub uo b1 B w hB hn hn4 hc hl hbw hub r1 hu)
  clear hl r1 hu
  go_enter Tryd.func26, Tryd.ntmps26
  go_wp2_with fail
  refine IX.out.mono ?_
  rintro e w1 ⟨⟨i, rfl, hi⟩, s1⟩
  have HI := hidd hi
  clear hi
  go_wp2_with fail
  go_ret
  exact ⟨⟨_, rfl, by simpa using HI.out⟩, s1⟩
end
section
set_option linter.unusedVariables false
set_option linter.unusedSimpArgs false
open Go.RowKit

theorem codeW_ins {PP : List Pro} {gl : In → Int} {q len : Nat} : ∀ (c : List In) (K : Kn), (codeW PP gl q len c K).1 = 0 → ∀ x ∈ c, ∃ K', (insW PP gl q len x K').1 = 0
  | [], K, _, x, hx => by simp at hx
  | y :: r, K, h, x, hx => by
    rw [codeW] at h
    by_cases h0 : (insW PP gl q len y K).1 = 0
    · rw [if_pos h0] at h
      rcases List.mem_cons.1 hx with rfl | hx
      · exact ⟨K, h0⟩
      · exact codeW_ins r _ h x hx
    · rw [if_neg h0] at h
      exact absurd h h0
theorem protoW_ins {PP : List Pro} {gl : In → Int} {q : Nat} {K : Kn} (h : (protoW PP gl q K).1 = 0) : ∀ x ∈ (PP.getD q ⟨0, []⟩).code, ∃ K', (insW PP gl q (PP.getD q ⟨0, []⟩).code.length x K').1 = 0 := by
  unfold protoW at h
  cases hk : K.getD q none with
  | none => rw [hk] at h; simp at h
  | some s =>
    rw [hk] at h
    simp only at h
    by_cases h0 : (codeW PP gl q (PP.getD q ⟨0, []⟩).code.length (PP.getD q ⟨0, []⟩).code K).1 = 0
    · exact codeW_ins _ _ h0
    · rw [if_neg h0] at h
      exact absurd h h0
theorem protosW_ins {PP : List Pro} {gl : In → Int} : ∀ (n q : Nat) (K : Kn), protosW PP gl n q K = 0 → ∀ i, q ≤ i → i < q + n → ∃ K', (protoW PP gl i K').1 = 0
  | 0, q, K, _, i, h1, h2 => absurd h1 (by omega)
  | n + 1, q, K, h, i, h1, h2 => by
    rw [protosW] at h
    by_cases h0 : (protoW PP gl q K).1 = 0
    · rw [if_pos h0] at h
      by_cases e : i = q
      · subst e; exact ⟨K, h0⟩
      · exact protosW_ins n (q + 1) _ h i (by omega) (by omega)
    · rw [if_neg h0] at h
      exact absurd h h0
theorem sizesW_lim : ∀ (l : List Pro), sizesW l = 0 → ∀ P ∈ l, P.code.length ≤ 6000
  | [], _, P, hP => by simp at hP
  | Q :: r, h, P, hP => by
    rw [sizesW] at h
    by_cases h1 : Q.code.length < 1 ∨ 6000 < Q.code.length
    · rw [if_pos h1] at h; simp at h
    · rw [if_neg h1] at h
      by_cases h2 : Q.args < 0 ∨ 2000 < Q.args
      · rw [if_pos h2] at h; simp at h
      · rw [if_neg h2] at h
        rcases List.mem_cons.1 hP with rfl | hP
        · omega
        · exact sizesW_lim r h P hP
/-- What a right unit is like. -/
structure Right (nm : ByteArray) (PP : List Pro) : Prop where
  name : plainB nm = true
  some : 1 ≤ PP.length
  n500 : PP.length ≤ 500
  c6 : ∀ P ∈ PP, P.code.length ≤ 6000
  ins : ∀ (q : Nat) (P : Pro), PP[q]? = .some P → ∀ x ∈ P.code, ∃ K, (insW PP nameW q P.code.length x K).1 = 0
theorem right_of {nm : ByteArray} {PP : List Pro} (h : wrongU nm PP = 0) : Right nm PP := by
  unfold wrongU at h
  by_cases h1 : plainB nm = false
  · rw [if_pos h1] at h; simp at h
  rw [if_neg h1] at h
  by_cases h2 : PP.length < 1 ∨ 500 < PP.length
  · rw [if_pos h2] at h; simp at h
  rw [if_neg h2] at h
  unfold wrongPs at h
  by_cases h3 : sizesW PP ≠ 0
  · rw [if_pos h3] at h; exact absurd h h3
  rw [if_neg h3] at h
  by_cases h4 : (bodiesW PP [0] (List.replicate PP.length none)).1 ≠ 0
  · rw [if_pos h4] at h; exact absurd h h4
  rw [if_neg h4] at h
  refine ⟨by simpa using h1, by omega, by omega, sizesW_lim PP (by simpa using h3), fun q P hP x hx => ?_⟩
  obtain ⟨hq, e⟩ := List.getElem?_eq_some_iff.1 hP
  obtain ⟨K, hK⟩ := protosW_ins PP.length 0 _ h q (Nat.zero_le _) (by omega)
  have hg : PP.getD q ⟨0, []⟩ = P := by rw [List.getD_eq_getElem?_getD, hP]; rfl
  have := protoW_ins hK
  rw [hg] at this
  exact this x hx
theorem Right.glob {nm : ByteArray} {PP : List Pro} (h : Right nm PP) {P : Pro} (hP : P ∈ PP) {x : In} (hx : x ∈ P.code) (ho : x.op = 5 ∨ x.op = 12 ∨ x.op = 13) : x.lib.size ≤ 1000 ∧ x.own.size ≤ 1000 := by
  obtain ⟨q, hq⟩ := List.mem_iff_getElem?.1 hP
  obtain ⟨K, hK⟩ := h.ins q P hq x hx
  unfold insW at hK
  rw [if_neg (by omega), if_neg (by omega), if_neg (by omega), if_neg (by omega), if_pos ho] at hK
  simp only [nameW] at hK
  by_cases hb : (plainB x.lib && namedB x.own) = true
  · simp [plainB, namedB] at hb
    omega
  · rw [if_neg hb] at hK
    simp at hK
/-- The globals, and what instructions define. -/
def defGs (gs : List Gl) (xs : List In) : List Gl := xs.foldl defG gs
theorem addG_len (gs : List Gl) (s : Gl) : (addG gs s).length ≤ gs.length + 1 := by
  unfold addG
  split <;> simp
theorem defG_len (gs : List Gl) (x : In) : (defG gs x).length ≤ gs.length + 1 := by
  unfold defG
  split
  · exact addG_len _ _
  · omega
theorem defGs_len : ∀ (xs : List In) (gs : List Gl), (defGs gs xs).length ≤ gs.length + xs.length
  | [], gs => by simp [defGs]
  | x :: r, gs => by
    have h1 := defGs_len r (defG gs x)
    have h2 := defG_len gs x
    have e : defGs gs (x :: r) = defGs (defG gs x) r := rfl
    rw [e, List.length_cons]
    omega
theorem defGs_next {xs : List In} {gs : List Gl} {k : Nat} {x : In} (h : xs[k]? = some x) : defGs gs (xs.take (k + 1)) = defG (defGs gs (xs.take k)) x := by
  rw [List.take_add_one, h]
  simp [defGs]
theorem code_len {PP : List Pro} (h : ∀ P ∈ PP, P.code.length ≤ 6000) : (PP.flatMap Pro.code).length ≤ PP.length * 6000 := by
  induction PP with
  | nil => simp
  | cons P r ih =>
    rw [List.flatMap_cons, List.length_append, List.length_cons]
    have h1 := h P (by simp)
    have h2 := ih (fun Q hQ => h Q (by simp [hQ]))
    rw [Nat.succ_mul]
    omega
/-- What is wrong with the kth instruction, where globals are defined. -/
def insE (nm : ByteArray) (xs : List In) (k : Nat) : Int := match xs[k]? with | some x => defE nm x | none => 0
theorem insE_at {nm : ByteArray} {xs : List In} {k : Nat} {x : In} (h : xs[k]? = some x) : insE nm xs k = defE nm x := by
  unfold insE
  rw [h]
/-- What is wrong with the kth unit, where globals are defined. -/
def defU (us : List Un) (k : Nat) (u : Un) : Int :=
  if wrongU u.1 u.2 = 0 then (if ∃ v ∈ us.take k, v.1 = u.1 then 7 else fstE (insE u.1 (u.2.flatMap Pro.code)) 0 (u.2.flatMap Pro.code).length) else wrongU u.1 u.2
end
section
set_option linter.unusedVariables false
set_option linter.unusedSimpArgs false
open Go.RowKit

theorem insW_own {PP : List Pro} {gn : Int} {q len : Nat} {x : In} {K : Kn} (h : x.op ≠ 7) : insW PP (glN gn) q len x K = (ownW (aro K q) len gn x, K) := by
  unfold insW ownW
  repeat' split
  all_goals first | rfl | (exfalso; omega) | omega
theorem insW_close {PP : List Pro} {gl : In → Int} {q len : Nat} {x : In} {K : Kn} (h : x.op = 7) : insW PP gl q len x K = closeW PP q x.a K := by
  unfold insW
  rw [if_neg (by omega), if_neg (by omega), if_neg (by omega), if_neg (by omega), if_neg (by omega), if_neg (by omega), if_pos h]
theorem insW_in {PP : List Pro} {gl : In → Int} {q len : Nat} {x : In} {K : Kn} (h : (insW PP gl q len x K).1 = 0) : InOk len x ∧ (x.op = 8 → x.a ≤ 2000) := by
  by_cases h8 : x.op = 8
  · unfold insW at h
    rw [if_neg (by omega), if_neg (by omega), if_neg (by omega), if_neg (by omega), if_neg (by omega), if_neg (by omega), if_neg (by omega), if_pos h8] at h
    have : 0 ≤ x.a ∧ x.a ≤ 2000 := by
      by_cases c : 0 ≤ x.a ∧ x.a ≤ 2000
      · exact c
      · rw [if_neg c] at h; simp at h
    exact ⟨⟨by omega, by omega, fun c => by omega, fun _ => this.1⟩, fun _ => this.2⟩
  by_cases h9 : x.op = 9 ∨ x.op = 10
  · unfold insW at h
    rw [if_neg (by omega), if_neg (by omega), if_neg (by omega), if_neg (by omega), if_neg (by omega), if_neg (by omega), if_neg (by omega), if_neg h8, if_pos h9] at h
    have : 0 ≤ x.a ∧ x.a < (len : Int) := by
      by_cases c : 0 ≤ x.a ∧ x.a < (len : Int)
      · exact c
      · rw [if_neg c] at h; simp at h
    exact ⟨⟨by omega, by omega, fun _ => this, fun c => absurd c h8⟩, fun c => absurd c h8⟩
  · have hr : 1 ≤ x.op ∧ x.op ≤ 15 := by
      by_cases c : 1 ≤ x.op ∧ x.op ≤ 15
      · exact c
      · unfold insW at h
        rw [if_neg (by omega), if_neg (by omega), if_neg (by omega), if_neg (by omega), if_neg (by omega), if_neg (by omega), if_neg (by omega), if_neg h8, if_neg h9, if_neg (by omega)] at h
        simp at h
    exact ⟨⟨hr.1, hr.2, fun c => absurd c h9, fun c => absurd c h8⟩, fun c => absurd c h8⟩
theorem codeW_in {PP : List Pro} {gl : In → Int} {q len : Nat} {c : List In} {K : Kn} (h : (codeW PP gl q len c K).1 = 0) : ∀ x ∈ c, InOk len x ∧ (x.op = 8 → x.a ≤ 2000) := fun x hx => by
  obtain ⟨K', h'⟩ := codeW_ins c K h x hx
  exact insW_in h'
/-- How many are around, by number. -/
def aroG (K : Kn) (i : Int) : Option Int := if 0 ≤ i then (K.getD i.toNat none).map (·.2) else none
def bodG (K : Kn) (i : Int) : Bool := if 0 ≤ i then (match K.getD i.toNat none with | some s => s.1 | none => false) else false
theorem aroG_at {K : Kn} {q : Nat} {s : Bool × Int} (h : K[q]? = some (some s)) : aroG K (q : Int) = some s.2 := by
  unfold aroG
  rw [if_pos (by omega), Int.toNat_natCast, List.getD_eq_getElem?_getD, h]
  rfl
theorem aroG_no {K : Kn} {q : Nat} (h : K[q]? = some none) : aroG K (q : Int) = none := by
  unfold aroG
  rw [if_pos (by omega), Int.toNat_natCast, List.getD_eq_getElem?_getD, h]
  rfl
theorem bodG_at {K : Kn} {q : Nat} {s : Bool × Int} (h : K[q]? = some (some s)) : bodG K (q : Int) = s.1 := by
  unfold bodG
  rw [if_pos (by omega), Int.toNat_natCast, List.getD_eq_getElem?_getD, h]
  rfl
theorem aroG_set {K : Kn} {k : Nat} (hk : k < K.length) (s : Bool × Int) (i : Int) : aroG (K.set k (some s)) i = if i = (k : Int) then some s.2 else aroG K i := by
  unfold aroG
  by_cases h0 : 0 ≤ i
  · rw [if_pos h0, if_pos h0]
    by_cases e : i = (k : Int)
    · subst e
      rw [if_pos rfl, Int.toNat_natCast, List.getD_eq_getElem?_getD, List.getElem?_set_self hk]
      rfl
    · rw [if_neg e, List.getD_eq_getElem?_getD, List.getD_eq_getElem?_getD, List.getElem?_set_ne (by omega)]
  · rw [if_neg h0, if_neg h0, if_neg (by omega)]
theorem bodG_set {K : Kn} {k : Nat} (hk : k < K.length) (s : Bool × Int) (i : Int) : bodG (K.set k (some s)) i = if i = (k : Int) then s.1 else bodG K i := by
  unfold bodG
  by_cases h0 : 0 ≤ i
  · rw [if_pos h0, if_pos h0]
    by_cases e : i = (k : Int)
    · subst e
      rw [if_pos rfl, Int.toNat_natCast, List.getD_eq_getElem?_getD, List.getElem?_set_self hk]
      rfl
    · rw [if_neg e, List.getD_eq_getElem?_getD, List.getD_eq_getElem?_getD, List.getElem?_set_ne (by omega)]
  · rw [if_neg h0, if_neg h0, if_neg (by omega)]
theorem bodG_new {K : Kn} {k : Nat} (hk : K[k]? = some none) (a : Int) (i : Int) : bodG (K.set k (some (false, a))) i = bodG K i := by
  rw [bodG_set (List.getElem?_eq_some_iff.1 hk).1]
  by_cases e : i = (k : Int)
  · subst e
    rw [if_pos rfl]
    unfold bodG
    rw [if_pos (by omega), Int.toNat_natCast, List.getD_eq_getElem?_getD, hk]
    rfl
  · rw [if_neg e]
/-- WHAT IS KNOWN OF PROCEDURES, in two maps. -/
structure PK (w : World) (A T na : Nat) (K : Kn) (W : World) : Prop where
  a : MapA A na (aroG K) W
  t : MapT T na (bodG K) W
  ne : A ≠ T
  ha : w.heap.size ≤ A
  ht : w.heap.size ≤ T
  bl : Below w.heap.size w W
theorem PK.on {w W W' : World} {A T na K} (h : PK w A T na K W) (hb : Below W.heap.size W W') : PK w A T na K W' :=
  ⟨h.a.kept (hb.block _ h.a.lt), h.t.kept (hb.block _ h.t.lt), h.ne, h.ha, h.ht, h.bl.trans (hb.mono h.bl.size)⟩
theorem MapA.more {b n m : Nat} {g : Int → Option Int} {w : World} (h : MapA b n g w) (hm : n ≤ m) : MapA b m g w := by
  obtain ⟨D, ⟨es, clock, hb, F, hs, hD⟩, h2, h3⟩ := h
  exact ⟨D, ⟨es, clock, hb, F, Nat.le_trans hs hm, hD⟩, h2, h3⟩
theorem MapT.more {b n m : Nat} {g : Int → Bool} {w : World} (h : MapT b n g w) (hm : n ≤ m) : MapT b m g w := by
  obtain ⟨D, ⟨es, clock, hb, F, hs, hD⟩, h2, h3⟩ := h
  exact ⟨D, ⟨es, clock, hb, F, Nat.le_trans hs hm, hD⟩, h2, h3⟩
theorem MapT.congr {b n : Nat} {g g' : Int → Bool} {w : World} (h : MapT b n g w) (e : ∀ s, g' s = g s) : MapT b n g' w := by
  obtain rfl : g' = g := funext e
  exact h
theorem PK.more {w W : World} {A T n m K} (h : PK w A T n K W) (hm : n ≤ m) : PK w A T m K W := ⟨h.a.more hm, h.t.more hm, h.ne, h.ha, h.ht, h.bl⟩
/-- A body becomes known. -/
theorem PK.body {w W : World} {A T na K} (h : PK w A T na K W) (hn : na < 1000000000) {k : Nat} (hk : k < K.length) (hk2 : k ≤ 1000000) :
    ∃ W1 W2, (Instr.mapUpdate 82 (.map (some A)) (.int .i64 (k : Int)) (.int .i64 0)).run Tryd.prog W = .ok () W1 ∧ (Instr.mapUpdate 83 (.map (some T)) (.int .i64 (k : Int)) (.bool true)).run Tryd.prog W1 = .ok () W2 ∧ PK w A T (na + 1) (K.set k (some (true, 0))) W2 := by
  obtain ⟨W1, r1, m1, g1⟩ := h.a.put (by unfold maxLen; omega) (k : Int) (by omega) 0 (by omega)
  have t1 := h.t.kept (w' := W1) (g1.block _ h.t.lt (by simpa using h.ne.symm))
  obtain ⟨W2, r2, m2, g2⟩ := t1.put (by unfold maxLen; omega) (k : Int) (by omega) true
  refine ⟨W1, W2, r1, r2, ⟨(m1.kept (g2.block _ m1.lt (by simpa using h.ne))).congr (fun i => aroG_set hk _ i), m2.congr (fun i => bodG_set hk _ i), h.ne, h.ha, h.ht, ?_⟩⟩
  have b1 := h.bl.trans ((Below.refl w.heap.size W).grown g1 h.bl.size (fun k hk => by simp at hk; rw [← hk]; exact h.ha))
  exact b1.trans ((Below.refl w.heap.size W1).grown g2 b1.size (fun k hk => by simp at hk; rw [← hk]; exact h.ht))
/-- A procedure becomes known. -/
theorem PK.close {w W : World} {A T na K} (h : PK w A T na K W) (hn : na < 1000000000) {k : Nat} (hk : K[k]? = some none) (hk2 : k ≤ 1000000) (a : Int) (ha : 0 ≤ a ∧ a ≤ 1000000000) :
    ∃ W1, (Instr.mapUpdate 82 (.map (some A)) (.int .i64 (k : Int)) (.int .i64 a)).run Tryd.prog W = .ok () W1 ∧ PK w A T (na + 1) (K.set k (some (false, a))) W1 ∧ W.grownBy W1 (some A) := by
  obtain ⟨W1, r1, m1, g1⟩ := h.a.put (by unfold maxLen; omega) (k : Int) (by omega) a ha
  refine ⟨W1, r1, ⟨m1.congr (fun i => aroG_set (List.getElem?_eq_some_iff.1 hk).1 _ i), ((h.t.kept (w' := W1) (g1.block _ h.t.lt (by simpa using h.ne.symm))).more (Nat.le_succ _)).congr (fun i => bodG_new hk a i), h.ne, h.ha, h.ht, ?_⟩, g1⟩
  exact h.bl.trans ((Below.refl w.heap.size W).grown g1 h.bl.size (fun k hk => by simp at hk; rw [← hk]; exact h.ha))
theorem PK.start {w W : World} (n : Nat) (hb : Below w.heap.size w W) : PK w W.heap.size (W.heap.size + 1) 0 (List.replicate n none) ((W.alloc (.map #[] 0)).alloc (.map #[] 0)) := by
  have b1 := (Below.refl W.heap.size W).alloc (Nat.le_refl _) (.map #[] 0)
  have b2 := (Below.refl (W.alloc (.map #[] 0)).heap.size (W.alloc (.map #[] 0))).alloc (Nat.le_refl _) (.map #[] 0)
  have m1 := MapA.made W
  have m2 := MapT.made (W.alloc (.map #[] 0))
  have e : (W.alloc (.map #[] 0)).heap.size = W.heap.size + 1 := by simp
  rw [e] at m2
  refine ⟨(m1.kept (b2.block _ m1.lt)).congr (fun i => ?_), m2.congr (fun i => ?_), by omega, hb.size, Nat.le_trans hb.size (Nat.le_succ _), (hb.trans (b1.mono hb.size)).trans (b2.mono (Nat.le_trans hb.size b1.size))⟩
  · unfold aroG
    split
    · rw [List.getD_eq_getElem?_getD, List.getElem?_replicate]
      split <;> rfl
    · rfl
  · unfold bodG
    have e2 : (List.replicate n (none : Option (Bool × Int))).getD i.toNat none = none := by
      rw [List.getD_eq_getElem?_getD, List.getElem?_replicate]
      split <;> rfl
    rw [e2]
    split <;> rfl
theorem KB.body {K : Kn} (h : KB K) (k : Nat) : KB (K.set k (some (true, 0))) := by
  intro q s hs
  by_cases e : k = q
  · subst e
    by_cases hl : k < K.length
    · rw [List.getElem?_set_self hl] at hs
      simp at hs
      rw [← hs]
      exact ⟨Int.le_refl _, by simp; omega⟩
    · rw [List.getElem?_eq_none (by simp; omega)] at hs; simp at hs
  · rw [List.getElem?_set_ne e] at hs
    exact h q s hs
end
end Go.Proofs.YtdnbingddbakaaaDoor
