/- Chapter 9: slices.Repeat of one number. Chapter 9: whether a procedure uses its stack well. Chapter 9: procedures in memory; the checker. -/
import Derived.Deep.RegionLaw
import Derived.Laws.CopyOwn
import Derived.Laws.MakeOwn
import Derived.Test.YthikdpclifeonaaGreatDoorK07
import Derived.Test.YthikdpclifeonaaGreatDoorK14
import Derived.Test.YthikdpclifeonaaGreatDoorK15
import Derived.Test.YthikdpclifeonaaGreatDoorK16
namespace Go.Proofs.YthikdpclifeonaaGreatDoor
section
set_option linter.unusedVariables false
set_option linter.unusedSimpArgs false
open Go.RowKit

theorem infoInt : (Tryz.prog.info? 3).map (fun i => (i.zero, i.size, i.bytes)) = some (some (.int .i64 0), 1, 8) := by kernel_rfl
theorem sizeInt : (Tryz.prog.info? 3).map (·.size) = some 1 := by kernel_rfl
theorem made_one (n : Nat) (x : Value) : madeCells #[x] n = (List.replicate n x).toArray := by
  unfold madeCells
  apply Array.ext
  · simp
  · intro i h1 h2
    simp [Nat.mod_one]
theorem wrap_small (x : Int) (h0 : 0 ≤ x) (h1 : x ≤ 12000) : IntKind.i64.wrap x = x := by
  first
    | (simp [IntKind.wrap, IntKind.bits]; omega)
    | (simp [IntKind.wrap, show IntKind.i64.bits = 64 from rfl]; omega)
    | (simp [IntKind.wrap, show IntKind.i64.bits = 64 from rfl, show IntKind.i64.signed = true from rfl]; split <;> omega)
theorem rep_splice (m n k : Nat) (a b : Value) (h : m + k ≤ n) : splice (List.replicate m a ++ List.replicate (n - m) b) m (List.replicate k a) = List.replicate (m + k) a ++ List.replicate (n - (m + k)) b := by
  unfold splice
  rw [List.take_append_of_le_length (by simp), List.take_of_length_le (by simp), List.drop_append]
  simp only [List.length_replicate, List.drop_replicate]
  rw [show m - (m + k) = 0 by omega, List.replicate_zero, List.nil_append, ← List.append_assoc, List.replicate_append_replicate, show n - m - (m + k - m) = n - (m + k) by omega]

set_option maxRecDepth 100000 in
set_option maxHeartbeats 800000 in
theorem Repeat_one (c : Nat) (v : Int) (n cap : Nat) (w : World) (h : w.cell? ⟨c, 0, none⟩ = some (.int .i64 v)) (hc : c < w.heap.size) (hn1 : 1 ≤ n) (hn : n ≤ 6000) :
    Calls Tryz.prog 135 #[.slice (some ⟨c, 0, none⟩) 1 cap, .int .i64 n] w fun r w' => r = .returned (.slice (some ⟨w.heap.size, 0, none⟩) n n) ∧ HR w.heap.size 3 (List.replicate n v) w' ∧ Below w.heap.size w w' := by
  have M := Tryz.bits_Mul 1 n (by omega) (by omega) w
  rw [show (1 * n / 18446744073709551616 : Nat) = 0 by omega, show (1 * n % 18446744073709551616 : Nat) = n by omega] at M
  have HM := hidd M
  clear M
  obtain ⟨i0, hinf, hz0, hz1, hz2⟩ := info_parts infoInt
  have hmk : (Instr.makeSlice 24 (.int .i64 n) (.int .i64 n)).run Tryz.prog w = .ok (.slice (some ⟨w.heap.size, 0, none⟩) n n) (w.alloc (.cells (List.replicate n (Value.int .i64 0)).toArray 3)) := by
    have := run_makeSlice (P := Tryz.prog) w 24 3 i0 (.int .i64 0) Tryz.underlying24 hinf hz0 .i64 .i64 n n (by omega) (Int.le_refl _) (by rw [hz1]; simp; omega) (by rw [hz2]; omega) (by omega)
    rw [hz1] at this
    simpa [Value.cells, made_one] using this
  have hcell : (w.alloc (.cells (List.replicate n (Value.int .i64 0)).toArray 3)).cell? ⟨c, 0, none⟩ = some (.int .i64 v) := (((Below.refl w.heap.size w).alloc (Nat.le_refl _) _).cell (p := ⟨c, 0, none⟩) hc).trans h
  have hrow : (w.alloc (.cells (List.replicate n (Value.int .i64 0)).toArray 3)).heap[w.heap.size]? = some (.cells (List.replicate n (Value.int .i64 0)).toArray 3 (0, 0)) := World.alloc_heap_new w _
  have HC := hidd hcell
  have HRW := hidd hrow
  have HBL := hidd ((Below.refl w.heap.size w).alloc (Nat.le_refl _) (.cells (List.replicate n (Value.int .i64 0)).toArray 3))
  have H0 := hidd h
  clear hcell hrow hinf hz0 hz1 hz2 h
  go_enter Tryz.func135, Tryz.ntmps135
  go_wp2_with fail
  refine HM.out.mono ?_
  rintro e w1 ⟨rfl, rfl⟩
  go_wp2_with (refine wpList_copy_splice rfl _ _ 24 24 rfl 3 Tryz.underlying24 sizeInt (some ⟨w1.heap.size, 0, none⟩) (some ⟨c, 0, none⟩) n n 1 cap rfl rfl w1.heap.size 0 (List.replicate n (Value.int .i64 0)) 3 HRW.out [.int .i64 v] ?c1 ?c2 ?c3 ?c4 w1.heap.size w1 HBL.out (Nat.le_refl _) ?_)
  case c1 => exact (Nat.min_eq_left hn1).symm
  case c2 =>
    intro j u hj
    cases j with
    | zero =>
      simp at hj
      subst hj
      exact H0.out
    | succ j => simp at hj
  case c3 => simp; omega
  case c4 => intro u hu; rw [List.mem_singleton.1 hu]; rfl
  intro w2 hw2 hb2
  have HB2 := hidd hb2
  clear hb2 hmk HM
  go_wp2_with fail
  go_loopw [8] (fun i wr => ∃ m : Nat, 1 ≤ m ∧ m ≤ n ∧ i = .int .i64 m ∧ Below w1.heap.size w1 wr ∧ wr.heap[w1.heap.size]? = some (.cells (List.replicate m (Value.int .i64 v) ++ List.replicate (n - m) (Value.int .i64 0)).toArray 3 (0, 0))) (fun i _ => n - (intOf i).toNat)
  case atStart =>
    refine ⟨1, by omega, hn1, rfl, HB2.out, ?_⟩
    have := rep_splice 0 n 1 (Value.int .i64 v) (Value.int .i64 0) (by omega)
    simp only [List.replicate_zero, List.nil_append, Nat.sub_zero, Nat.zero_add] at this
    rw [← this]
    exact hw2.out
  case round =>
    obtain ⟨m, hm1, hm2, rfl, hb, hr⟩ := hrel
    have HB := hidd hb
    have HR0 := hidd hr
    clear hb hr hw2 HB2
    by_cases hlt : m < n
    · have hN : (List.replicate (Nat.min m (n - m)) (Value.int .i64 v)).length = Nat.min m (n - m) := by simp
      have hle : Nat.min m (n - m) ≤ m ∧ Nat.min m (n - m) ≤ n - m ∧ 1 ≤ Nat.min m (n - m) := ⟨Nat.min_le_left _ _, Nat.min_le_right _ _, Nat.le_min.2 ⟨hm1, by omega⟩⟩
      have hcell : ∀ j u, (List.replicate (Nat.min m (n - m)) (Value.int .i64 v))[j]? = some u → wr.cell? ((⟨w1.heap.size, 0, none⟩ : Addr).add j) = some u := by
        intro j u hj
        rw [List.getElem?_replicate] at hj
        split at hj
        · rename_i hjl
          simp only [Option.some.injEq] at hj
          subst hj
          have hadd := addr_add w1.heap.size j
          rw [hadd]
          simp only [World.cell?, HR0.out]
          simp [List.getElem?_append, show j < m by omega]
        · simp at hj
      have hfit : m + (List.replicate (Nat.min m (n - m)) (Value.int .i64 v)).length ≤ (List.replicate m (Value.int .i64 v) ++ List.replicate (n - m) (Value.int .i64 0)).length := by simp; omega
      have hone : ∀ u ∈ List.replicate (Nat.min m (n - m)) (Value.int .i64 v), u.oneCell' = true := fun u hu => by rw [(List.mem_replicate.1 hu).2]; rfl
      have HN := hidd hN
      have HCL := hidd hcell
      have HF := hidd hfit
      have HO := hidd hone
      have HRS := hidd (rep_splice m n (Nat.min m (n - m)) (Value.int .i64 v) (Value.int .i64 0) (by omega))
      clear hN hcell hfit hone
      have hwr : IntKind.i64.wrap ((m : Int) + (Nat.min m (n - m) : Nat)) = ((m + Nat.min m (n - m) : Nat) : Int) := by
        rw [wrap_small _ (by omega) (by omega)]
        omega
      generalize hq : Nat.min m (n - m) = q at *
      go_wp2_with fail
      go_region_law (refine step_copy_splice rfl _ _ 24 24 rfl 3 Tryz.underlying24 sizeInt (if n = m then some ⟨w1.heap.size, 0, none⟩ else some ⟨w1.heap.size, m, none⟩) (some ⟨w1.heap.size, 0, none⟩) (n - m) (n - m) m n (by go_simp) (by go_simp) w1.heap.size m (List.replicate m (Value.int .i64 v) ++ List.replicate (n - m) (Value.int .i64 0)) 3 (by exact HR0.out) (List.replicate q (Value.int .i64 v)) (HN.out.trans hq.symm) (fun _ => ⟨if_neg (by omega), _, rfl, by exact HCL.out⟩) HF.out HO.out w1.heap.size w1 (by exact HB.out.drew) (Nat.le_refl _) (fun w5 h5 b5 => ?_))
      all_goals
        have HB5 := hidd b5
        clear b5
        go_wp2_with fail
        go_roundw
        case rel => exact ⟨m + q, by omega, by omega, by first | omega | (rw [hwr]) | (congr 1; omega), HB5.out, by rw [← HRS.out]; exact h5.out⟩
        case measure => first | (simp [intOf]; omega) | (simp only [intOf, hwr]; simp [intOf]; omega)
    · obtain rfl : m = n := by omega
      go_wp2_with fail
      go_ret
      refine ⟨rfl, ?_, HB.out⟩
      have := HR0.out
      unfold HR
      simpa using this
end
section
set_option linter.unusedVariables false
set_option linter.unusedSimpArgs false
open Go.RowKit

/-- Heights are none, or no higher than their place. -/
def HB (H : List Int) : Prop := ∀ i, -1 ≤ H.getD i (-1) ∧ H.getD i (-1) ≤ i
theorem reach_hb {H H' : List Int} {frm : Nat} {tt hh : Int} (e : reachH H frm tt hh = some H') (hb : HB H) (h0 : 0 ≤ hh) (h1 : hh ≤ frm + 1) : HB H' := by
  unfold reachH at e
  split at e
  · simp at e
  · rename_i c
    split at e
    · simp only [Option.some.injEq] at e
      subst e
      intro i
      rw [List.getD_eq_getElem?_getD, List.getElem?_set]
      by_cases ei : tt.toNat = i
      · rw [if_pos ei]
        split
        · simp; omega
        · simp
      · rw [if_neg ei, ← List.getD_eq_getElem?_getD]; exact hb i
    · split at e
      · simp only [Option.some.injEq] at e; subst e; exact hb
      · simp at e
theorem leave_hb {H H' : List Int} {last : Int} {place : Nat} {x : In} (hc : x.op = 8 → 0 ≤ x.a ∧ x.a ≤ 2000) (e : leaveH last H place x = some H') (hb : HB H) : H'.length = H.length ∧ HB H' := by
  obtain ⟨b1, b2, b3, b4⟩ := moves_le x hc
  have hp := hb place
  unfold leaveH at e
  split at e
  · simp at e
  · rename_i c0
    split at e
    · split at e
      · simp only [Option.some.injEq] at e; subst e; exact ⟨rfl, hb⟩
      · simp at e
    · split at e
      · exact ⟨reach_len e, reach_hb e hb (by omega) (by omega)⟩
      · split at e
        · cases e1 : reachH H place x.a (H.getD place (-1) - (movesI x).1 + (movesI x).2) with
          | none => rw [e1] at e; simp at e
          | some H1 =>
            rw [e1, Option.bind_some] at e
            exact ⟨(reach_len e).trans (reach_len e1), reach_hb e (reach_hb e1 hb (by omega) (by omega)) (by omega) (by omega)⟩
        · exact ⟨reach_len e, reach_hb e hb (by omega) (by omega)⟩

set_option maxRecDepth 100000 in
set_option maxHeartbeats 1600000 in
theorem usesStackWell_any (code : List In) (body : Bool) (b o cap : Nat) (w : World) (hb : b < w.heap.size) (hn1 : 1 ≤ code.length) (hn : code.length ≤ 6000)
    (hin : ∀ i x, code[i]? = some x → w.cell? ⟨b, o + i * 11, none⟩ = some (.int .i64 x.op) ∧ w.cell? ⟨b, o + i * 11 + 1, none⟩ = some (.int .i64 x.a) ∧ (x.op = 8 → 0 ≤ x.a ∧ x.a ≤ 2000)) :
    Calls Tryz.prog 114 #[.slice (some ⟨b, o, none⟩) code.length cap, .bool body] w fun r w' => r = .returned (.bool (stackOk code body)) ∧ Below w.heap.size w w' := by
  have R := hidd (Repeat_one w.heap.size (-1) code.length 1 (w.alloc (.cells #[.int .i64 (-1)] 3)) (by rw [World.cell?_alloc_mark w #[.int .i64 (-1)] 3 (0, 0) 0]; rfl) (by simp) hn1 hn)
  have HI := hidd hin
  have HA := hidd ((Below.refl w.heap.size w).alloc (Nat.le_refl _) (.cells #[.int .i64 (-1)] 3))
  generalize hl : code.length = n at *
  have HL := hidd hl
  clear hin hl
  cases body
  · go_enter Tryz.func114, Tryz.ntmps114
    go_wp2_with fail
    refine R.out.mono ?_
    rintro e w1 ⟨rfl, hr1, hb1⟩
    have HB1 := hidd (HA.out.trans (hb1.mono (by simp)))
    rw [show (w.alloc (.cells #[.int .i64 (-1)] 3)).heap.size = w.heap.size + 1 by simp] at hr1
    have zf := hr1.loose 0
    have zc := hr1.cell (i := 0) (by simp; omega)
    have H1 := hidd (hr1.set 0 0)
    clear hr1 hb1 R HA
    go_wp2_with fail
    clear zf zc
    go_loopw [17] (fun i wr => ∃ (k : Nat) (H : List Int), k ≤ n ∧ i = .int .i64 k ∧ H.length = n ∧ HB H ∧ HR (w.heap.size + 1) 3 H wr ∧ Below w.heap.size w wr ∧ w.heap.size + 1 < wr.heap.size ∧ stackOk code false = walkS 1 k (code.drop k) H) (fun i _ => n - (intOf i).toNat)
    case atStart =>
      refine ⟨0, (List.replicate n (-1)).set 0 0, by omega, rfl, by simp, ?_, H1.out, HB1.out.setCell (p := ⟨w.heap.size + 1, 0, none⟩) (by simp) _, ?_, ?_⟩
      · intro i
        rw [List.getD_eq_getElem?_getD, List.getElem?_set]
        by_cases e : 0 = i
        · rw [if_pos e]
          split <;> simp
        · rw [if_neg e, List.getElem?_replicate]
          split <;> simp <;> omega
      · have := H1.out
        unfold HR at this
        exact (Array.getElem?_eq_some_iff.1 this).1
      · rw [List.drop_zero, ← HL.out]; rfl
    case round =>
      obtain ⟨k, H, hk, rfl, hlen, hhb, hhr, hbe, hsz, hst⟩ := hrel
      have HS := hidd hst
      have HHB := hidd hhb
      have HBE := hidd hbe
      have HHR := hidd hhr
      have HLE := hidd hlen
      clear hst
      by_cases hlt : k < n
      · have hkc : k < code.length := by rw [HL.out]; exact hlt
        have hx : code[k]? = some code[k] := List.getElem?_eq_getElem hkc
        obtain ⟨i0, i1, i2⟩ := HI.out k _ hx
        have j0 := (hbe.cell (p := ⟨b, o + k * 11, none⟩) hb).trans i0
        have j1 := (hbe.cell (p := ⟨b, o + k * 11 + 1, none⟩) hb).trans i1
        have hdrop : code.drop k = code[k] :: code.drop (k + 1) := List.drop_eq_getElem_cons hkc
        have LV := leave_any (w.heap.size + 1) 3 H n k code[k] b (o + k * 11) 1 wr hhr (by omega) (by omega) (by have := hhb k; omega) j0 j1 i2
        have LHB := hidd (fun H' => leave_hb (H := H) (H' := H') (last := 1) (place := k) i2)
        rw [hlen] at LV
        have HLV := hidd LV
        have z0 := hhr.cell (i := k) (by omega)
        have HD := hidd hdrop
        clear LV i0 i1 i2 j0 j1 hdrop hx hhb hbe hhr hlen
        by_cases hm : H.getD k (-1) = -1
        · have HE : Hid (stackOk code false = false) := by
            unfold Hid
            rw [HS.out, HD.out, walkS, if_pos hm]
          rw [hm] at z0
          go_wp2_with fail
          go_ret
          exact ⟨retB HE.out.symm, HBE.out⟩
        · have HM := hidd hm
          generalize H.getD k (-1) = y at z0 hm
          have hm' : (y == -1) = false := by simpa using hm
          cases hv : leaveH 1 H k code[k] with
          | none =>
            have HE : Hid (stackOk code false = false) := by
              unfold Hid
              rw [HS.out, HD.out, walkS, if_neg HM.out, hv]
            rw [hv] at HLV
            clear hv LHB
            go_wp2_with fail
            refine HLV.out.mono ?_
            rintro e w2 ⟨rfl, q1, q2⟩
            have HB2 := hidd (HBE.out.trans (q2.toBelow (by omega) (by omega)))
            clear q1 q2
            simp only [Option.isSome_none]
            go_wp2_with fail
            go_ret
            exact ⟨retB HE.out.symm, HB2.out⟩
          | some H2 =>
            have HE : Hid (stackOk code false = walkS 1 (k + 1) (code.drop (k + 1)) H2) := by
              unfold Hid
              rw [HS.out, HD.out, walkS, if_neg HM.out, hv]
            have hh2 := LHB.out H2 hv HHB.out
            rw [hv] at HLV
            clear hv LHB
            go_wp2_with fail
            refine HLV.out.mono ?_
            rintro e w2 ⟨rfl, q1, q2⟩
            have HB2 := hidd (HBE.out.trans (q2.toBelow (by omega) (by omega)))
            have HQ := hidd (q1 H2 rfl)
            have hs2 := q2.size
            clear q1 q2
            simp only [Option.isSome_some]
            go_wp2_with fail
            go_roundw
            case rel => exact ⟨k + 1, H2, by omega, by go_num, by rw [hh2.1]; exact HLE.out, hh2.2, HQ.out, HB2.out, by omega, HE.out⟩
            case measure => simp [intOf]; omega
      · obtain rfl : k = n := by omega
        go_wp2_with fail
        go_ret
        refine ⟨retB ?_, HBE.out⟩
        rw [HS.out, List.drop_of_length_le (by rw [HL.out]; exact Nat.le_refl _)]
        rfl
  · go_enter Tryz.func114, Tryz.ntmps114
    go_wp2_with fail
    refine R.out.mono ?_
    rintro e w1 ⟨rfl, hr1, hb1⟩
    have HB1 := hidd (HA.out.trans (hb1.mono (by simp)))
    rw [show (w.alloc (.cells #[.int .i64 (-1)] 3)).heap.size = w.heap.size + 1 by simp] at hr1
    have zf := hr1.loose 0
    have zc := hr1.cell (i := 0) (by simp; omega)
    have H1 := hidd (hr1.set 0 0)
    clear hr1 hb1 R HA
    go_wp2_with fail
    clear zf zc
    go_loopw [17] (fun i wr => ∃ (k : Nat) (H : List Int), k ≤ n ∧ i = .int .i64 k ∧ H.length = n ∧ HB H ∧ HR (w.heap.size + 1) 3 H wr ∧ Below w.heap.size w wr ∧ w.heap.size + 1 < wr.heap.size ∧ stackOk code true = walkS 0 k (code.drop k) H) (fun i _ => n - (intOf i).toNat)
    case atStart =>
      refine ⟨0, (List.replicate n (-1)).set 0 0, by omega, rfl, by simp, ?_, H1.out, HB1.out.setCell (p := ⟨w.heap.size + 1, 0, none⟩) (by simp) _, ?_, ?_⟩
      · intro i
        rw [List.getD_eq_getElem?_getD, List.getElem?_set]
        by_cases e : 0 = i
        · rw [if_pos e]
          split <;> simp
        · rw [if_neg e, List.getElem?_replicate]
          split <;> simp <;> omega
      · have := H1.out
        unfold HR at this
        exact (Array.getElem?_eq_some_iff.1 this).1
      · rw [List.drop_zero, ← HL.out]; rfl
    case round =>
      obtain ⟨k, H, hk, rfl, hlen, hhb, hhr, hbe, hsz, hst⟩ := hrel
      have HS := hidd hst
      have HHB := hidd hhb
      have HBE := hidd hbe
      have HHR := hidd hhr
      have HLE := hidd hlen
      clear hst
      by_cases hlt : k < n
      · have hkc : k < code.length := by rw [HL.out]; exact hlt
        have hx : code[k]? = some code[k] := List.getElem?_eq_getElem hkc
        obtain ⟨i0, i1, i2⟩ := HI.out k _ hx
        have j0 := (hbe.cell (p := ⟨b, o + k * 11, none⟩) hb).trans i0
        have j1 := (hbe.cell (p := ⟨b, o + k * 11 + 1, none⟩) hb).trans i1
        have hdrop : code.drop k = code[k] :: code.drop (k + 1) := List.drop_eq_getElem_cons hkc
        have LV := leave_any (w.heap.size + 1) 3 H n k code[k] b (o + k * 11) 0 wr hhr (by omega) (by omega) (by have := hhb k; omega) j0 j1 i2
        have LHB := hidd (fun H' => leave_hb (H := H) (H' := H') (last := 0) (place := k) i2)
        rw [hlen] at LV
        have HLV := hidd LV
        have z0 := hhr.cell (i := k) (by omega)
        have HD := hidd hdrop
        clear LV i0 i1 i2 j0 j1 hdrop hx hhb hbe hhr hlen
        by_cases hm : H.getD k (-1) = -1
        · have HE : Hid (stackOk code true = false) := by
            unfold Hid
            rw [HS.out, HD.out, walkS, if_pos hm]
          rw [hm] at z0
          go_wp2_with fail
          go_ret
          exact ⟨retB HE.out.symm, HBE.out⟩
        · have HM := hidd hm
          generalize H.getD k (-1) = y at z0 hm
          have hm' : (y == -1) = false := by simpa using hm
          cases hv : leaveH 0 H k code[k] with
          | none =>
            have HE : Hid (stackOk code true = false) := by
              unfold Hid
              rw [HS.out, HD.out, walkS, if_neg HM.out, hv]
            rw [hv] at HLV
            clear hv LHB
            go_wp2_with fail
            refine HLV.out.mono ?_
            rintro e w2 ⟨rfl, q1, q2⟩
            have HB2 := hidd (HBE.out.trans (q2.toBelow (by omega) (by omega)))
            clear q1 q2
            simp only [Option.isSome_none]
            go_wp2_with fail
            go_ret
            exact ⟨retB HE.out.symm, HB2.out⟩
          | some H2 =>
            have HE : Hid (stackOk code true = walkS 0 (k + 1) (code.drop (k + 1)) H2) := by
              unfold Hid
              rw [HS.out, HD.out, walkS, if_neg HM.out, hv]
            have hh2 := LHB.out H2 hv HHB.out
            rw [hv] at HLV
            clear hv LHB
            go_wp2_with fail
            refine HLV.out.mono ?_
            rintro e w2 ⟨rfl, q1, q2⟩
            have HB2 := hidd (HBE.out.trans (q2.toBelow (by omega) (by omega)))
            have HQ := hidd (q1 H2 rfl)
            have hs2 := q2.size
            clear q1 q2
            simp only [Option.isSome_some]
            go_wp2_with fail
            go_roundw
            case rel => exact ⟨k + 1, H2, by omega, by go_num, by rw [hh2.1]; exact HLE.out, hh2.2, HQ.out, HB2.out, by omega, HE.out⟩
            case measure => simp [intOf]; omega
      · obtain rfl : k = n := by omega
        go_wp2_with fail
        go_ret
        refine ⟨retB ?_, HBE.out⟩
        rw [HS.out, List.drop_of_length_le (by rw [HL.out]; exact Nat.le_refl _)]
        rfl
end
section
set_option linter.unusedVariables false
set_option linter.unusedSimpArgs false
open Go.RowKit

/-- An instruction that lies in memory, and what it quotes below B. -/
structure IL (B : Nat) (w : World) (b o : Nat) (x : In) (qa : Option Addr) (qc : Nat) : Prop where
  c0 : w.cell? ⟨b, o, none⟩ = some (.int .i64 x.op)
  c1 : w.cell? ⟨b, o + 1, none⟩ = some (.int .i64 x.a)
  c2 : w.cell? ⟨b, o + 2, none⟩ = some (.int .i64 x.n)
  c3 : w.cell? ⟨b, o + 3, none⟩ = some (.string x.lib)
  c4 : w.cell? ⟨b, o + 4, none⟩ = some (.string x.own)
  c5 : w.cell? ⟨b, o + 5, none⟩ = some (.int .i64 x.quote.kind)
  c6 : w.cell? ⟨b, o + 6, none⟩ = some (.int .i64 x.quote.n)
  c7 : w.cell? ⟨b, o + 7, none⟩ = some (.string x.quote.name)
  c8 : w.cell? ⟨b, o + 8, none⟩ = some (.int .i64 x.quote.stamp)
  c9 : w.cell? ⟨b, o + 9, none⟩ = some (.int .i64 x.quote.lib)
  c10 : w.cell? ⟨b, o + 10, none⟩ = some (.slice qa x.quote.kids.length qc)
  l3 : x.lib.size ≤ maxLen
  l4 : x.own.size ≤ maxLen
  l7 : x.quote.name.size ≤ maxLen
  lq : x.quote.kids.length ≤ qc
  lk : ∃ f, Dc (fun k => k < B) w f qa x.quote.kids
theorem IL.below {B : Nat} {w w' : World} {b o : Nat} {x : In} {qa : Option Addr} {qc : Nat} (h : IL B w b o x qa qc) (hb : b < B) (hw : Below B w w') : IL B w' b o x qa qc := by
  have e : ∀ q, w'.cell? ⟨b, q, none⟩ = w.cell? ⟨b, q, none⟩ := fun q => hw.cell (p := ⟨b, q, none⟩) hb
  obtain ⟨f, hk⟩ := h.lk
  exact ⟨(e _).trans h.c0, (e _).trans h.c1, (e _).trans h.c2, (e _).trans h.c3, (e _).trans h.c4, (e _).trans h.c5, (e _).trans h.c6, (e _).trans h.c7, (e _).trans h.c8, (e _).trans h.c9, (e _).trans h.c10, h.l3, h.l4, h.l7, h.lq, f, Dc.stay (fun k hk => hw.block k hk) (fun _ h => h) f _ _ hk⟩
/-- Code that lies in memory. -/
def CL (B : Nat) (w : World) (a : Option Addr) (code : List In) : Prop :=
  code = [] ∨ ∃ b o, a = some ⟨b, o, none⟩ ∧ b < B ∧ ∀ i x, code[i]? = some x → ∃ qa qc, IL B w b (o + i * 11) x qa qc
theorem CL.below {B : Nat} {w w' : World} {a : Option Addr} {code : List In} (h : CL B w a code) (hw : Below B w w') : CL B w' a code := by
  rcases h with h | ⟨b, o, ha, hb, h⟩
  · exact Or.inl h
  · exact Or.inr ⟨b, o, ha, hb, fun i x hx => by obtain ⟨qa, qc, hi⟩ := h i x hx; exact ⟨qa, qc, hi.below hb hw⟩⟩
/-- Procedures that lie in memory. -/
def PL (B : Nat) (w : World) (a : Option Addr) (ps : List Pro) : Prop :=
  ps = [] ∨ ∃ b o, a = some ⟨b, o, none⟩ ∧ b < B ∧ ∀ i p, ps[i]? = some p → ∃ ca cc, w.cell? ⟨b, o + i * 2, none⟩ = some (.int .i64 p.args) ∧ w.cell? ⟨b, o + i * 2 + 1, none⟩ = some (.slice ca p.code.length cc) ∧ p.code.length ≤ cc ∧ CL B w ca p.code
theorem PL.below {B : Nat} {w w' : World} {a : Option Addr} {ps : List Pro} (h : PL B w a ps) (hw : Below B w w') : PL B w' a ps := by
  rcases h with h | ⟨b, o, ha, hb, h⟩
  · exact Or.inl h
  · refine Or.inr ⟨b, o, ha, hb, fun i p hp => ?_⟩
    obtain ⟨ca, cc, h0, h1, h2, h3⟩ := h i p hp
    exact ⟨ca, cc, (hw.cell (p := ⟨b, o + i * 2, none⟩) hb).trans h0, (hw.cell (p := ⟨b, o + i * 2 + 1, none⟩) hb).trans h1, h2, h3.below hw⟩

/-- How many parameters may be around. -/
def KB (K : Kn) : Prop := ∀ (q : Nat) (s : Bool × Int), K[q]? = some (some s) → 0 ≤ s.2 ∧ s.2 ≤ (q : Int) * 2000
def ckCells (pa : Option Addr) (n pc G kc R : Nat) (gv : Value) : Array Value := #[.slice pa n pc, .slice (some ⟨G, 0, none⟩) n kc, .slice (some ⟨R, 0, none⟩) 13 13, gv]
/-- THE CHECKER AT WORK: what it knows lies in block G. -/
structure CK (B C G R : Nat) (PP : List Pro) (pa : Option Addr) (pc kc : Nat) (gv : Value) (K : Kn) (w : World) : Prop where
  c : w.heap[C]? = some (.cells (ckCells pa PP.length pc G kc R gv) 186 (0, 0))
  k : KR G K w
  r : w.heap[R]? = some (.cells (primNames.map Value.string).toArray 9 (0, 0))
  cg : C ≠ G
  rg : R ≠ G
  bc : B ≤ C
  bg : B ≤ G
  br : B ≤ R
  pl : PL B w pa PP
  len : K.length = PP.length
  kc : PP.length ≤ kc
  pc : PP.length ≤ pc
  n : PP.length ≤ 20000
  kb : KB K
  ar : ∀ P, P ∈ PP → 0 ≤ P.args ∧ P.args ≤ 2000 ∧ 1 ≤ P.code.length ∧ P.code.length ≤ 6000
theorem CK.lt {B C G R PP pa pc kc gv K w} (h : CK B C G R PP pa pc kc gv K w) : B < w.heap.size := by
  have := (Array.getElem?_eq_some_iff.1 h.c).1
  have := h.bc
  omega
theorem CK.next {B C G R PP pa pc kc gv K K' w w'} (h : CK B C G R PP pa pc kc gv K w) (hk : Keep G w w') (h2 : KR G K' w') (hl : K'.length = K.length) (hb : KB K') : CK B C G R PP pa pc kc gv K' w' := by
  have hB : Below B w w' := hk.toBelow h.bg (Nat.le_of_lt h.lt)
  refine ⟨(hk.block _ (Array.getElem?_eq_some_iff.1 h.c).1 (by simpa using h.cg)).trans h.c, h2, (hk.block _ (Array.getElem?_eq_some_iff.1 h.r).1 (by simpa using h.rg)).trans h.r, h.cg, h.rg, h.bc, h.bg, h.br, h.pl.below hB, hl.trans h.len, h.kc, h.pc, h.n, hb, h.ar⟩
theorem KR.keep {G : Nat} {K : Kn} {w w' : World} (h : KR G K w) (hb : Below w.heap.size w w') : KR G K w' := (hb.block _ (Array.getElem?_eq_some_iff.1 h).1).trans h

theorem insW_len (PP gl q len x) (K : Kn) : (insW PP gl q len x K).2.length = K.length := by
  unfold insW closeW
  repeat' split
  all_goals simp
theorem aro_of {K : Kn} {q : Nat} {s : Bool × Int} (h : K[q]? = some (some s)) : aro K q = s.2 := by
  unfold aro
  rw [List.getD_eq_getElem?_getD, h]
  rfl
theorem insW_kb {PP gl q len x} {K : Kn} {s : Bool × Int} (h : KB K) (hl : K.length = PP.length) (hq : K[q]? = some (some s)) (ha : ∀ P, P ∈ PP → 0 ≤ P.args ∧ P.args ≤ 2000 ∧ 1 ≤ P.code.length ∧ P.code.length ≤ 6000) : KB (insW PP gl q len x K).2 := by
  unfold insW
  repeat' split
  all_goals first | exact h | skip
  unfold closeW
  repeat' split
  all_goals first | exact h | skip
  rename_i h1 h2
  intro t u ht
  rw [List.getElem?_set] at ht
  by_cases e : x.a.toNat = t
  · rw [if_pos e] at ht
    have hlt : x.a.toNat < K.length := by omega
    rw [if_pos hlt] at ht
    simp only [Option.some.injEq] at ht
    subst ht
    rw [aro_of hq]
    have := h q s hq
    have hP : PP[x.a.toNat]? = some (PP[x.a.toNat]'(by omega)) := List.getElem?_eq_getElem (by omega)
    have hg : PP.getD x.a.toNat ⟨0, []⟩ = PP[x.a.toNat]'(by omega) := by rw [List.getD_eq_getElem?_getD, hP]; rfl
    rw [hg]
    have := ha _ (List.getElem_mem (l := PP) (n := x.a.toNat) (by omega))
    simp only
    omega
  · rw [if_neg e] at ht
    exact h t u ht
end
end Go.Proofs.YthikdpclifeonaaGreatDoor
