/- Chapter 10: instruction by instruction, where globals are defined. Chapter 10: a unit, where globals are defined. Chapter 10: all that units define. -/
import Derived.Test.YtdnbingddbakaaaDoorK24
import Derived.Test.YtdnbingddbakaaaDoorK28
namespace Go.Proofs.YtdnbingddbakaaaDoor
section
set_option linter.unusedVariables false
set_option linter.unusedSimpArgs false
open Go.RowKit
set_option maxRecDepth 100000 in
set_option maxHeartbeats 3200000 in
theorem insByIns_29 (B : Nat) (v1 v2 : Value) (PP : List Pro) (pa : Option Addr) (pc ub uo : Nat) (er : Nat → Int) (Inv : Nat → World → Prop) (w : World) (hl : PL B w pa PP) (hpc : PP.length ≤ pc) (hn5 : PP.length ≤ 500) (hc6 : ∀ P, P ∈ PP → P.code.length ≤ 6000) (hub : ub < B) (hBw : B ≤ w.heap.size)
    (hu : w.cell? ⟨ub, uo + 1, none⟩ = some (.slice pa PP.length pc)) (hA : ∀ k W o, Inv k W → Inv k (W.alloc o)) (hI : ∀ k W, Inv k W → Below B w W) (h0 : Inv 0 w)
    (step : ∀ k x b o qa qc W, (PP.flatMap Pro.code)[k]? = some x → IL B W b o x qa qc → b < B → Inv k W → Calls Tryd.prog 29 #[.pointer (some ⟨b, o, none⟩), v1, v2] W fun e W' => e = .returned (.int .i64 (er k)) ∧ Ty W W' ∧ Below B w W' ∧ (er k = 0 → Inv (k + 1) W')) :
    Calls Tryd.prog 28 #[.pointer (some ⟨ub, uo, none⟩), .func (.func 29) #[] #[v1, v2]] w fun e W' => e = .returned (.int .i64 (fstE er 0 (PP.flatMap Pro.code).length)) ∧ Ty w W' ∧ Below B w W' ∧ (fstE er 0 (PP.flatMap Pro.code).length = 0 → Inv (PP.flatMap Pro.code).length W') := by
  obtain ⟨rs, hrs⟩ : ∃ r, r = fstE er 0 (PP.flatMap Pro.code).length := ⟨_, rfl⟩
  rw [← hrs]
  obtain ⟨N, hN⟩ : ∃ n, n = (PP.flatMap Pro.code).length := ⟨_, rfl⟩
  rw [← hN] at hrs ⊢
  have HRS := hidd hrs
  have HNN := hidd hN
  have HPL := hidd hl
  have HC6 := hidd hc6
  have HST := hidd step
  have HA := hidd hA
  have HI := hidd hI
  have H0 := hidd h0
  obtain ⟨n, hn⟩ : ∃ n, n = PP.length := ⟨_, rfl⟩
  have HN := hidd hn
  rw [← hn] at hu hpc hn5
  clear hrs hN hl hc6 step hA hI h0 hn
  go_enter Tryd.func28, Tryd.ntmps28
  go_wp2_with fail
  clear hu
  go_loopw [14] (fun i wr => ∃ j : Nat, j ≤ n ∧ i = .int .i64 j ∧ Hid (Inv ((PP.take j).flatMap Pro.code).length wr ∧ Ty w wr ∧ Below B w wr ∧ rs = fstE er ((PP.take j).flatMap Pro.code).length (N - ((PP.take j).flatMap Pro.code).length))) (fun i _ => n - (intOf i).toNat)
  case atStart => exact ⟨0, Nat.zero_le _, rfl, H0.out, Ty.refl _, Below.refl _ _, HRS.out⟩
  case round =>
  obtain ⟨j, hj, rfl, HR⟩ := hrel
  by_cases hlt : j < n
  · have hjP : j < PP.length := by rw [← HN.out]; exact hlt
    have hP : PP[j]? = some PP[j] := List.getElem?_eq_getElem hjP
    obtain ⟨P, hPe⟩ : ∃ P, PP[j] = P := ⟨_, rfl⟩
    rw [hPe] at hP
    clear hPe
    have HP := hidd hP
    obtain ⟨pb, po, rfl, hpb, hall⟩ := HPL.out.at hP
    obtain ⟨ca, cc, p0, p1, hcc, hcl⟩ := hall j _ hP
    have q0 := (HR.out.2.2.1.cell (p := ⟨pb, po + j * 2, none⟩) hpb).trans p0
    have q1 := (HR.out.2.2.1.cell (p := ⟨pb, po + j * 2 + 1, none⟩) hpb).trans p1
    obtain ⟨cn, hcn⟩ : ∃ n, n = P.code.length := ⟨_, rfl⟩
    have HCN := hidd hcn
    have hc6 : cn ≤ 6000 := by rw [hcn]; exact HC6.out P (List.mem_of_getElem? hP)
    have HCL := hidd hcl
    rw [← hcn] at q1 hcc
    clear hcn p0 p1 hcl hall hP
    obtain ⟨K0, hK0⟩ : ∃ k, k = ((PP.take j).flatMap Pro.code).length := ⟨_, rfl⟩
    have HK0 := hidd hK0
    rw [← hK0] at HR
    clear hK0
    have hba := (Below.refl wr.heap.size wr).alloc (Nat.le_refl _) (.cells #[.int .i64 P.args, .slice ca cn cc] 46)
    have HX := hidd (World.alloc_heap_new wr (.cells #[.int .i64 P.args, .slice ca cn cc] 46))
    have HR2 : Hid (Inv (K0 + 0) (wr.alloc (.cells #[.int .i64 P.args, .slice ca cn cc] 46)) ∧ Ty w (wr.alloc (.cells #[.int .i64 P.args, .slice ca cn cc] 46)) ∧ Below B w (wr.alloc (.cells #[.int .i64 P.args, .slice ca cn cc] 46)) ∧ rs = fstE er (K0 + 0) (N - (K0 + 0))) := ⟨HA.out _ _ _ HR.out.1, HR.out.2.1.trans (Ty.below hba), HR.out.2.2.1.trans (hba.mono (Nat.le_trans hBw HR.out.2.2.1.size)), HR.out.2.2.2⟩
    clear HR hba
    go_upto_region 4 with fail
    clear q0 q1
    generalize wr.alloc (.cells #[.int .i64 P.args, .slice ca cn cc] 46) = V at HX HR2 ⊢
    obtain ⟨xb, hxb⟩ : ∃ u, u = wr.heap.size := ⟨_, rfl⟩
    rw [← hxb] at HX ⊢
    clear hxb
    have x1 : V.cell? ⟨xb, 1, none⟩ = some (.slice ca cn cc) := (cellO HX.out).trans rfl
    go_wp2_with fail
    clear x1
    go_loopw [21] (fun i wz => ∃ k : Nat, k ≤ cn ∧ i = .int .i64 k ∧ Hid (wz.heap[xb]? = some (.cells #[.int .i64 P.args, .slice ca cn cc] 46 (0, 0)) ∧ Inv (K0 + k) wz ∧ Ty w wz ∧ Below B w wz ∧ rs = fstE er (K0 + k) (N - (K0 + k)))) (fun i _ => cn - (intOf i).toNat)
    case atStart => exact ⟨0, Nat.zero_le _, rfl, HX.out, HR2.out⟩
    case round =>
    obtain ⟨k, hk, rfl, HK⟩ := hrel
    by_cases hkl : k < cn
    · have hkc : k < P.code.length := by rw [← HCN.out]; exact hkl
      have hx : P.code[k]? = some P.code[k] := List.getElem?_eq_getElem hkc
      obtain ⟨x, hxe⟩ : ∃ x, P.code[k] = x := ⟨_, rfl⟩
      rw [hxe] at hx
      clear hxe
      obtain ⟨cb, co, rfl, hcb, hins⟩ : ∃ b o, ca = some ⟨b, o, none⟩ ∧ b < B ∧ ∀ i x, P.code[i]? = some x → ∃ qa qc, IL B w b (o + i * 11) x qa qc := by
        rcases HCL.out with h | h
        · rw [h] at hkc; simp at hkc
        · exact h
      obtain ⟨qa, qc, hil⟩ := hins k x hx
      have hKlt : K0 + k < N := by rw [HK0.out, HNN.out]; exact flat_lt HP.out hkc
      have STP := hidd (HST.out (K0 + k) x cb (co + k * 11) qa qc wr (by rw [HK0.out]; exact flat_idx HP.out hx) (hil.below hcb HK.out.2.2.2.1) hcb HK.out.2.1)
      have HNX := hidd (fstE_next (er := er) hKlt)
      have x2 := (cellO (q := 1) HK.out.1).trans (show (#[.int .i64 P.args, .slice (some ⟨cb, co, none⟩) cn cc] : Array Value)[1]? = some (.slice (some ⟨cb, co, none⟩) cn cc) from rfl)
      clear hil hins hx hKlt
      generalize her : er (K0 + k) = y at STP HNX
      clear her
      go_wp2_with fail
      refine STP.out.mono ?_
      rintro e w1 ⟨rfl, s1, s2, s3⟩
      have HX1 := hidd (s1 xb _ 46 HK.out.1 (by decide) (by decide))
      have HF1 := hidd (And.intro (HK.out.2.2.1.trans s1) s2)
      have HS3 := hidd s3
      clear s1 s2 s3 STP x2
      by_cases y0 : y = 0
      · subst y0
        go_wp2_with fail
        go_roundw
        case rel => exact ⟨k + 1, by omega, by go_num, HX1.out, by have := HS3.out (by trivial); rwa [Nat.add_assoc] at this, HF1.out.1, HF1.out.2, by rw [HK.out.2.2.2.2, HNX.out]; simp [Nat.add_assoc]⟩
        case measure => simp [intOf]; omega
      · have y0' : (y != 0) = true := by simpa using y0
        have hre : rs = y := by rw [HK.out.2.2.2.2, HNX.out, if_neg y0]
        subst hre
        have HY0 := hidd y0
        clear HRS HNX y0
        go_wp2_with fail
        go_ret
        exact ⟨rfl, HF1.out.1, HF1.out.2, by first | exact fun h => absurd h HY0.out | trivial⟩
    · obtain rfl : k = cn := by omega
      have hKE : K0 + k = ((PP.take (j + 1)).flatMap Pro.code).length := by rw [flat_next HP.out, HK0.out, HCN.out]
      have HE := hidd HK.out.2
      rw [hKE] at HE
      clear HK hKE
      go_wp2_with fail
      go_roundw
      case rel => exact ⟨j + 1, by omega, by go_num, HE.out⟩
      case measure => simp [intOf]; omega
  · obtain rfl : j = n := by omega
    have hKE : ((PP.take j).flatMap Pro.code).length = N := by rw [List.take_of_length_le (by rw [HN.out]; exact Nat.le_refl _), HNN.out]
    rw [hKE] at HR
    have hre := HR.out.2.2.2
    rw [Nat.sub_self, fstE] at hre
    subst hre
    clear HRS
    go_wp2_with fail
    go_ret
    exact ⟨rfl, HR.out.2.1, HR.out.2.2.1, by first | exact fun _ => HR.out.1 | exact HR.out.1⟩
end
section
set_option linter.unusedVariables false
set_option linter.unusedSimpArgs false
open Go.RowKit

theorem one_at {C : Nat} {u : World} {z0 : Value} {t : TypeId} (h : u.heap[C]? = some (.cells #[z0] t (0, 0))) (x : Value) : (u.setCell ⟨C, 0, none⟩ x).heap[C]? = some (.cells #[x] t (0, 0)) := by
  have h1 := heap_setCell_same u C 0 _ t x h
  rw [h1]; rfl
set_option maxRecDepth 100000 in
set_option maxHeartbeats 3200000 in
theorem def24_any (B t m : Nat) (gs : List Gl) (bv : Value) (us : List Un) (a : Option Addr) (cap k : Nat) (u : Un) (b1 b2 : Nat) (w : World) (hT : TB B t m gs bv w) (hl : UL B w a us) (hk : us[k]? = some u) (hn : us.length ≤ 40) (hc : us.length ≤ cap) (htab : TabS w)
    (h1 : w.heap[b1]? = some (.cells #[.slice a us.length cap] 22 (0, 0))) (h2 : w.heap[b2]? = some (.cells #[.pointer (some ⟨t, 0, none⟩)] 67 (0, 0))) (hle : gs.length ≤ 150000000) (hum : u.2.length ≤ 9223372036854775807) :
    Calls Tryd.prog 24 #[.int .i64 k, .pointer (some ⟨b1, 0, none⟩), .pointer (some ⟨b2, 0, none⟩)] w fun e w' => e = .returned (.int .i64 (defU us k u)) ∧ Ty w w' ∧ Below B w w' ∧ (defU us k u = 0 → ∃ bv', TB B t m (defGs gs (u.2.flatMap Pro.code)) bv' w') := by
  obtain ⟨y, hy⟩ : ∃ y, y = defU us k u := ⟨_, rfl⟩
  rw [← hy]
  have HY := hidd hy
  clear hy
  obtain ⟨hkl, _⟩ := List.getElem?_eq_some_iff.1 hk
  obtain ⟨ab, ao, rfl, hab, hall⟩ := hl.at hk
  obtain ⟨pa, pc, p0, p1, hpc, hsz, hpl⟩ := hall k _ hk
  have hBw : B ≤ w.heap.size := Nat.le_trans hT.bt (Nat.le_of_lt (Array.getElem?_eq_some_iff.1 hT.tb).1)
  have HKU := hidd hk
  have HL := hidd hl
  have HPL := hidd hpl
  have HSZ := hidd hsz
  have HT := hidd hT
  have H1 := hidd h1
  have H2 := hidd h2
  have HLE := hidd hle
  have HTAB := hidd htab
  have HUM := hidd hum
  have HPC := hidd hpc
  have hbb := (Below.refl w.heap.size w).alloc (Nat.le_refl _) (.cells #[.pointer (some ⟨ab, ao + k * 2, none⟩)] 69)
  have HNB := hidd (World.alloc_heap_new w (.cells #[.pointer (some ⟨ab, ao + k * 2, none⟩)] 69))
  have HBB := hidd hbb
  have r1 : w.cell? ⟨b1, 0, none⟩ = some (.slice (some ⟨ab, ao, none⟩) us.length cap) := (cellO h1).trans rfl
  obtain ⟨n, hn0⟩ : ∃ n, n = us.length := ⟨_, rfl⟩
  have HN := hidd hn0
  rw [← hn0] at r1 hkl hn hc
  have z0 : (w.alloc (.cells #[.pointer none] 69)).cell? ⟨w.heap.size, 0, none⟩ = some (.pointer none) := (cellO (World.alloc_heap_new w (.cells #[.pointer none] 69))).trans rfl
  have z1 := looseO (q := 0) (World.alloc_heap_new w (.cells #[.pointer none] 69))
  clear hk hl hall hpl hT h1 h2 hle htab hum hpc hbb hn0 hsz
  go_enter Tryd.func24, Tryd.ntmps24
  go_upto_region 2 with fail
  clear z0 z1 r1
  have habw : ab < w.heap.size := Nat.lt_of_lt_of_le hab hBw
  generalize (w.alloc (.cells #[.pointer (some ⟨ab, ao + k * 2, none⟩)] 69)) = V at HNB HBB ⊢
  obtain ⟨nb, hnb⟩ : ∃ u, u = w.heap.size := ⟨_, rfl⟩
  rw [← hnb] at HNB ⊢
  have v0 : V.cell? ⟨nb, 0, none⟩ = some (.pointer (some ⟨ab, ao + k * 2, none⟩)) := (cellO HNB.out).trans rfl
  have q0 := (HBB.out.cell (p := ⟨ab, ao + k * 2, none⟩) habw).trans p0
  have q1 := (HBB.out.cell (p := ⟨ab, ao + k * 2 + 1, none⟩) habw).trans p1
  have hBV : B ≤ V.heap.size := Nat.le_trans hBw HBB.out.size
  have hbB := HBB.out.mono hBw
  have HNW : Hid (nb = w.heap.size) := hidd hnb
  have WU := hidd (WrongU_any u.1 u.2 pa pc V HSZ.out ((HPL.out.below hbB).mono hBV) HPC.out HUM.out (HTAB.out.below HBB.out))
  obtain ⟨pn, hpn⟩ : ∃ n, n = u.2.length := ⟨_, rfl⟩
  have HPN := hidd hpn
  rw [← hpn] at q1 WU
  have HB0 : Hid (Ty w V ∧ Below B w V) := ⟨Ty.below HBB.out, hbB⟩
  have HTV := hidd (HT.out.below HBB.out)
  have H1V := hidd (HB0.out.1 b1 _ 22 H1.out (by decide) (by decide))
  have H2V := hidd (HB0.out.1 b2 _ 67 H2.out (by decide) (by decide))
  have HLV := hidd (HL.out.below hbB)
  have HPLV := hidd (HPL.out.below hbB)
  clear p0 p1 hpn hnb hbB HT H1 H2 HBB HPL HL
  obtain ⟨y1, hy1⟩ : ∃ y, y = wrongU u.1 u.2 := ⟨_, rfl⟩
  rw [← hy1] at WU
  have HY1 := hidd hy1
  clear hy1
  go_wp2_with fail
  refine WU.out.mono ?_
  rintro e W1 ⟨rfl, s1⟩
  have bB1 := s1.mono hBV
  have HB1 : Hid (Ty w W1 ∧ Below B w W1) := ⟨HB0.out.1.trans (Ty.below s1), HB0.out.2.trans bB1⟩
  have HNB1 := hidd ((s1.block _ (Array.getElem?_eq_some_iff.1 HNB.out).1).trans HNB.out)
  have HT1 := hidd (HTV.out.below s1)
  have H11 := hidd ((s1.block _ (Array.getElem?_eq_some_iff.1 H1V.out).1).trans H1V.out)
  have H21 := hidd ((s1.block _ (Array.getElem?_eq_some_iff.1 H2V.out).1).trans H2V.out)
  have HL1 := hidd (HLV.out.below bB1)
  have HPL1 := hidd (HPLV.out.below bB1)
  have c0 := (s1.cell (p := ⟨ab, ao + k * 2, none⟩) (Nat.lt_of_lt_of_le hab hBV)).trans q0
  have c1 := (s1.cell (p := ⟨ab, ao + k * 2 + 1, none⟩) (Nat.lt_of_lt_of_le hab hBV)).trans q1
  have hB1 : B ≤ W1.heap.size := Nat.le_trans hBV s1.size
  clear HNB HTV H1V H2V HLV HPLV q0 q1 v0 s1 bB1 hBV HB0 WU
  have HYY := HY.out
  unfold defU at HYY
  by_cases y0 : y1 = 0
  · rw [← HY1.out, if_pos y0] at HYY
    subst y0
    have RT := hidd (right_of HY1.out.symm)
    have d1 : W1.cell? ⟨b1, 0, none⟩ = some (.slice (some ⟨ab, ao, none⟩) n cap) := by rw [HN.out]; exact (cellO H11.out).trans rfl
    have d0 : W1.cell? ⟨nb, 0, none⟩ = some (.pointer (some ⟨ab, ao + k * 2, none⟩)) := (cellO HNB1.out).trans rfl
    have CT := hidd (Contains26_any us u.1 (some ⟨ab, ao, none⟩) k cap ab (ao + k * 2) nb B W1 hB1 (by rw [← HN.out]; omega) (by omega) (by omega) HL1.out (Array.getElem?_eq_some_iff.1 HNB1.out).1 (Nat.lt_of_lt_of_le hab hB1) d0 c0)
    have HYH := hidd HYY
    clear HYY d0
    go_wp2_with fail
    refine CT.out.mono ?_
    rintro e W2 ⟨⟨y2, rfl, hy2⟩, s2⟩
    have HY2 := hidd hy2
    have bB2 := s2.mono hB1
    have HB2 : Hid (Ty w W2 ∧ Below B w W2) := ⟨HB1.out.1.trans (Ty.below s2), HB1.out.2.trans bB2⟩
    have HNB2 := hidd ((s2.block _ (Array.getElem?_eq_some_iff.1 HNB1.out).1).trans HNB1.out)
    have HT2 := hidd (HT1.out.below s2)
    have H22 := hidd ((s2.block _ (Array.getElem?_eq_some_iff.1 H21.out).1).trans H21.out)
    have HPL2 := hidd (HPL1.out.below bB2)
    have e0 := (s2.cell (p := ⟨ab, ao + k * 2, none⟩) (Nat.lt_of_lt_of_le hab hB1)).trans c0
    have e1 := (s2.cell (p := ⟨ab, ao + k * 2 + 1, none⟩) (Nat.lt_of_lt_of_le hab hB1)).trans c1
    have hB2 : B ≤ W2.heap.size := Nat.le_trans hB1 s2.size
    clear HNB1 HT1 H11 H21 HL1 HPL1 c0 c1 s2 bB2 HB1 CT d1 hy2 hB1
    cases y2 with
    | true =>
      have hyy := HYH.out
      rw [if_pos (HY2.out.1 rfl)] at hyy
      subst hyy
      go_wp2_with fail
      go_ret
      exact ⟨rfl, HB2.out.1, HB2.out.2, by first | exact fun h => absurd h (by decide) | trivial⟩
    | false =>
      have hyy := HYH.out
      rw [if_neg (fun h => by have := HY2.out.2 h; cases this)] at hyy
      have hII : Calls Tryd.prog 28 #[.pointer (some ⟨ab, ao + k * 2, none⟩), .func (.func 29) #[] #[.pointer (some ⟨nb, 0, none⟩), .pointer (some ⟨b2, 0, none⟩)]] W2 fun e W' => e = .returned (.int .i64 y) ∧ Ty W2 W' ∧ Below B W2 W' ∧ (y = 0 → (∃ bv', TB B t m (defGs gs ((u.2.flatMap Pro.code).take (u.2.flatMap Pro.code).length)) bv' W') ∧ Ty W2 W' ∧ Below B W2 W') := by
        rw [hyy]
        refine insByIns_29 B _ _ u.2 pa pc ab (ao + k * 2) (insE u.1 (u.2.flatMap Pro.code)) (fun i W => (∃ bv', TB B t m (defGs gs ((u.2.flatMap Pro.code).take i)) bv' W) ∧ Ty W2 W ∧ Below B W2 W) W2 HPL2.out HPC.out RT.out.n500 RT.out.c6 hab hB2 (by rw [← HPN.out]; exact e1) ?_ (fun i W h => h.2.2) ⟨⟨_, by simpa [defGs] using HT2.out⟩, Ty.refl _, Below.refl _ _⟩ ?_
        · rintro i W o ⟨⟨bv', h1⟩, h2, h3⟩
          have hb := (Below.refl W.heap.size W).alloc (Nat.le_refl _) o
          exact ⟨⟨bv', h1.below hb⟩, h2.trans (Ty.below hb), h3.trans (hb.mono (Nat.le_trans hB2 h3.size))⟩
        · rintro i x b o qa qc W hx hil hb ⟨⟨bv', h1⟩, h2, h3⟩
          have hlen : (defGs gs ((u.2.flatMap Pro.code).take i)).length ≤ 200000000 := by
            have g1 := defGs_len ((u.2.flatMap Pro.code).take i) gs
            have g2 := code_len RT.out.c6
            have g3 := RT.out.n500
            have g4 := HLE.out
            have g5 : ((u.2.flatMap Pro.code).take i).length ≤ (u.2.flatMap Pro.code).length := by rw [List.length_take]; omega
            omega
          have hmem : ∃ P ∈ u.2, x ∈ P.code := List.mem_flatMap.1 (List.mem_of_getElem? hx)
          obtain ⟨P, hP, hxP⟩ := hmem
          refine (def29_any B t m _ bv' x b o qa qc u.1 ab (ao + k * 2) nb b2 W hil hb h1 (h2 nb _ 69 HNB2.out (by decide) (by decide)) (h2 b2 _ 67 H22.out (by decide) (by decide)) hab ((h3.cell (p := ⟨ab, ao + k * 2, none⟩) hab).trans e0) hlen (fun ho => RT.out.glob hP hxP (Or.inr (Or.inr ho)))).mono ?_
          rintro e W' ⟨rfl, g1, g2, g3⟩
          rw [insE_at hx, defGs_next hx]
          exact ⟨rfl, g1, h3.trans g2, fun h => ⟨g3 h, h2.trans g1, h3.trans g2⟩⟩
      rw [List.take_length] at hII
      have II := hidd hII
      have f0 : W2.cell? ⟨nb, 0, none⟩ = some (.pointer (some ⟨ab, ao + k * 2, none⟩)) := (cellO HNB2.out).trans rfl
      clear hII hyy HYH HY2 e0 e1
      go_wp2_with fail
      refine II.out.mono ?_
      rintro e W3 ⟨rfl, g1, g2, g3⟩
      have HG := hidd (And.intro (HB2.out.1.trans g1) (And.intro (HB2.out.2.trans g2) g3))
      clear g1 g2 g3 II
      go_wp2_with fail
      go_ret
      exact ⟨rfl, HG.out.1, HG.out.2.1, fun h => (HG.out.2.2 h).1⟩
  · rw [← HY1.out, if_neg y0] at HYY
    subst HYY
    have HY0 := hidd y0
    have y0' : (y != 0) = true := by simpa using y0
    clear y0 HY1 HY
    go_wp2_with fail
    go_ret
    exact ⟨rfl, HB1.out.1, HB1.out.2, by first | exact fun h => absurd h HY0.out | trivial⟩
end
section
set_option linter.unusedVariables false
set_option linter.unusedSimpArgs false
open Go.RowKit

/-- All that the first units define. -/
def allI (us : List Un) : List In := us.flatMap fun u => u.2.flatMap Pro.code
def defAll (us : List Un) (j : Nat) : List Gl := defGs [] (allI (us.take j))
theorem allI_next {us : List Un} {j : Nat} {u : Un} (h : us[j]? = some u) : allI (us.take (j + 1)) = allI (us.take j) ++ u.2.flatMap Pro.code := by
  rw [List.take_add_one, h]
  simp [allI]
theorem defAll_next {us : List Un} {j : Nat} {u : Un} (h : us[j]? = some u) : defAll us (j + 1) = defGs (defAll us j) (u.2.flatMap Pro.code) := by
  unfold defAll
  rw [allI_next h]
  simp [defGs]
def unitE (us : List Un) (k : Nat) : Int := match us[k]? with | some u => defU us k u | none => 0
theorem unitE_at {us : List Un} {k : Nat} {u : Un} (h : us[k]? = some u) : unitE us k = defU us k u := by
  unfold unitE
  rw [h]
theorem defU_right {us : List Un} {k : Nat} {u : Un} (h : defU us k u = 0) : wrongU u.1 u.2 = 0 := by
  unfold defU at h
  by_cases h0 : wrongU u.1 u.2 = 0
  · exact h0
  · rw [if_neg h0] at h; exact h
theorem right_len {u : Un} (h : wrongU u.1 u.2 = 0) : (u.2.flatMap Pro.code).length ≤ 3000000 := by
  have h1 := right_of h
  have h2 := code_len h1.c6
  have h3 := h1.n500
  omega
/-- What is known when so many units are taken in. -/
structure DI (B t m b1 b2 : Nat) (us : List Un) (a : Option Addr) (cap : Nat) (w0 : World) (j : Nat) (W : World) : Prop where
  tb : ∃ bv, TB B t m (defAll us j) bv W
  len : (defAll us j).length ≤ j * 3000000
  c1 : W.heap[b1]? = some (.cells #[.slice a us.length cap] 22 (0, 0))
  c2 : W.heap[b2]? = some (.cells #[.pointer (some ⟨t, 0, none⟩)] 67 (0, 0))
  bl : Below B w0 W
theorem DI.alloc {B t m b1 b2 us a cap w0 j W} (h : DI B t m b1 b2 us a cap w0 j W) (o : Obj) : DI B t m b1 b2 us a cap w0 j (W.alloc o) := by
  have hb := (Below.refl W.heap.size W).alloc (Nat.le_refl _) o
  obtain ⟨bv, ht⟩ := h.tb
  have hB : B ≤ W.heap.size := Nat.le_trans ht.bt (Nat.le_of_lt (Array.getElem?_eq_some_iff.1 ht.tb).1)
  exact ⟨⟨bv, ht.below hb⟩, h.len, (hb.block _ (Array.getElem?_eq_some_iff.1 h.c1).1).trans h.c1, (hb.block _ (Array.getElem?_eq_some_iff.1 h.c2).1).trans h.c2, h.bl.trans (hb.mono hB)⟩
theorem DI.set {B t m b1 b2 us a cap w0 j W} (h : DI B t m b1 b2 us a cap w0 j W) {N q : Nat} {cs : Array Value} (v : Value) (hBN : B ≤ N) (hN : W.heap[N]? = some (.cells cs 30 (0, 0))) : DI B t m b1 b2 us a cap w0 j (W.setCell ⟨N, q, none⟩ v) := by
  obtain ⟨bv, ht⟩ := h.tb
  have n1 : b1 ≠ N := fun e => by have := h.c1; rw [e, hN] at this; simp at this
  have n2 : b2 ≠ N := fun e => by have := h.c2; rw [e, hN] at this; simp at this
  exact ⟨⟨bv, ht.setOther hN (by decide) (by decide) v⟩, h.len, (Below.heap_setCell _ _ _ _ n1).trans h.c1, (Below.heap_setCell _ _ _ _ n2).trans h.c2, h.bl.setCell (p := ⟨N, q, none⟩) hBN v⟩
theorem ret13 {ts : Array Value} {W : World} {N : Nat} {x0 x1 : Value} (h : W.heap[N]? = some (.cells #[x0, x1] 30 (0, 0))) (h4 : ts[4]? = some (.pointer (some ⟨N, 0, none⟩))) :
    (results Tryd.f13 ts).run Tryd.prog W = .ok (.agg #[x0, x1]) W := by
  have cc : ∀ q, W.cell? ⟨N, q, none⟩ = #[x0, x1][q]? := fun q => by simp [World.cell?, h]
  have q0 := cc 0
  have q1 := cc 1
  simp at q0 q1
  simp [results, Tryd.results13, go_sem, h4, q0, q1]
set_option maxRecDepth 100000 in
set_option maxHeartbeats 3200000 in
theorem define_any (B t m : Nat) (bv : Value) (us : List Un) (a : Option Addr) (cap : Nat) (w0 w : World) (hB : B = w0.heap.size) (h0 : Below B w0 w) (hT : TB B t m [] bv w) (hl : UL B w0 a us) (hn : us.length ≤ 40) (hc : us.length ≤ cap) (htab : TabS w0) (hum : ∀ u ∈ us, u.2.length ≤ 9223372036854775807) :
    Calls Tryd.prog 13 #[.pointer (some ⟨t, 0, none⟩), .slice a us.length cap] w fun e W' => e = .returned (fv (fstF (unitE us) 0 us.length)) ∧ Ty w W' ∧ Below B w0 W' ∧ ((fstF (unitE us) 0 us.length).1 = 0 → (∃ bv', TB B t m (defAll us us.length) bv' W') ∧ (defAll us us.length).length ≤ us.length * 3000000) := by
  have b1 := (Below.refl w.heap.size w).alloc (Nat.le_refl _) (.cells #[.pointer (some ⟨t, 0, none⟩)] 67)
  have b2 := b1.alloc (by simp) (.cells #[.slice a us.length cap] 22)
  have b3 := b2.alloc (by simp; omega) (.cells #[.int .i64 0, .int .i64 0] 30)
  have hBw : B ≤ w.heap.size := Nat.le_trans hT.bt (Nat.le_of_lt (Array.getElem?_eq_some_iff.1 hT.tb).1)
  have x1 := World.alloc_heap_new w (.cells #[.pointer (some ⟨t, 0, none⟩)] 67)
  have x2 := World.alloc_heap_new (w.alloc (.cells #[.pointer (some ⟨t, 0, none⟩)] 67)) (.cells #[.slice a us.length cap] 22)
  have x3 := World.alloc_heap_new ((w.alloc (.cells #[.pointer (some ⟨t, 0, none⟩)] 67)).alloc (.cells #[.slice a us.length cap] 22)) (.cells #[.int .i64 0, .int .i64 0] 30)
  have X1 : Hid ((((w.alloc (.cells #[.pointer (some ⟨t, 0, none⟩)] 67)).alloc (.cells #[.slice a us.length cap] 22)).alloc (.cells #[.int .i64 0, .int .i64 0] 30)).heap[w.heap.size]? = some (.cells #[.pointer (some ⟨t, 0, none⟩)] 67 (0, 0))) := by
    rw [Below.heap_alloc _ _ _ (by simp; omega), Below.heap_alloc _ _ _ (by simp)]
    exact hidd x1
  have X2 : Hid ((((w.alloc (.cells #[.pointer (some ⟨t, 0, none⟩)] 67)).alloc (.cells #[.slice a us.length cap] 22)).alloc (.cells #[.int .i64 0, .int .i64 0] 30)).heap[w.heap.size + 1]? = some (.cells #[.slice a us.length cap] 22 (0, 0))) := by
    rw [Below.heap_alloc _ _ _ (by simp)]
    simp at x2
    exact hidd (by simpa using x2)
  have X3 : Hid ((((w.alloc (.cells #[.pointer (some ⟨t, 0, none⟩)] 67)).alloc (.cells #[.slice a us.length cap] 22)).alloc (.cells #[.int .i64 0, .int .i64 0] 30)).heap[w.heap.size + 1 + 1]? = some (.cells #[.int .i64 0, .int .i64 0] 30 (0, 0))) := hidd (by simpa using x3)
  have HBB := hidd b3
  obtain ⟨rs, hrs⟩ : ∃ r, r = fstF (unitE us) 0 us.length := ⟨_, rfl⟩
  have HD : Hid (DI B t m (w.heap.size + 1) w.heap.size us a cap w0 0 (((w.alloc (.cells #[.pointer (some ⟨t, 0, none⟩)] 67)).alloc (.cells #[.slice a us.length cap] 22)).alloc (.cells #[.int .i64 0, .int .i64 0] 30))) := hidd ⟨⟨bv, by simpa [defAll, allI, defGs] using hT.below b3⟩, by simp [defAll, allI, defGs], X2.out, X1.out, h0.trans (b3.mono hBw)⟩
  have HL := hidd hl
  have HTAB := hidd htab
  have HUM := hidd hum
  rw [← hrs]
  have HRS := hidd hrs
  have HC := hidd hc
  clear b1 b2 b3 x1 x2 x3 hl htab hum hrs hc h0 hT
  go_enter Tryd.func13, Tryd.ntmps13
  go_upto_region 1 with fail
  generalize (((w.alloc (.cells #[.pointer (some ⟨t, 0, none⟩)] 67)).alloc (.cells #[.slice a us.length cap] 22)).alloc (.cells #[.int .i64 0, .int .i64 0] 30)) = V at X1 X2 X3 HBB HD ⊢
  have g1 : V.cell? ⟨w.heap.size + 1, 0, none⟩ = some (.slice a us.length cap) := (cellO X2.out).trans rfl
  have hBV : B ≤ V.heap.size := Nat.le_trans hBw HBB.out.size
  have hUU : Calls Tryd.prog 23 #[.slice a us.length cap, .func (.func 24) #[] #[.pointer (some ⟨w.heap.size + 1, 0, none⟩), .pointer (some ⟨w.heap.size, 0, none⟩)]] V fun e W' => e = .returned (fv rs) ∧ Ty V W' ∧ Below B w0 W' ∧ (rs.1 = 0 → DI B t m (w.heap.size + 1) w.heap.size us a cap w0 us.length W') := by
    rw [HRS.out]
    refine unitByUnit_24 B us.length cap a _ _ (unitE us) (fun j W => DI B t m (w.heap.size + 1) w.heap.size us a cap w0 j W) w0 V hn hBV (fun k W o h => h.alloc o) (fun k W h => h.bl) (fun k W N cs q v hBN hN h => h.set v hBN hN) HD.out ?_
    intro k W hk h
    obtain ⟨u, hu⟩ : ∃ u, us[k]? = some u := ⟨_, List.getElem?_eq_getElem hk⟩
    obtain ⟨bv', ht⟩ := h.tb
    have hlen := h.len
    refine (def24_any B t m (defAll us k) bv' us a cap k u (w.heap.size + 1) w.heap.size W ht (HL.out.below h.bl) hu hn HC.out (HTAB.out.below (by rw [← hB]; exact h.bl)) h.c1 h.c2 (by omega) (HUM.out u (List.mem_of_getElem? hu))).mono ?_
    rintro e W' ⟨rfl, g1, g2, g3⟩
    rw [unitE_at hu]
    refine ⟨rfl, g1, h.bl.trans g2, fun hz => ⟨?_, ?_, g1 _ _ 22 h.c1 (by decide) (by decide), g1 _ _ 67 h.c2 (by decide) (by decide), h.bl.trans g2⟩⟩
    · rw [defAll_next hu]; exact g3 hz
    · rw [defAll_next hu]
      have l1 := defGs_len (u.2.flatMap Pro.code) (defAll us k)
      have l2 := right_len (defU_right hz)
      omega
  have UU := hidd hUU
  clear hUU HRS HD
  obtain ⟨fb, hfb⟩ : ∃ u, u = w.heap.size + 1 + 1 := ⟨_, rfl⟩
  have HFB := hidd hfb
  rw [← hfb] at X3 ⊢
  clear hfb
  have HTV := hidd (Ty.below HBB.out)
  go_wp2_with fail
  refine UU.out.mono ?_
  rintro e W1 ⟨rfl, s1, s2, s3⟩
  unfold fv
  have HX := hidd (s1 _ _ 30 X3.out (by decide) (by decide))
  have hBF : B ≤ fb := by rw [HFB.out]; omega
  have d0 : W1.cell? ⟨fb, 0, none⟩ = some (.int .i64 0) := (cellO HX.out).trans rfl
  have d1 : W1.cell? ⟨fb, 1, none⟩ = some (.int .i64 0) := (cellO HX.out).trans rfl
  have z0 := looseO (q := 0) HX.out
  have z1 := looseO (q := 1) HX.out
  have HF1 := hidd (two_at0 HX.out (.int .i64 rs.1))
  have HFI := hidd (two_at1 (two_at0 HX.out (.int .i64 rs.1)) (.int .i64 rs.2))
  have HTY : Hid (Ty w ((W1.setCell ⟨fb, 0, none⟩ (.int .i64 rs.1)).setCell ⟨fb, 1, none⟩ (.int .i64 rs.2)) ∧ Below B w0 ((W1.setCell ⟨fb, 0, none⟩ (.int .i64 rs.1)).setCell ⟨fb, 1, none⟩ (.int .i64 rs.2)) ∧ (rs.1 = 0 → DI B t m (w.heap.size + 1) w.heap.size us a cap w0 us.length ((W1.setCell ⟨fb, 0, none⟩ (.int .i64 rs.1)).setCell ⟨fb, 1, none⟩ (.int .i64 rs.2)))) := ⟨((HTV.out.trans s1).setNew (by rw [HFB.out]; omega) _).setNew (by rw [HFB.out]; omega) _, (s2.setCell (p := ⟨fb, 0, none⟩) hBF _).setCell (p := ⟨fb, 1, none⟩) hBF _, fun h => ((s3 h).set _ hBF HX.out).set _ hBF HF1.out⟩
  clear s1 s2 s3 HX HF1 UU
  go_wp2_with fail
  exact bodyPost_ret (ret13 HFI.out rfl) rfl ⟨rfl, HTY.out.1, HTY.out.2.1, fun h => ⟨(HTY.out.2.2 h).tb, (HTY.out.2.2 h).len⟩⟩
end
end Go.Proofs.YtdnbingddbakaaaDoor
