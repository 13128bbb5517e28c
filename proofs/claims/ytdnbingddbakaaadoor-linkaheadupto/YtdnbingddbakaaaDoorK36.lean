/- Chapter 10: instruction by instruction, where globals are used. -/
import Derived.Test.YtdnbingddbakaaaDoorK30
namespace Go.Proofs.YtdnbingddbakaaaDoor
set_option linter.unusedVariables false
set_option linter.unusedSimpArgs false
open Go.RowKit
set_option maxRecDepth 100000 in
set_option maxHeartbeats 3200000 in
theorem insByIns_33 (B : Nat) (v1 v2 : Value) (PP : List Pro) (pa : Option Addr) (pc ub uo : Nat) (er : Nat → Int) (Inv : Nat → World → Prop) (w : World) (hl : PL B w pa PP) (hpc : PP.length ≤ pc) (hn5 : PP.length ≤ 500) (hc6 : ∀ P, P ∈ PP → P.code.length ≤ 6000) (hub : ub < B) (hBw : B ≤ w.heap.size)
    (hu : w.cell? ⟨ub, uo + 1, none⟩ = some (.slice pa PP.length pc)) (hA : ∀ k W o, Inv k W → Inv k (W.alloc o)) (hI : ∀ k W, Inv k W → Below B w W) (h0 : Inv 0 w)
    (step : ∀ k x b o qa qc W, (PP.flatMap Pro.code)[k]? = some x → IL B W b o x qa qc → b < B → Inv k W → Calls Tryd.prog 33 #[.pointer (some ⟨b, o, none⟩), v1, v2] W fun e W' => e = .returned (.int .i64 (er k)) ∧ Ty W W' ∧ Below B w W' ∧ (er k = 0 → Inv (k + 1) W')) :
    Calls Tryd.prog 28 #[.pointer (some ⟨ub, uo, none⟩), .func (.func 33) #[] #[v1, v2]] w fun e W' => e = .returned (.int .i64 (fstE er 0 (PP.flatMap Pro.code).length)) ∧ Ty w W' ∧ Below B w W' ∧ (fstE er 0 (PP.flatMap Pro.code).length = 0 → Inv (PP.flatMap Pro.code).length W') := by
  obtain ⟨rs, hrs⟩ : ∃ r, r = fstE er 0 (PP.flatMap Pro.code).length := ⟨_, rfl⟩
  rw [← hrs]
  obtain ⟨N, hN⟩ : ∃ n, n = (PP.flatMap Pro.code).length := ⟨_, rfl⟩
  rw [← hN] at hrs ⊢
  have HRS := hidd hrs
  have HNN := hidd hN
  have HPL := hidd hl
  have HC6 := hidd hc6
  have HST := hidd step
  have HA := hidd hA
  have HI := hidd hI
  have H0 := hidd h0
  obtain ⟨n, hn⟩ : ∃ n, n = PP.length := ⟨_, rfl⟩
  have HN := hidd hn
  rw [← hn] at hu hpc hn5
  clear hrs hN hl hc6 step hA hI h0 hn
  go_enter Tryd.func28, Tryd.ntmps28
  go_wp2_with fail
  clear hu
  go_loopw [14] (fun i wr => ∃ j : Nat, j ≤ n ∧ i = .int .i64 j ∧ Hid (Inv ((PP.take j).flatMap Pro.code).length wr ∧ Ty w wr ∧ Below B w wr ∧ rs = fstE er ((PP.take j).flatMap Pro.code).length (N - ((PP.take j).flatMap Pro.code).length))) (fun i _ => n - (intOf i).toNat)
  case atStart => exact ⟨0, Nat.zero_le _, rfl, H0.out, Ty.refl _, Below.refl _ _, HRS.out⟩
  case round =>
  obtain ⟨j, hj, rfl, HR⟩ := hrel
  by_cases hlt : j < n
  · have hjP : j < PP.length := by rw [← HN.out]; exact hlt
    have hP : PP[j]? = some PP[j] := List.getElem?_eq_getElem hjP
    obtain ⟨P, hPe⟩ : ∃ P, PP[j] = P := ⟨_, rfl⟩
    rw [hPe] at hP
    clear hPe
    have HP := hidd hP
    obtain ⟨pb, po, rfl, hpb, hall⟩ := HPL.out.at hP
    obtain ⟨ca, cc, p0, p1, hcc, hcl⟩ := hall j _ hP
    have q0 := (HR.out.2.2.1.cell (p := ⟨pb, po + j * 2, none⟩) hpb).trans p0
    have q1 := (HR.out.2.2.1.cell (p := ⟨pb, po + j * 2 + 1, none⟩) hpb).trans p1
    obtain ⟨cn, hcn⟩ : ∃ n, n = P.code.length := ⟨_, rfl⟩
    have HCN := hidd hcn
    have hc6 : cn ≤ 6000 := by rw [hcn]; exact HC6.out P (List.mem_of_getElem? hP)
    have HCL := hidd hcl
    rw [← hcn] at q1 hcc
    clear hcn p0 p1 hcl hall hP
    obtain ⟨K0, hK0⟩ : ∃ k, k = ((PP.take j).flatMap Pro.code).length := ⟨_, rfl⟩
    have HK0 := hidd hK0
    rw [← hK0] at HR
    clear hK0
    have hba := (Below.refl wr.heap.size wr).alloc (Nat.le_refl _) (.cells #[.int .i64 P.args, .slice ca cn cc] 46)
    have HX := hidd (World.alloc_heap_new wr (.cells #[.int .i64 P.args, .slice ca cn cc] 46))
    have HR2 : Hid (Inv (K0 + 0) (wr.alloc (.cells #[.int .i64 P.args, .slice ca cn cc] 46)) ∧ Ty w (wr.alloc (.cells #[.int .i64 P.args, .slice ca cn cc] 46)) ∧ Below B w (wr.alloc (.cells #[.int .i64 P.args, .slice ca cn cc] 46)) ∧ rs = fstE er (K0 + 0) (N - (K0 + 0))) := ⟨HA.out _ _ _ HR.out.1, HR.out.2.1.trans (Ty.below hba), HR.out.2.2.1.trans (hba.mono (Nat.le_trans hBw HR.out.2.2.1.size)), HR.out.2.2.2⟩
    clear HR hba
    go_upto_region 4 with fail
    clear q0 q1
    generalize wr.alloc (.cells #[.int .i64 P.args, .slice ca cn cc] 46) = V at HX HR2 ⊢
    obtain ⟨xb, hxb⟩ : ∃ u, u = wr.heap.size := ⟨_, rfl⟩
    rw [← hxb] at HX ⊢
    clear hxb
    have x1 : V.cell? ⟨xb, 1, none⟩ = some (.slice ca cn cc) := (cellO HX.out).trans rfl
    go_wp2_with fail
    clear x1
    go_loopw [21] (fun i wz => ∃ k : Nat, k ≤ cn ∧ i = .int .i64 k ∧ Hid (wz.heap[xb]? = some (.cells #[.int .i64 P.args, .slice ca cn cc] 46 (0, 0)) ∧ Inv (K0 + k) wz ∧ Ty w wz ∧ Below B w wz ∧ rs = fstE er (K0 + k) (N - (K0 + k)))) (fun i _ => cn - (intOf i).toNat)
    case atStart => exact ⟨0, Nat.zero_le _, rfl, HX.out, HR2.out⟩
    case round =>
    obtain ⟨k, hk, rfl, HK⟩ := hrel
    by_cases hkl : k < cn
    · have hkc : k < P.code.length := by rw [← HCN.out]; exact hkl
      have hx : P.code[k]? = some P.code[k] := List.getElem?_eq_getElem hkc
      obtain ⟨x, hxe⟩ : ∃ x, P.code[k] = x := ⟨_, rfl⟩
      rw [hxe] at hx
      clear hxe
      obtain ⟨cb, co, rfl, hcb, hins⟩ : ∃ b o, ca = some ⟨b, o, none⟩ ∧ b < B ∧ ∀ i x, P.code[i]? = some x → ∃ qa qc, IL B w b (o + i * 11) x qa qc := by
        rcases HCL.out with h | h
        · rw [h] at hkc; simp at hkc
        · exact h
      obtain ⟨qa, qc, hil⟩ := hins k x hx
      have hKlt : K0 + k < N := by rw [HK0.out, HNN.out]; exact flat_lt HP.out hkc
      have STP := hidd (HST.out (K0 + k) x cb (co + k * 11) qa qc wr (by rw [HK0.out]; exact flat_idx HP.out hx) (hil.below hcb HK.out.2.2.2.1) hcb HK.out.2.1)
      have HNX := hidd (fstE_next (er := er) hKlt)
      have x2 := (cellO (q := 1) HK.out.1).trans (show (#[.int .i64 P.args, .slice (some ⟨cb, co, none⟩) cn cc] : Array Value)[1]? = some (.slice (some ⟨cb, co, none⟩) cn cc) from rfl)
      clear hil hins hx hKlt
      generalize her : er (K0 + k) = y at STP HNX
      clear her
      go_wp2_with fail
      refine STP.out.mono ?_
      rintro e w1 ⟨rfl, s1, s2, s3⟩
      have HX1 := hidd (s1 xb _ 46 HK.out.1 (by decide) (by decide))
      have HF1 := hidd (And.intro (HK.out.2.2.1.trans s1) s2)
      have HS3 := hidd s3
      clear s1 s2 s3 STP x2
      by_cases y0 : y = 0
      · subst y0
        go_wp2_with fail
        go_roundw
        case rel => exact ⟨k + 1, by omega, by go_num, HX1.out, by have := HS3.out (by trivial); rwa [Nat.add_assoc] at this, HF1.out.1, HF1.out.2, by rw [HK.out.2.2.2.2, HNX.out]; simp [Nat.add_assoc]⟩
        case measure => simp [intOf]; omega
      · have y0' : (y != 0) = true := by simpa using y0
        have hre : rs = y := by rw [HK.out.2.2.2.2, HNX.out, if_neg y0]
        subst hre
        have HY0 := hidd y0
        clear HRS HNX y0
        go_wp2_with fail
        go_ret
        exact ⟨rfl, HF1.out.1, HF1.out.2, by first | exact fun h => absurd h HY0.out | trivial⟩
    · obtain rfl : k = cn := by omega
      have hKE : K0 + k = ((PP.take (j + 1)).flatMap Pro.code).length := by rw [flat_next HP.out, HK0.out, HCN.out]
      have HE := hidd HK.out.2
      rw [hKE] at HE
      clear HK hKE
      go_wp2_with fail
      go_roundw
      case rel => exact ⟨j + 1, by omega, by go_num, HE.out⟩
      case measure => simp [intOf]; omega
  · obtain rfl : j = n := by omega
    have hKE : ((PP.take j).flatMap Pro.code).length = N := by rw [List.take_of_length_le (by rw [HN.out]; exact Nat.le_refl _), HNN.out]
    rw [hKE] at HR
    have hre := HR.out.2.2.2
    rw [Nat.sub_self, fstE] at hre
    subst hre
    clear HRS
    go_wp2_with fail
    go_ret
    exact ⟨rfl, HR.out.2.1, HR.out.2.2.1, by first | exact fun _ => HR.out.1 | exact HR.out.1⟩
end Go.Proofs.YtdnbingddbakaaaDoor
