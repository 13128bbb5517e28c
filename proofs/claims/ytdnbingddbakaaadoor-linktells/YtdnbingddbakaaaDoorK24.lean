/- Chapter 10: instruction by instruction; unit by unit. Chapter 10: unit by unit, where globals are used. Chapter 10: unit by unit, where globals are defined. Chapter 10: instruction by instruction, where globals are used. -/
import Derived.Test.YtdnbingddbakaaaDoorK23
namespace Go.Proofs.YtdnbingddbakaaaDoor
section
set_option linter.unusedVariables false
set_option linter.unusedSimpArgs false
open Go.RowKit

/-- The first that is not zero, of so many. -/
def fstE (er : Nat → Int) : Nat → Nat → Int
  | _, 0 => 0
  | k, n + 1 => if er k = 0 then fstE er (k + 1) n else er k
theorem fstE_next {er : Nat → Int} {k N : Nat} (h : k < N) : fstE er k (N - k) = if er k = 0 then fstE er (k + 1) (N - (k + 1)) else er k := by
  rw [show N - k = (N - (k + 1)) + 1 by omega, fstE]
theorem flat_idx {PP : List Pro} {j i : Nat} {P : Pro} {x : In} (hP : PP[j]? = some P) (hx : P.code[i]? = some x) : (PP.flatMap Pro.code)[((PP.take j).flatMap Pro.code).length + i]? = some x := by
  obtain ⟨hj, e⟩ := List.getElem?_eq_some_iff.1 hP
  have h1 : PP = PP.take j ++ P :: PP.drop (j + 1) := by
    have h2 := List.take_append_drop j PP
    rw [List.drop_eq_getElem_cons hj, e] at h2
    exact h2.symm
  have h3 : PP.flatMap Pro.code = (PP.take j).flatMap Pro.code ++ (P.code ++ (PP.drop (j + 1)).flatMap Pro.code) := by
    conv => lhs; rw [h1]
    rw [List.flatMap_append, List.flatMap_cons]
  rw [h3, List.getElem?_append_right (by omega), Nat.add_sub_cancel_left, List.getElem?_append_left (List.getElem?_eq_some_iff.1 hx).1]
  exact hx
theorem flat_next {PP : List Pro} {j : Nat} {P : Pro} (hP : PP[j]? = some P) : ((PP.take (j + 1)).flatMap Pro.code).length = ((PP.take j).flatMap Pro.code).length + P.code.length := by
  obtain ⟨hj, e⟩ := List.getElem?_eq_some_iff.1 hP
  rw [List.take_succ_eq_append_getElem hj, List.flatMap_append, List.length_append, e]
  simp
theorem flat_lt {PP : List Pro} {j i : Nat} {P : Pro} (hP : PP[j]? = some P) (hi : i < P.code.length) : ((PP.take j).flatMap Pro.code).length + i < (PP.flatMap Pro.code).length := by
  have := flat_idx hP (List.getElem?_eq_getElem hi)
  exact (List.getElem?_eq_some_iff.1 this).1
theorem ret23 {ts : Array Value} {W : World} {N : Nat} {x0 x1 : Value} (h : W.heap[N]? = some (.cells #[x0, x1] 30 (0, 0))) (h4 : ts[4]? = some (.pointer (some ⟨N, 0, none⟩))) :
    (results Tryd.f23 ts).run Tryd.prog W = .ok (.agg #[x0, x1]) W := by
  have cc : ∀ q, W.cell? ⟨N, q, none⟩ = #[x0, x1][q]? := fun q => by simp [World.cell?, h]
  have q0 := cc 0
  have q1 := cc 1
  simp at q0 q1
  simp [results, Tryd.results23, go_sem, h4, q0, q1]
/-- The first that is wrong, and where. -/
def fstF (er : Nat → Int) : Nat → Nat → Int × Int
  | _, 0 => (0, 0)
  | k, n + 1 => if er k = 0 then fstF er (k + 1) n else (er k, (k : Int))
theorem fstF_next {er : Nat → Int} {k N : Nat} (h : k < N) : fstF er k (N - k) = if er k = 0 then fstF er (k + 1) (N - (k + 1)) else (er k, (k : Int)) := by
  rw [show N - k = (N - (k + 1)) + 1 by omega, fstF]
theorem Ty.setNew {w w1 : World} (h : Ty w w1) {N q : Nat} (hN : w.heap.size ≤ N) (v : Value) : Ty w (w1.setCell ⟨N, q, none⟩ v) := fun k cs t hk h1 h2 =>
  (((Below.refl N w1).setCell (p := ⟨N, q, none⟩) (Nat.le_refl _) v).block k (Nat.lt_of_lt_of_le (Array.getElem?_eq_some_iff.1 hk).1 hN)).trans (h k cs t hk h1 h2)
end
section
set_option linter.unusedVariables false
set_option linter.unusedSimpArgs false
open Go.RowKit
set_option maxRecDepth 100000 in
set_option maxHeartbeats 3200000 in
theorem unitByUnit_32 (B n cap : Nat) (a : Option Addr) (v1 v2 : Value) (er : Nat → Int) (Inv : Nat → World → Prop) (w0 w : World) (hn : n ≤ 40) (hBw : B ≤ w.heap.size) (hA : ∀ k W o, Inv k W → Inv k (W.alloc o)) (hI : ∀ k W, Inv k W → Below B w0 W)
    (hS : ∀ k W N cs q v, B ≤ N → W.heap[N]? = some (.cells cs 30 (0, 0)) → Inv k W → Inv k (W.setCell ⟨N, q, none⟩ v)) (h0 : Inv 0 w)
    (step : ∀ k W, k < n → Inv k W → Calls Tryd.prog 32 #[.int .i64 k, v1, v2] W fun e W' => e = .returned (.int .i64 (er k)) ∧ Ty W W' ∧ Below B w0 W' ∧ (er k = 0 → Inv (k + 1) W')) :
    Calls Tryd.prog 23 #[.slice a n cap, .func (.func 32) #[] #[v1, v2]] w fun e W' => e = .returned (fv (fstF er 0 n)) ∧ Ty w W' ∧ Below B w0 W' ∧ ((fstF er 0 n).1 = 0 → Inv n W') := by
  obtain ⟨rs, hrs⟩ : ∃ r, r = fstF er 0 n := ⟨_, rfl⟩
  rw [← hrs]
  have HRS := hidd hrs
  have hba := (Below.refl w.heap.size w).alloc (Nat.le_refl _) (.cells #[.int .i64 0, .int .i64 0] 30)
  have HZ := hidd (World.alloc_heap_new w (.cells #[.int .i64 0, .int .i64 0] 30))
  have H0 := hidd (hA _ _ (.cells #[.int .i64 0, .int .i64 0] 30) h0)
  have HT0 := hidd (Ty.below hba)
  have HST := hidd step
  have HI := hidd hI
  have HSS := hidd hS
  have hNB : B ≤ w.heap.size := hBw
  clear hrs hba hA hI hS h0 step
  go_enter Tryd.func23, Tryd.ntmps23
  go_upto_region 1 with fail
  generalize w.alloc (.cells #[.int .i64 0, .int .i64 0] 30) = V at HZ H0 HT0 ⊢
  obtain ⟨nb, hnb⟩ : ∃ u, u = w.heap.size := ⟨_, rfl⟩
  rw [← hnb] at HZ hNB ⊢
  have HNB : Hid (w.heap.size ≤ nb) := hidd (Nat.le_of_eq hnb.symm)
  clear hnb
  go_wp2_with fail
  go_loopw [9] (fun i wr => ∃ j : Nat, j ≤ n ∧ i = .int .i64 j ∧ Hid (wr.heap[nb]? = some (.cells #[.int .i64 0, .int .i64 0] 30 (0, 0)) ∧ Inv j wr ∧ Ty w wr ∧ rs = fstF er j (n - j))) (fun i _ => n - (intOf i).toNat)
  case atStart => exact ⟨0, Nat.zero_le _, rfl, HZ.out, H0.out, HT0.out, HRS.out⟩
  case round =>
  obtain ⟨j, hj, rfl, HR⟩ := hrel
  by_cases hlt : j < n
  · have STP := hidd (HST.out j wr hlt HR.out.2.1)
    have HNX := hidd (fstF_next (er := er) hlt)
    generalize her : er j = y at STP HNX
    clear her
    go_wp2_with fail
    refine STP.out.mono ?_
    rintro e w1 ⟨rfl, s1, s2, s3⟩
    have HX1 := hidd (s1 nb _ 30 HR.out.1 (by decide) (by decide))
    have HF1 := hidd (And.intro (HR.out.2.2.1.trans s1) s2)
    have HS3 := hidd s3
    clear s1 s2 s3 STP
    by_cases y0 : y = 0
    · subst y0
      go_wp2_with fail
      go_roundw
      case rel => exact ⟨j + 1, by omega, by go_num, HX1.out, HS3.out (by trivial), HF1.out.1, by rw [HR.out.2.2.2, HNX.out]; simp⟩
      case measure => simp [intOf]; omega
    · have y0' : (y != 0) = true := by simpa using y0
      have hre : rs = (y, (j : Int)) := by rw [HR.out.2.2.2, HNX.out, if_neg y0]
      subst hre
      have HY0 := hidd y0
      have d0 : w1.cell? ⟨nb, 0, none⟩ = some (.int .i64 0) := (cellO HX1.out).trans rfl
      have d1 : w1.cell? ⟨nb, 1, none⟩ = some (.int .i64 0) := (cellO HX1.out).trans rfl
      have z0 := looseO (q := 0) HX1.out
      have z1 := looseO (q := 1) HX1.out
      have HTY : Hid (Ty w ((w1.setCell ⟨nb, 0, none⟩ (.int .i64 y)).setCell ⟨nb, 1, none⟩ (.int .i64 j)) ∧ Below B w0 ((w1.setCell ⟨nb, 0, none⟩ (.int .i64 y)).setCell ⟨nb, 1, none⟩ (.int .i64 j))) := ⟨(HF1.out.1.setNew HNB.out _).setNew HNB.out _, (HF1.out.2.setCell (p := ⟨nb, 0, none⟩) hNB _).setCell (p := ⟨nb, 1, none⟩) hNB _⟩
      have HFI := hidd (two_at1 (two_at0 HX1.out (.int .i64 y)) (.int .i64 j))
      clear HRS HNX y0
      go_wp2_with fail
      exact bodyPost_ret (ret23 HFI.out rfl) rfl ⟨rfl, HTY.out.1, HTY.out.2, by first | exact fun h => absurd h HY0.out | trivial⟩
  · obtain rfl : j = n := by omega
    have hre := HR.out.2.2.2
    rw [Nat.sub_self, fstF] at hre
    subst hre
    have d0 : wr.cell? ⟨nb, 0, none⟩ = some (.int .i64 0) := (cellO HR.out.1).trans rfl
    have d1 : wr.cell? ⟨nb, 1, none⟩ = some (.int .i64 0) := (cellO HR.out.1).trans rfl
    have z0 := looseO (q := 0) HR.out.1
    have z1 := looseO (q := 1) HR.out.1
    have HBB := HI.out _ _ HR.out.2.1
    have HTY : Hid (Ty w ((wr.setCell ⟨nb, 0, none⟩ (.int .i64 0)).setCell ⟨nb, 1, none⟩ (.int .i64 0)) ∧ Below B w0 ((wr.setCell ⟨nb, 0, none⟩ (.int .i64 0)).setCell ⟨nb, 1, none⟩ (.int .i64 0))) := ⟨(HR.out.2.2.1.setNew HNB.out _).setNew HNB.out _, (HBB.setCell (p := ⟨nb, 0, none⟩) hNB _).setCell (p := ⟨nb, 1, none⟩) hNB _⟩
    have HFI := hidd (two_at1 (two_at0 HR.out.1 (.int .i64 0)) (.int .i64 0))
    have HIN : Hid (Inv j ((wr.setCell ⟨nb, 0, none⟩ (.int .i64 0)).setCell ⟨nb, 1, none⟩ (.int .i64 0))) := hidd (HSS.out _ _ _ _ _ _ hNB (two_at0 HR.out.1 (.int .i64 0)) (HSS.out _ _ _ _ _ _ hNB HR.out.1 HR.out.2.1))
    clear HRS HBB
    go_wp2_with fail
    exact bodyPost_ret (ret23 HFI.out rfl) rfl ⟨rfl, HTY.out.1, HTY.out.2, by first | exact fun _ => HIN.out | exact HIN.out⟩
end
section
set_option linter.unusedVariables false
set_option linter.unusedSimpArgs false
open Go.RowKit
set_option maxRecDepth 100000 in
set_option maxHeartbeats 3200000 in
theorem unitByUnit_24 (B n cap : Nat) (a : Option Addr) (v1 v2 : Value) (er : Nat → Int) (Inv : Nat → World → Prop) (w0 w : World) (hn : n ≤ 40) (hBw : B ≤ w.heap.size) (hA : ∀ k W o, Inv k W → Inv k (W.alloc o)) (hI : ∀ k W, Inv k W → Below B w0 W)
    (hS : ∀ k W N cs q v, B ≤ N → W.heap[N]? = some (.cells cs 30 (0, 0)) → Inv k W → Inv k (W.setCell ⟨N, q, none⟩ v)) (h0 : Inv 0 w)
    (step : ∀ k W, k < n → Inv k W → Calls Tryd.prog 24 #[.int .i64 k, v1, v2] W fun e W' => e = .returned (.int .i64 (er k)) ∧ Ty W W' ∧ Below B w0 W' ∧ (er k = 0 → Inv (k + 1) W')) :
    Calls Tryd.prog 23 #[.slice a n cap, .func (.func 24) #[] #[v1, v2]] w fun e W' => e = .returned (fv (fstF er 0 n)) ∧ Ty w W' ∧ Below B w0 W' ∧ ((fstF er 0 n).1 = 0 → Inv n W') := by
  obtain ⟨rs, hrs⟩ : ∃ r, r = fstF er 0 n := ⟨_, rfl⟩
  rw [← hrs]
  have HRS := hidd hrs
  have hba := (Below.refl w.heap.size w).alloc (Nat.le_refl _) (.cells #[.int .i64 0, .int .i64 0] 30)
  have HZ := hidd (World.alloc_heap_new w (.cells #[.int .i64 0, .int .i64 0] 30))
  have H0 := hidd (hA _ _ (.cells #[.int .i64 0, .int .i64 0] 30) h0)
  have HT0 := hidd (Ty.below hba)
  have HST := hidd step
  have HI := hidd hI
  have HSS := hidd hS
  have hNB : B ≤ w.heap.size := hBw
  clear hrs hba hA hI hS h0 step
  go_enter Tryd.func23, Tryd.ntmps23
  go_upto_region 1 with fail
  generalize w.alloc (.cells #[.int .i64 0, .int .i64 0] 30) = V at HZ H0 HT0 ⊢
  obtain ⟨nb, hnb⟩ : ∃ u, u = w.heap.size := ⟨_, rfl⟩
  rw [← hnb] at HZ hNB ⊢
  have HNB : Hid (w.heap.size ≤ nb) := hidd (Nat.le_of_eq hnb.symm)
  clear hnb
  go_wp2_with fail
  go_loopw [9] (fun i wr => ∃ j : Nat, j ≤ n ∧ i = .int .i64 j ∧ Hid (wr.heap[nb]? = some (.cells #[.int .i64 0, .int .i64 0] 30 (0, 0)) ∧ Inv j wr ∧ Ty w wr ∧ rs = fstF er j (n - j))) (fun i _ => n - (intOf i).toNat)
  case atStart => exact ⟨0, Nat.zero_le _, rfl, HZ.out, H0.out, HT0.out, HRS.out⟩
  case round =>
  obtain ⟨j, hj, rfl, HR⟩ := hrel
  by_cases hlt : j < n
  · have STP := hidd (HST.out j wr hlt HR.out.2.1)
    have HNX := hidd (fstF_next (er := er) hlt)
    generalize her : er j = y at STP HNX
    clear her
    go_wp2_with fail
    refine STP.out.mono ?_
    rintro e w1 ⟨rfl, s1, s2, s3⟩
    have HX1 := hidd (s1 nb _ 30 HR.out.1 (by decide) (by decide))
    have HF1 := hidd (And.intro (HR.out.2.2.1.trans s1) s2)
    have HS3 := hidd s3
    clear s1 s2 s3 STP
    by_cases y0 : y = 0
    · subst y0
      go_wp2_with fail
      go_roundw
      case rel => exact ⟨j + 1, by omega, by go_num, HX1.out, HS3.out (by trivial), HF1.out.1, by rw [HR.out.2.2.2, HNX.out]; simp⟩
      case measure => simp [intOf]; omega
    · have y0' : (y != 0) = true := by simpa using y0
      have hre : rs = (y, (j : Int)) := by rw [HR.out.2.2.2, HNX.out, if_neg y0]
      subst hre
      have HY0 := hidd y0
      have d0 : w1.cell? ⟨nb, 0, none⟩ = some (.int .i64 0) := (cellO HX1.out).trans rfl
      have d1 : w1.cell? ⟨nb, 1, none⟩ = some (.int .i64 0) := (cellO HX1.out).trans rfl
      have z0 := looseO (q := 0) HX1.out
      have z1 := looseO (q := 1) HX1.out
      have HTY : Hid (Ty w ((w1.setCell ⟨nb, 0, none⟩ (.int .i64 y)).setCell ⟨nb, 1, none⟩ (.int .i64 j)) ∧ Below B w0 ((w1.setCell ⟨nb, 0, none⟩ (.int .i64 y)).setCell ⟨nb, 1, none⟩ (.int .i64 j))) := ⟨(HF1.out.1.setNew HNB.out _).setNew HNB.out _, (HF1.out.2.setCell (p := ⟨nb, 0, none⟩) hNB _).setCell (p := ⟨nb, 1, none⟩) hNB _⟩
      have HFI := hidd (two_at1 (two_at0 HX1.out (.int .i64 y)) (.int .i64 j))
      clear HRS HNX y0
      go_wp2_with fail
      exact bodyPost_ret (ret23 HFI.out rfl) rfl ⟨rfl, HTY.out.1, HTY.out.2, by first | exact fun h => absurd h HY0.out | trivial⟩
  · obtain rfl : j = n := by omega
    have hre := HR.out.2.2.2
    rw [Nat.sub_self, fstF] at hre
    subst hre
    have d0 : wr.cell? ⟨nb, 0, none⟩ = some (.int .i64 0) := (cellO HR.out.1).trans rfl
    have d1 : wr.cell? ⟨nb, 1, none⟩ = some (.int .i64 0) := (cellO HR.out.1).trans rfl
    have z0 := looseO (q := 0) HR.out.1
    have z1 := looseO (q := 1) HR.out.1
    have HBB := HI.out _ _ HR.out.2.1
    have HTY : Hid (Ty w ((wr.setCell ⟨nb, 0, none⟩ (.int .i64 0)).setCell ⟨nb, 1, none⟩ (.int .i64 0)) ∧ Below B w0 ((wr.setCell ⟨nb, 0, none⟩ (.int .i64 0)).setCell ⟨nb, 1, none⟩ (.int .i64 0))) := ⟨(HR.out.2.2.1.setNew HNB.out _).setNew HNB.out _, (HBB.setCell (p := ⟨nb, 0, none⟩) hNB _).setCell (p := ⟨nb, 1, none⟩) hNB _⟩
    have HFI := hidd (two_at1 (two_at0 HR.out.1 (.int .i64 0)) (.int .i64 0))
    have HIN : Hid (Inv j ((wr.setCell ⟨nb, 0, none⟩ (.int .i64 0)).setCell ⟨nb, 1, none⟩ (.int .i64 0))) := hidd (HSS.out _ _ _ _ _ _ hNB (two_at0 HR.out.1 (.int .i64 0)) (HSS.out _ _ _ _ _ _ hNB HR.out.1 HR.out.2.1))
    clear HRS HBB
    go_wp2_with fail
    exact bodyPost_ret (ret23 HFI.out rfl) rfl ⟨rfl, HTY.out.1, HTY.out.2, by first | exact fun _ => HIN.out | exact HIN.out⟩
end
section
set_option linter.unusedVariables false
set_option linter.unusedSimpArgs false
open Go.RowKit
set_option maxRecDepth 100000 in
set_option maxHeartbeats 3200000 in
theorem insByIns_33 (B : Nat) (v1 v2 : Value) (PP : List Pro) (pa : Option Addr) (pc ub uo : Nat) (er : Nat → Int) (Inv : Nat → World → Prop) (w : World) (hl : PL B w pa PP) (hpc : PP.length ≤ pc) (hn5 : PP.length ≤ 500) (hc6 : ∀ P, P ∈ PP → P.code.length ≤ 6000) (hub : ub < B) (hBw : B ≤ w.heap.size)
    (hu : w.cell? ⟨ub, uo + 1, none⟩ = some (.slice pa PP.length pc)) (hA : ∀ k W o, Inv k W → Inv k (W.alloc o)) (hI : ∀ k W, Inv k W → Below B w W) (h0 : Inv 0 w)
    (step : ∀ k x b o qa qc W, (PP.flatMap Pro.code)[k]? = some x → IL B W b o x qa qc → b < B → Inv k W → Calls Tryd.prog 33 #[.pointer (some ⟨b, o, none⟩), v1, v2] W fun e W' => e = .returned (.int .i64 (er k)) ∧ Ty W W' ∧ Below B w W' ∧ (er k = 0 → Inv (k + 1) W')) :
    Calls Tryd.prog 28 #[.pointer (some ⟨ub, uo, none⟩), .func (.func 33) #[] #[v1, v2]] w fun e W' => e = .returned (.int .i64 (fstE er 0 (PP.flatMap Pro.code).length)) ∧ Ty w W' ∧ Below B w W' ∧ (fstE er 0 (PP.flatMap Pro.code).length = 0 → Inv (PP.flatMap Pro.code).length W') := by
  obtain ⟨rs, hrs⟩ : ∃ r, r = fstE er 0 (PP.flatMap Pro.code).length := ⟨_, rfl⟩
  rw [← hrs]
  obtain ⟨N, hN⟩ : ∃ n, n = (PP.flatMap Pro.code).length := ⟨_, rfl⟩
  rw [← hN] at hrs ⊢
  have HRS := hidd hrs
  have HNN := hidd hN
  have HPL := hidd hl
  have HC6 := hidd hc6
  have HST := hidd step
  have HA := hidd hA
  have HI := hidd hI
  have H0 := hidd h0
  obtain ⟨n, hn⟩ : ∃ n, n = PP.length := ⟨_, rfl⟩
  have HN := hidd hn
  rw [← hn] at hu hpc hn5
  clear hrs hN hl hc6 step hA hI h0 hn
  go_enter Tryd.func28, Tryd.ntmps28
  go_wp2_with fail
  clear hu
  go_loopw [14] (fun i wr => ∃ j : Nat, j ≤ n ∧ i = .int .i64 j ∧ Hid (Inv ((PP.take j).flatMap Pro.code).length wr ∧ Ty w wr ∧ Below B w wr ∧ rs = fstE er ((PP.take j).flatMap Pro.code).length (N - ((PP.take j).flatMap Pro.code).length))) (fun i _ => n - (intOf i).toNat)
  case atStart => exact ⟨0, Nat.zero_le _, rfl, H0.out, Ty.refl _, Below.refl _ _, HRS.out⟩
  case round =>
  obtain ⟨j, hj, rfl, HR⟩ := hrel
  by_cases hlt : j < n
  · have hjP : j < PP.length := by rw [← HN.out]; exact hlt
    have hP : PP[j]? = some PP[j] := List.getElem?_eq_getElem hjP
    obtain ⟨P, hPe⟩ : ∃ P, PP[j] = P := ⟨_, rfl⟩
    rw [hPe] at hP
    clear hPe
    have HP := hidd hP
    obtain ⟨pb, po, rfl, hpb, hall⟩ := HPL.out.at hP
    obtain ⟨ca, cc, p0, p1, hcc, hcl⟩ := hall j _ hP
    have q0 := (HR.out.2.2.1.cell (p := ⟨pb, po + j * 2, none⟩) hpb).trans p0
    have q1 := (HR.out.2.2.1.cell (p := ⟨pb, po + j * 2 + 1, none⟩) hpb).trans p1
    obtain ⟨cn, hcn⟩ : ∃ n, n = P.code.length := ⟨_, rfl⟩
    have HCN := hidd hcn
    have hc6 : cn ≤ 6000 := by rw [hcn]; exact HC6.out P (List.mem_of_getElem? hP)
    have HCL := hidd hcl
    rw [← hcn] at q1 hcc
    clear hcn p0 p1 hcl hall hP
    obtain ⟨K0, hK0⟩ : ∃ k, k = ((PP.take j).flatMap Pro.code).length := ⟨_, rfl⟩
    have HK0 := hidd hK0
    rw [← hK0] at HR
    clear hK0
    have hba := (Below.refl wr.heap.size wr).alloc (Nat.le_refl _) (.cells #[.int .i64 P.args, .slice ca cn cc] 46)
    have HX := hidd (World.alloc_heap_new wr (.cells #[.int .i64 P.args, .slice ca cn cc] 46))
    have HR2 : Hid (Inv (K0 + 0) (wr.alloc (.cells #[.int .i64 P.args, .slice ca cn cc] 46)) ∧ Ty w (wr.alloc (.cells #[.int .i64 P.args, .slice ca cn cc] 46)) ∧ Below B w (wr.alloc (.cells #[.int .i64 P.args, .slice ca cn cc] 46)) ∧ rs = fstE er (K0 + 0) (N - (K0 + 0))) := ⟨HA.out _ _ _ HR.out.1, HR.out.2.1.trans (Ty.below hba), HR.out.2.2.1.trans (hba.mono (Nat.le_trans hBw HR.out.2.2.1.size)), HR.out.2.2.2⟩
    clear HR hba
    go_upto_region 4 with fail
    clear q0 q1
    generalize wr.alloc (.cells #[.int .i64 P.args, .slice ca cn cc] 46) = V at HX HR2 ⊢
    obtain ⟨xb, hxb⟩ : ∃ u, u = wr.heap.size := ⟨_, rfl⟩
    rw [← hxb] at HX ⊢
    clear hxb
    have x1 : V.cell? ⟨xb, 1, none⟩ = some (.slice ca cn cc) := (cellO HX.out).trans rfl
    go_wp2_with fail
    clear x1
    go_loopw [21] (fun i wz => ∃ k : Nat, k ≤ cn ∧ i = .int .i64 k ∧ Hid (wz.heap[xb]? = some (.cells #[.int .i64 P.args, .slice ca cn cc] 46 (0, 0)) ∧ Inv (K0 + k) wz ∧ Ty w wz ∧ Below B w wz ∧ rs = fstE er (K0 + k) (N - (K0 + k)))) (fun i _ => cn - (intOf i).toNat)
    case atStart => exact ⟨0, Nat.zero_le _, rfl, HX.out, HR2.out⟩
    case round =>
    obtain ⟨k, hk, rfl, HK⟩ := hrel
    by_cases hkl : k < cn
    · have hkc : k < P.code.length := by rw [← HCN.out]; exact hkl
      have hx : P.code[k]? = some P.code[k] := List.getElem?_eq_getElem hkc
      obtain ⟨x, hxe⟩ : ∃ x, P.code[k] = x := ⟨_, rfl⟩
      rw [hxe] at hx
      clear hxe
      obtain ⟨cb, co, rfl, hcb, hins⟩ : ∃ b o, ca = some ⟨b, o, none⟩ ∧ b < B ∧ ∀ i x, P.code[i]? = some x → ∃ qa qc, IL B w b (o + i * 11) x qa qc := by
        rcases HCL.out with h | h
        · rw [h] at hkc; simp at hkc
        · exact h
      obtain ⟨qa, qc, hil⟩ := hins k x hx
      have hKlt : K0 + k < N := by rw [HK0.out, HNN.out]; exact flat_lt HP.out hkc
      have STP := hidd (HST.out (K0 + k) x cb (co + k * 11) qa qc wr (by rw [HK0.out]; exact flat_idx HP.out hx) (hil.below hcb HK.out.2.2.2.1) hcb HK.out.2.1)
      have HNX := hidd (fstE_next (er := er) hKlt)
      have x2 := (cellO (q := 1) HK.out.1).trans (show (#[.int .i64 P.args, .slice (some ⟨cb, co, none⟩) cn cc] : Array Value)[1]? = some (.slice (some ⟨cb, co, none⟩) cn cc) from rfl)
      clear hil hins hx hKlt
      generalize her : er (K0 + k) = y at STP HNX
      clear her
      go_wp2_with fail
      refine STP.out.mono ?_
      rintro e w1 ⟨rfl, s1, s2, s3⟩
      have HX1 := hidd (s1 xb _ 46 HK.out.1 (by decide) (by decide))
      have HF1 := hidd (And.intro (HK.out.2.2.1.trans s1) s2)
      have HS3 := hidd s3
      clear s1 s2 s3 STP x2
      by_cases y0 : y = 0
      · subst y0
        go_wp2_with fail
        go_roundw
        case rel => exact ⟨k + 1, by omega, by go_num, HX1.out, by have := HS3.out (by trivial); rwa [Nat.add_assoc] at this, HF1.out.1, HF1.out.2, by rw [HK.out.2.2.2.2, HNX.out]; simp [Nat.add_assoc]⟩
        case measure => simp [intOf]; omega
      · have y0' : (y != 0) = true := by simpa using y0
        have hre : rs = y := by rw [HK.out.2.2.2.2, HNX.out, if_neg y0]
        subst hre
        have HY0 := hidd y0
        clear HRS HNX y0
        go_wp2_with fail
        go_ret
        exact ⟨rfl, HF1.out.1, HF1.out.2, by first | exact fun h => absurd h HY0.out | trivial⟩
    · obtain rfl : k = cn := by omega
      have hKE : K0 + k = ((PP.take (j + 1)).flatMap Pro.code).length := by rw [flat_next HP.out, HK0.out, HCN.out]
      have HE := hidd HK.out.2
      rw [hKE] at HE
      clear HK hKE
      go_wp2_with fail
      go_roundw
      case rel => exact ⟨j + 1, by omega, by go_num, HE.out⟩
      case measure => simp [intOf]; omega
  · obtain rfl : j = n := by omega
    have hKE : ((PP.take j).flatMap Pro.code).length = N := by rw [List.take_of_length_le (by rw [HN.out]; exact Nat.le_refl _), HNN.out]
    rw [hKE] at HR
    have hre := HR.out.2.2.2
    rw [Nat.sub_self, fstE] at hre
    subst hre
    clear HRS
    go_wp2_with fail
    go_ret
    exact ⟨rfl, HR.out.2.1, HR.out.2.2.1, by first | exact fun _ => HR.out.1 | exact HR.out.1⟩
end
end Go.Proofs.YtdnbingddbakaaaDoor
