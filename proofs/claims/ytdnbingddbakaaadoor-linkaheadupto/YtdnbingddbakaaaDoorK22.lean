/- Chapter 9: slices.Repeat of one number. -/
import Derived.Test.YtdnbingddbakaaaDoorK18
import Derived.Test.YtdnbingddbakaaaDoorK17
import Derived.Test.YtdnbingddbakaaaDoorK20
import Derived.Laws.CopyOwn
import Derived.Laws.MakeOwn
import Derived.Deep.RegionLaw
namespace Go.Proofs.YtdnbingddbakaaaDoor
set_option linter.unusedVariables false
set_option linter.unusedSimpArgs false
open Go.RowKit

theorem infoInt : (Tryd.prog.info? 3).map (fun i => (i.zero, i.size, i.bytes)) = some (some (.int .i64 0), 1, 8) := by kernel_rfl
theorem sizeInt : (Tryd.prog.info? 3).map (·.size) = some 1 := by kernel_rfl
theorem made_one (n : Nat) (x : Value) : madeCells #[x] n = (List.replicate n x).toArray := by
  unfold madeCells
  apply Array.ext
  · simp
  · intro i h1 h2
    simp [Nat.mod_one]
theorem wrap_small (x : Int) (h0 : 0 ≤ x) (h1 : x ≤ 12000) : IntKind.i64.wrap x = x := by
  first
    | (simp [IntKind.wrap, IntKind.bits]; omega)
    | (simp [IntKind.wrap, show IntKind.i64.bits = 64 from rfl]; omega)
    | (simp [IntKind.wrap, show IntKind.i64.bits = 64 from rfl, show IntKind.i64.signed = true from rfl]; split <;> omega)
theorem rep_splice (m n k : Nat) (a b : Value) (h : m + k ≤ n) : splice (List.replicate m a ++ List.replicate (n - m) b) m (List.replicate k a) = List.replicate (m + k) a ++ List.replicate (n - (m + k)) b := by
  unfold splice
  rw [List.take_append_of_le_length (by simp), List.take_of_length_le (by simp), List.drop_append]
  simp only [List.length_replicate, List.drop_replicate]
  rw [show m - (m + k) = 0 by omega, List.replicate_zero, List.nil_append, ← List.append_assoc, List.replicate_append_replicate, show n - m - (m + k - m) = n - (m + k) by omega]

set_option maxRecDepth 100000 in
set_option maxHeartbeats 800000 in
theorem Repeat_one (c : Nat) (v : Int) (n cap : Nat) (w : World) (h : w.cell? ⟨c, 0, none⟩ = some (.int .i64 v)) (hc : c < w.heap.size) (hn1 : 1 ≤ n) (hn : n ≤ 6000) :
    Calls Tryd.prog 72 #[.slice (some ⟨c, 0, none⟩) 1 cap, .int .i64 n] w fun r w' => r = .returned (.slice (some ⟨w.heap.size, 0, none⟩) n n) ∧ HR w.heap.size 3 (List.replicate n v) w' ∧ Below w.heap.size w w' := by
  have M := Tryd.bits_Mul 1 n (by omega) (by omega) w
  rw [show (1 * n / 18446744073709551616 : Nat) = 0 by omega, show (1 * n % 18446744073709551616 : Nat) = n by omega] at M
  have HM := hidd M
  clear M
  obtain ⟨i0, hinf, hz0, hz1, hz2⟩ := info_parts infoInt
  have hmk : (Instr.makeSlice 25 (.int .i64 n) (.int .i64 n)).run Tryd.prog w = .ok (.slice (some ⟨w.heap.size, 0, none⟩) n n) (w.alloc (.cells (List.replicate n (Value.int .i64 0)).toArray 3)) := by
    have := run_makeSlice (P := Tryd.prog) w 25 3 i0 (.int .i64 0) Tryd.underlying25 hinf hz0 .i64 .i64 n n (by omega) (Int.le_refl _) (by rw [hz1]; simp; omega) (by rw [hz2]; omega) (by omega)
    rw [hz1] at this
    simpa [Value.cells, made_one] using this
  have hcell : (w.alloc (.cells (List.replicate n (Value.int .i64 0)).toArray 3)).cell? ⟨c, 0, none⟩ = some (.int .i64 v) := (((Below.refl w.heap.size w).alloc (Nat.le_refl _) _).cell (p := ⟨c, 0, none⟩) hc).trans h
  have hrow : (w.alloc (.cells (List.replicate n (Value.int .i64 0)).toArray 3)).heap[w.heap.size]? = some (.cells (List.replicate n (Value.int .i64 0)).toArray 3 (0, 0)) := World.alloc_heap_new w _
  have HC := hidd hcell
  have HRW := hidd hrow
  have HBL := hidd ((Below.refl w.heap.size w).alloc (Nat.le_refl _) (.cells (List.replicate n (Value.int .i64 0)).toArray 3))
  have H0 := hidd h
  clear hcell hrow hinf hz0 hz1 hz2 h
  go_enter Tryd.func72, Tryd.ntmps72
  go_wp2_with fail
  refine HM.out.mono ?_
  rintro e w1 ⟨rfl, rfl⟩
  go_wp2_with (refine wpList_copy_splice rfl _ _ 25 25 rfl 3 Tryd.underlying25 sizeInt (some ⟨w1.heap.size, 0, none⟩) (some ⟨c, 0, none⟩) n n 1 cap rfl rfl w1.heap.size 0 (List.replicate n (Value.int .i64 0)) 3 HRW.out [.int .i64 v] ?c1 ?c2 ?c3 ?c4 w1.heap.size w1 HBL.out (Nat.le_refl _) ?_)
  case c1 => exact (Nat.min_eq_left hn1).symm
  case c2 =>
    intro j u hj
    cases j with
    | zero =>
      simp at hj
      subst hj
      exact H0.out
    | succ j => simp at hj
  case c3 => simp; omega
  case c4 => intro u hu; rw [List.mem_singleton.1 hu]; rfl
  intro w2 hw2 hb2
  have HB2 := hidd hb2
  clear hb2 hmk HM
  go_wp2_with fail
  go_loopw [8] (fun i wr => ∃ m : Nat, 1 ≤ m ∧ m ≤ n ∧ i = .int .i64 m ∧ Below w1.heap.size w1 wr ∧ wr.heap[w1.heap.size]? = some (.cells (List.replicate m (Value.int .i64 v) ++ List.replicate (n - m) (Value.int .i64 0)).toArray 3 (0, 0))) (fun i _ => n - (intOf i).toNat)
  case atStart =>
    refine ⟨1, by omega, hn1, rfl, HB2.out, ?_⟩
    have := rep_splice 0 n 1 (Value.int .i64 v) (Value.int .i64 0) (by omega)
    simp only [List.replicate_zero, List.nil_append, Nat.sub_zero, Nat.zero_add] at this
    rw [← this]
    exact hw2.out
  case round =>
    obtain ⟨m, hm1, hm2, rfl, hb, hr⟩ := hrel
    have HB := hidd hb
    have HR0 := hidd hr
    clear hb hr hw2 HB2
    by_cases hlt : m < n
    · have hN : (List.replicate (Nat.min m (n - m)) (Value.int .i64 v)).length = Nat.min m (n - m) := by simp
      have hle : Nat.min m (n - m) ≤ m ∧ Nat.min m (n - m) ≤ n - m ∧ 1 ≤ Nat.min m (n - m) := ⟨Nat.min_le_left _ _, Nat.min_le_right _ _, Nat.le_min.2 ⟨hm1, by omega⟩⟩
      have hcell : ∀ j u, (List.replicate (Nat.min m (n - m)) (Value.int .i64 v))[j]? = some u → wr.cell? ((⟨w1.heap.size, 0, none⟩ : Addr).add j) = some u := by
        intro j u hj
        rw [List.getElem?_replicate] at hj
        split at hj
        · rename_i hjl
          simp only [Option.some.injEq] at hj
          subst hj
          have hadd := addr_add w1.heap.size j
          rw [hadd]
          simp only [World.cell?, HR0.out]
          simp [List.getElem?_append, show j < m by omega]
        · simp at hj
      have hfit : m + (List.replicate (Nat.min m (n - m)) (Value.int .i64 v)).length ≤ (List.replicate m (Value.int .i64 v) ++ List.replicate (n - m) (Value.int .i64 0)).length := by simp; omega
      have hone : ∀ u ∈ List.replicate (Nat.min m (n - m)) (Value.int .i64 v), u.oneCell' = true := fun u hu => by rw [(List.mem_replicate.1 hu).2]; rfl
      have HN := hidd hN
      have HCL := hidd hcell
      have HF := hidd hfit
      have HO := hidd hone
      have HRS := hidd (rep_splice m n (Nat.min m (n - m)) (Value.int .i64 v) (Value.int .i64 0) (by omega))
      clear hN hcell hfit hone
      have hwr : IntKind.i64.wrap ((m : Int) + (Nat.min m (n - m) : Nat)) = ((m + Nat.min m (n - m) : Nat) : Int) := by
        rw [wrap_small _ (by omega) (by omega)]
        omega
      generalize hq : Nat.min m (n - m) = q at *
      go_wp2_with fail
      go_region_law (refine step_copy_splice rfl _ _ 25 25 rfl 3 Tryd.underlying25 sizeInt (if n = m then some ⟨w1.heap.size, 0, none⟩ else some ⟨w1.heap.size, m, none⟩) (some ⟨w1.heap.size, 0, none⟩) (n - m) (n - m) m n (by go_simp) (by go_simp) w1.heap.size m (List.replicate m (Value.int .i64 v) ++ List.replicate (n - m) (Value.int .i64 0)) 3 (by exact HR0.out) (List.replicate q (Value.int .i64 v)) (HN.out.trans hq.symm) (fun _ => ⟨if_neg (by omega), _, rfl, by exact HCL.out⟩) HF.out HO.out w1.heap.size w1 (by exact HB.out.drew) (Nat.le_refl _) (fun w5 h5 b5 => ?_))
      all_goals
        have HB5 := hidd b5
        clear b5
        go_wp2_with fail
        go_roundw
        case rel => exact ⟨m + q, by omega, by omega, by first | omega | (rw [hwr]) | (congr 1; omega), HB5.out, by rw [← HRS.out]; exact h5.out⟩
        case measure => first | (simp [intOf]; omega) | (simp only [intOf, hwr]; simp [intOf]; omega)
    · obtain rfl : m = n := by omega
      go_wp2_with fail
      go_ret
      refine ⟨rfl, ?_, HB.out⟩
      have := HR0.out
      unfold HR
      simpa using this
end Go.Proofs.YtdnbingddbakaaaDoor
