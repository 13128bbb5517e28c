/- Chapter 9, the document's side: what is wrong with a unit. -/
import Derived.Test.YtdnbingddbakaaaDoorK40
namespace Go.Proofs.YtdnbingddbakaaaDoor
set_option linter.unusedVariables false
set_option linter.unusedSimpArgs false
open Go.RowKit

theorem glN_name : glN (-1) = nameW := by
  funext x
  unfold glN
  rw [if_neg (by decide)]
set_option maxRecDepth 100000 in
set_option maxHeartbeats 6400000 in
theorem refWrongU_any (nm : ByteArray) (PP : List Pro) (pa : Option Addr) (n pc : Nat) (w : World) (hn : n = PP.length) (hnm : nm.size ≤ maxLen) (hl : PL w.heap.size w pa PP) (hpc : n ≤ pc) :
    Calls Tryd.prog 17 #[.agg #[.string nm, .slice pa n pc]] w fun e w' => e = .returned (.int .i64 (wrongU nm PP)) ∧ Below w.heap.size w w' := by
  obtain ⟨R, hR⟩ : ∃ r, r = wrongU nm PP := ⟨_, rfl⟩
  rw [← hR]
  unfold wrongU at hR
  rw [← hn] at hR
  have ba := (Below.refl w.heap.size w).alloc (Nat.le_refl _) (.cells #[.string nm, .slice pa n pc] 37)
  have HBA := hidd ba
  have NBX := hidd (World.alloc_heap_new w (.cells #[.string nm, .slice pa n pc] 37))
  have P := hidd (fun w => Plain_any nm hnm w)
  have HN := hidd hn
  have HL := hidd hl
  obtain ⟨p, hp⟩ : ∃ p, p = plainB nm := ⟨_, rfl⟩
  rw [← hp] at hR P
  have HRR := hidd hR
  clear hR hn hl ba hp
  go_enter Tryd.func17, Tryd.ntmps17
  go_upto_region 1 with fail
  generalize w.alloc (.cells #[.string nm, .slice pa n pc] 37) = V at HBA NBX ⊢
  obtain ⟨xb, hxb⟩ : ∃ u, u = w.heap.size := ⟨_, rfl⟩
  rw [← hxb] at NBX ⊢
  clear hxb
  have y0 : V.cell? ⟨xb, 0, none⟩ = some (.string nm) := (cellO NBX.out).trans rfl
  have hxl := (Array.getElem?_eq_some_iff.1 NBX.out).1
  go_wp2_with fail
  refine (P.out _).mono ?_
  rintro e W1 ⟨rfl, hb1⟩
  have HB1 := hidd (HBA.out.trans (hb1.mono HBA.out.size))
  have N1 := hidd ((hb1.block _ hxl).trans NBX.out)
  clear hb1 y0
  cases p with
  | false =>
    have hy : R = 7 := by rw [HRR.out, if_pos rfl]
    subst hy
    go_wp2_with fail
    go_ret
    exact ⟨rfl, HB1.out⟩
  | true =>
    have hR2 := HRR.out
    rw [if_neg (by decide)] at hR2
    have HR2 := hidd hR2
    clear hR2 HRR
    have y1 : W1.cell? ⟨xb, 1, none⟩ = some (.slice pa n pc) := (cellO N1.out).trans rfl
    by_cases c0 : n = 0
    · have hy : R = 5 := by rw [HR2.out, if_pos (by omega)]
      have d0 : ((n : Int) == 0) = true := by simp; omega
      subst hy
      clear c0
      go_wp2_with fail
      go_ret
      exact ⟨rfl, HB1.out⟩
    · have d0 : ((n : Int) == 0) = false := by simp; omega
      by_cases c5 : 500 < n
      · have hy : R = 5 := by rw [HR2.out, if_pos (by omega)]
        have d1 : decide ((n : Int) > 500) = true := by simp; omega
        have d1' : decide (500 < (n : Int)) = true := by simp; omega
        subst hy
        clear c0 c5
        go_wp2_with fail
        go_ret
        exact ⟨rfl, HB1.out⟩
      · have d1 : decide ((n : Int) > 500) = false := by simp; omega
        have d1' : decide (500 < (n : Int)) = false := by simp; omega
        have hR3 := HR2.out
        rw [if_neg (by omega), ← glN_name] at hR3
        subst hR3
        have bz := (Below.refl W1.heap.size W1).alloc (Nat.le_refl _) (.cells #[.int .i64 0] 3)
        have HBZ := hidd (HB1.out.trans (bz.mono HB1.out.size))
        have PA := hidd (Protos_any PP [0] pa (some ⟨W1.heap.size, 0, none⟩) n pc 1 1 (-1) (W1.alloc (.cells #[.int .i64 0] 3)) HN.out rfl ((HL.out.below HBZ.out).mono HBZ.out.size) hpc (by omega) (Or.inr ⟨W1.heap.size, 0, rfl, by simp, fun i v hv => by
          match i, hv with
          | 0, hv =>
            simp at hv
            subst hv
            exact (cellO (World.alloc_heap_new W1 (.cells #[.int .i64 0] 3))).trans rfl
          | i + 1, hv => simp at hv⟩) (Nat.le_refl _) (by omega) (fun b hb => by simp at hb; subst hb; omega))
        clear c0 c5 bz
        go_wp2_with fail
        refine PA.out.mono ?_
        rintro e W2 ⟨rfl, hb2⟩
        have HB2 := hidd (HBZ.out.trans (hb2.mono HBZ.out.size))
        clear hb2
        go_wp2_with fail
        go_ret
        exact ⟨rfl, HB2.out⟩
end Go.Proofs.YtdnbingddbakaaaDoor
