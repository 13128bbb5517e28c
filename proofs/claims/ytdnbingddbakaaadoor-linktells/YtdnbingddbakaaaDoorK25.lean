/- Chapter 9, the document's side, plainly: what is wrong with what an instruction has. Chapter 9, the document's side: what is wrong with what an instruction has. -/
import Derived.Test.YtdnbingddbakaaaDoorK13
import Derived.Test.YtdnbingddbakaaaDoorK16
import Derived.Test.YtdnbingddbakaaaDoorK20
namespace Go.Proofs.YtdnbingddbakaaaDoor
section
set_option linter.unusedVariables false
set_option linter.unusedSimpArgs false
open Go.RowKit

theorem field_faultS (a b : Int) (w : World) : (Instr.field 30 (.agg #[.int .i64 a, .int .i64 b]) 0).run Tryd.prog w = .ok (.int .i64 a) w := by
  simp [Instr.field, run_underlying Tryd.underlying30, go_sem, asAgg]
/-- What is wrong with a global: by its number, or by its name. -/
def glN (gn : Int) (x : In) : Int := if 0 ≤ gn then (if 0 ≤ x.a ∧ x.a < gn then 0 else 3) else nameW x
/-- What is wrong with what an instruction has, that makes no procedure. -/
def ownW (ar n gn : Int) (x : In) : Int :=
  if x.op = 1 then (if -1000000000000000 ≤ x.n ∧ x.n ≤ 1000000000000000 then 0 else 3)
  else if x.op = 2 then (if x.n = 0 ∨ x.n = 1 then 0 else 3)
  else if x.op = 3 then (wrong [x.quote]).1
  else if x.op = 4 ∨ x.op = 11 then (if 0 ≤ x.a ∧ x.a < ar then 0 else 3)
  else if x.op = 5 ∨ x.op = 12 ∨ x.op = 13 then glN gn x
  else if x.op = 6 then (if argsB x.own = 0 then 7 else 0)
  else if x.op = 8 then (if 0 ≤ x.a ∧ x.a ≤ 2000 then 0 else 3)
  else if x.op = 9 ∨ x.op = 10 then (if 0 ≤ x.a ∧ x.a < n then 0 else 3)
  else if x.op = 7 ∨ x.op = 14 ∨ x.op = 15 then 0 else 1
end
section
set_option linter.unusedVariables false
set_option linter.unusedSimpArgs false
open Go.RowKit

set_option maxRecDepth 100000 in
set_option maxHeartbeats 12800000 in
theorem Own_any (x : In) (qa : Option Addr) (qc : Nat) (ar n gn : Int) (w : World) (hl : x.lib.size ≤ maxLen) (ho : x.own.size ≤ maxLen) (hqn : x.quote.name.size ≤ maxLen) (hk : ∃ f, Dc (fun k => k < w.heap.size) w f qa x.quote.kids) :
    Calls Tryd.prog 37 #[iv x qa qc, .int .i64 ar, .int .i64 n, .int .i64 gn] w fun r w' => r = .returned (.int .i64 (ownW ar n gn x)) ∧ Below w.heap.size w w' := by
  obtain ⟨y, hy⟩ : ∃ y, y = ownW ar n gn x := ⟨_, rfl⟩
  rw [← hy]
  have HY := hidd hy
  have K := hidd Kind_any
  have O := hidd ownIn_any
  have P := hidd (fun w => Plain_any x.lib hl w)
  have N := hidd (fun w => refNamed_any x.own ho w)
  have PR := hidd (fun w => Prim_any x.own w)
  obtain ⟨f, hd⟩ := hk
  have ba := (Below.refl w.heap.size w).alloc (Nat.le_refl _) (.cells #[.int .i64 x.op, .int .i64 x.a, .int .i64 x.n, .string x.lib, .string x.own, .int .i64 x.quote.kind, .int .i64 x.quote.n, .string x.quote.name, .int .i64 x.quote.stamp, .int .i64 x.quote.lib, .slice qa x.quote.kids.length qc] 51)
  have HBA := hidd ba
  have XBX := hidd (World.alloc_heap_new w (.cells #[.int .i64 x.op, .int .i64 x.a, .int .i64 x.n, .string x.lib, .string x.own, .int .i64 x.quote.kind, .int .i64 x.quote.n, .string x.quote.name, .int .i64 x.quote.stamp, .int .i64 x.quote.lib, .slice qa x.quote.kids.length qc] 51))
  have HDC := hidd (Dc.stay (ok' := fun k => k < (w.alloc (.cells #[.int .i64 x.op, .int .i64 x.a, .int .i64 x.n, .string x.lib, .string x.own, .int .i64 x.quote.kind, .int .i64 x.quote.n, .string x.quote.name, .int .i64 x.quote.stamp, .int .i64 x.quote.lib, .slice qa x.quote.kids.length qc] 51)).heap.size) (fun k hk => ba.block k hk) (fun k hk => Nat.lt_of_lt_of_le hk ba.size) _ _ _ hd)
  have HQN := hidd hqn
  clear hy hl ho hqn hd ba
  unfold iv ic
  go_enter Tryd.func37, Tryd.ntmps37
  go_upto_region 2 with fail
  generalize w.alloc (.cells #[.int .i64 x.op, .int .i64 x.a, .int .i64 x.n, .string x.lib, .string x.own, .int .i64 x.quote.kind, .int .i64 x.quote.n, .string x.quote.name, .int .i64 x.quote.stamp, .int .i64 x.quote.lib, .slice qa x.quote.kids.length qc] 51) = V at HBA XBX HDC ⊢
  obtain ⟨xb, hxb⟩ : ∃ u, u = w.heap.size := ⟨_, rfl⟩
  rw [← hxb] at XBX ⊢
  clear hxb
  obtain ⟨xp, hxp⟩ : ∃ v, v = x.op := ⟨_, rfl⟩
  have HXP := hidd hxp
  have y0 : V.cell? ⟨xb, 0, none⟩ = some (.int .i64 xp) := by rw [hxp]; exact (cellO XBX.out).trans rfl
  have y1 : V.cell? ⟨xb, 1, none⟩ = some (.int .i64 x.a) := (cellO XBX.out).trans rfl
  have y2 : V.cell? ⟨xb, 2, none⟩ = some (.int .i64 x.n) := (cellO XBX.out).trans rfl
  clear hxp
  have hxl := hidd (Array.getElem?_eq_some_iff.1 XBX.out).1
  by_cases hop : xp < 1 ∨ 15 < xp
  · have hy : y = 1 := by
      rw [HY.out]; unfold ownW; rw [← HXP.out]
      rw [if_neg (by omega), if_neg (by omega), if_neg (by omega), if_neg (by omega), if_neg (by omega), if_neg (by omega), if_neg (by omega), if_neg (by omega), if_neg (by omega)]
    subst hy
    have K1 := hidd (fun w => Kind_any xp w)
    rw [show kindB xp = 0 by unfold kindB; rw [if_pos hop]] at K1
    go_wp2_with fail
    refine (K1.out _).mono ?_
    rintro e w1 ⟨rfl, rfl⟩
    go_wp2_with fail
    go_ret
    exact ⟨rfl, HBA.out⟩
  have hop' : xp = 1 ∨ xp = 2 ∨ xp = 3 ∨ xp = 4 ∨ xp = 5 ∨ xp = 6 ∨ xp = 7 ∨ xp = 8 ∨ xp = 9 ∨ xp = 10 ∨ xp = 11 ∨ xp = 12 ∨ xp = 13 ∨ xp = 14 ∨ xp = 15 := by omega
  clear hop
  rcases hop' with rfl | rfl | rfl | rfl | rfl | rfl | rfl | rfl | rfl | rfl | rfl | rfl | rfl | rfl | rfl
  · have K1 := hidd (fun w => Kind_any 1 w)
    rw [show kindB 1 = 110 from rfl] at K1
    have hyv : y = if -1000000000000000 ≤ x.n ∧ x.n ≤ 1000000000000000 then 0 else 3 := by
      rw [HY.out]; unfold ownW; rw [← HXP.out]; simp
    by_cases c1 : -1000000000000000 ≤ x.n
    · have d1 : decide (x.n ≥ -1000000000000000) = true := by simp; omega
      have d1' : decide (-1000000000000000 ≤ x.n) = true := by simp; omega
      by_cases c2 : x.n ≤ 1000000000000000
      · have hy : y = 0 := by rw [hyv, if_pos ⟨c1, c2⟩]
        have d2 : decide (x.n ≤ 1000000000000000) = true := by simpa using c2
        subst hy
        clear hyv c1 c2
        go_wp2_with fail
        refine (K1.out _).mono ?_
        rintro e w1 ⟨rfl, rfl⟩
        go_wp2_with fail
        refine (O.out _ _ _).mono ?_
        rintro e w2 ⟨rfl, rfl⟩
        go_wp2_with fail
        go_ret
        exact ⟨rfl, HBA.out⟩
      · have hy : y = 3 := by rw [hyv, if_neg (fun c => c2 c.2)]
        have d2 : decide (x.n ≤ 1000000000000000) = false := by simpa using c2
        subst hy
        clear hyv c1 c2
        go_wp2_with fail
        refine (K1.out _).mono ?_
        rintro e w1 ⟨rfl, rfl⟩
        go_wp2_with fail
        refine (O.out _ _ _).mono ?_
        rintro e w2 ⟨rfl, rfl⟩
        go_wp2_with fail
        go_ret
        exact ⟨rfl, HBA.out⟩
    · have hy : y = 3 := by rw [hyv, if_neg (fun c => c1 c.1)]
      have d1 : decide (x.n ≥ -1000000000000000) = false := by simp; omega
      have d1' : decide (-1000000000000000 ≤ x.n) = false := by simp; omega
      subst hy
      clear hyv c1
      go_wp2_with fail
      refine (K1.out _).mono ?_
      rintro e w1 ⟨rfl, rfl⟩
      go_wp2_with fail
      refine (O.out _ _ _).mono ?_
      rintro e w2 ⟨rfl, rfl⟩
      go_wp2_with fail
      go_ret
      exact ⟨rfl, HBA.out⟩
  · have K1 := hidd (fun w => Kind_any 2 w)
    rw [show kindB 2 = 110 from rfl] at K1
    have hyv : y = if x.n = 0 ∨ x.n = 1 then 0 else 3 := by
      rw [HY.out]; unfold ownW; rw [← HXP.out]; simp
    by_cases c1 : x.n = 0
    · have hy : y = 0 := by rw [hyv, if_pos (Or.inl c1)]
      have d1 : (x.n == 0) = true := by simp [c1]
      subst hy
      clear hyv c1
      go_wp2_with fail
      refine (K1.out _).mono ?_
      rintro e w1 ⟨rfl, rfl⟩
      go_wp2_with fail
      refine (O.out _ _ _).mono ?_
      rintro e w2 ⟨rfl, rfl⟩
      go_wp2_with fail
      go_ret
      exact ⟨rfl, HBA.out⟩
    · have d1 : (x.n == 0) = false := by simpa using c1
      by_cases c2 : x.n = 1
      · have hy : y = 0 := by rw [hyv, if_pos (Or.inr c2)]
        have d2 : (x.n == 1) = true := by simp [c2]
        subst hy
        clear hyv c1 c2
        go_wp2_with fail
        refine (K1.out _).mono ?_
        rintro e w1 ⟨rfl, rfl⟩
        go_wp2_with fail
        refine (O.out _ _ _).mono ?_
        rintro e w2 ⟨rfl, rfl⟩
        go_wp2_with fail
        go_ret
        exact ⟨rfl, HBA.out⟩
      · have hy : y = 3 := by rw [hyv, if_neg (by omega)]
        have d2 : (x.n == 1) = false := by simpa using c2
        subst hy
        clear hyv c1 c2
        go_wp2_with fail
        refine (K1.out _).mono ?_
        rintro e w1 ⟨rfl, rfl⟩
        go_wp2_with fail
        refine (O.out _ _ _).mono ?_
        rintro e w2 ⟨rfl, rfl⟩
        go_wp2_with fail
        go_ret
        exact ⟨rfl, HBA.out⟩
  · have K1 := hidd (fun w => Kind_any 3 w)
    rw [show kindB 3 = 113 from rfl] at K1
    have hy : y = (wrong [x.quote]).1 := by rw [HY.out]; unfold ownW; rw [← HXP.out]; simp
    have q5 : V.cell? ⟨xb, 5, none⟩ = some (.int .i64 x.quote.kind) := (cellO XBX.out).trans rfl
    have q6 : V.cell? ⟨xb, 6, none⟩ = some (.int .i64 x.quote.n) := (cellO XBX.out).trans rfl
    have q7 : V.cell? ⟨xb, 7, none⟩ = some (.string x.quote.name) := (cellO XBX.out).trans rfl
    have q8 : V.cell? ⟨xb, 8, none⟩ = some (.int .i64 x.quote.stamp) := (cellO XBX.out).trans rfl
    have q9 : V.cell? ⟨xb, 9, none⟩ = some (.int .i64 x.quote.lib) := (cellO XBX.out).trans rfl
    have q10 : V.cell? ⟨xb, 10, none⟩ = some (.slice qa x.quote.kids.length qc) := (cellO XBX.out).trans rfl
    have WR := hidd (refWrong_any (V.heap.size + 1) (f + 1) [x.quote] (some ⟨V.heap.size, 0, none⟩) 1 (V.alloc (.cells #[.int .i64 x.quote.kind, .int .i64 x.quote.n, .string x.quote.name, .int .i64 x.quote.stamp, .int .i64 x.quote.lib, .slice qa x.quote.kids.length qc] 49)) (Lies.one (cap := qc) (Nat.le_refl _) (Dc.lies (fun _ h => h) _ _ _ HDC.out) HQN.out) (by simp))
    have BB := hidd ((Below.refl V.heap.size V).alloc (Nat.le_refl _) (.cells #[.int .i64 x.quote.kind, .int .i64 x.quote.n, .string x.quote.name, .int .i64 x.quote.stamp, .int .i64 x.quote.lib, .slice qa x.quote.kids.length qc] 49))
    obtain ⟨z, hz⟩ : ∃ z, z = wrong [x.quote] := ⟨_, rfl⟩
    rw [← hz] at WR hy
    clear hz
    subst hy
    rw [show [x.quote].length = 1 from rfl] at WR
    go_wp2_with fail
    refine (K1.out _).mono ?_
    rintro e w1 ⟨rfl, rfl⟩
    go_wp2_with fail
    refine WR.out.mono ?_
    rintro e w2 ⟨rfl, hb2⟩
    have hfld := field_faultS z.1 z.2 w2
    unfold fv
    go_wp2_with fail
    go_ret
    have h1 := BB.out.trans (hb2.mono BB.out.size)
    exact ⟨rfl, HBA.out.trans (h1.mono HBA.out.size)⟩
  · have K1 := hidd (fun w => Kind_any 4 w)
    rw [show kindB 4 = 108 from rfl] at K1
    have hyv : y = if 0 ≤ x.a ∧ x.a < ar then 0 else 3 := by
      rw [HY.out]; unfold ownW; rw [← HXP.out]; simp
    by_cases c1 : 0 ≤ x.a
    · have d1 : decide (x.a ≥ 0) = true := by simp; omega
      have d1' : decide (0 ≤ x.a) = true := by simp; omega
      by_cases c2 : x.a < ar
      · have hy : y = 0 := by rw [hyv, if_pos ⟨c1, c2⟩]
        have d2 : decide (x.a < ar) = true := by simpa using c2
        subst hy
        clear hyv c1 c2
        go_wp2_with fail
        refine (K1.out _).mono ?_
        rintro e w1 ⟨rfl, rfl⟩
        go_wp2_with fail
        refine (O.out _ _ _).mono ?_
        rintro e w2 ⟨rfl, rfl⟩
        go_wp2_with fail
        go_ret
        exact ⟨rfl, HBA.out⟩
      · have hy : y = 3 := by rw [hyv, if_neg (fun c => c2 c.2)]
        have d2 : decide (x.a < ar) = false := by simpa using c2
        subst hy
        clear hyv c1 c2
        go_wp2_with fail
        refine (K1.out _).mono ?_
        rintro e w1 ⟨rfl, rfl⟩
        go_wp2_with fail
        refine (O.out _ _ _).mono ?_
        rintro e w2 ⟨rfl, rfl⟩
        go_wp2_with fail
        go_ret
        exact ⟨rfl, HBA.out⟩
    · have hy : y = 3 := by rw [hyv, if_neg (fun c => c1 c.1)]
      have d1 : decide (x.a ≥ 0) = false := by simp; omega
      have d1' : decide (0 ≤ x.a) = false := by simp; omega
      subst hy
      clear hyv c1
      go_wp2_with fail
      refine (K1.out _).mono ?_
      rintro e w1 ⟨rfl, rfl⟩
      go_wp2_with fail
      refine (O.out _ _ _).mono ?_
      rintro e w2 ⟨rfl, rfl⟩
      go_wp2_with fail
      go_ret
      exact ⟨rfl, HBA.out⟩
  · by_cases gpos : 0 ≤ gn
    · have g1 : decide (gn ≥ 0) = true := by simpa using gpos
      have g1' : decide (0 ≤ gn) = true := by simpa using gpos
      have K1 := hidd (fun w => Kind_any 5 w)
      rw [show kindB 5 = 103 from rfl] at K1
      have hyv : y = if 0 ≤ x.a ∧ x.a < gn then 0 else 3 := by
        rw [HY.out]; unfold ownW; rw [← HXP.out]; simp [glN, gpos]
      by_cases c1 : 0 ≤ x.a
      · have d1 : decide (x.a ≥ 0) = true := by simp; omega
        have d1' : decide (0 ≤ x.a) = true := by simp; omega
        by_cases c2 : x.a < gn
        · have hy : y = 0 := by rw [hyv, if_pos ⟨c1, c2⟩]
          have d2 : decide (x.a < gn) = true := by simpa using c2
          subst hy
          clear hyv c1 c2
          go_wp2_with fail
          refine (K1.out _).mono ?_
          rintro e w1 ⟨rfl, rfl⟩
          go_wp2_with fail
          refine (O.out _ _ _).mono ?_
          rintro e w2 ⟨rfl, rfl⟩
          go_wp2_with fail
          go_ret
          exact ⟨rfl, HBA.out⟩
        · have hy : y = 3 := by rw [hyv, if_neg (fun c => c2 c.2)]
          have d2 : decide (x.a < gn) = false := by simpa using c2
          subst hy
          clear hyv c1 c2
          go_wp2_with fail
          refine (K1.out _).mono ?_
          rintro e w1 ⟨rfl, rfl⟩
          go_wp2_with fail
          refine (O.out _ _ _).mono ?_
          rintro e w2 ⟨rfl, rfl⟩
          go_wp2_with fail
          go_ret
          exact ⟨rfl, HBA.out⟩
      · have hy : y = 3 := by rw [hyv, if_neg (fun c => c1 c.1)]
        have d1 : decide (x.a ≥ 0) = false := by simp; omega
        have d1' : decide (0 ≤ x.a) = false := by simp; omega
        subst hy
        clear hyv c1
        go_wp2_with fail
        refine (K1.out _).mono ?_
        rintro e w1 ⟨rfl, rfl⟩
        go_wp2_with fail
        refine (O.out _ _ _).mono ?_
        rintro e w2 ⟨rfl, rfl⟩
        go_wp2_with fail
        go_ret
        exact ⟨rfl, HBA.out⟩
    · have g1 : decide (gn ≥ 0) = false := by simp; omega
      have g1' : decide (0 ≤ gn) = false := by simp; omega
      have y3 : V.cell? ⟨xb, 3, none⟩ = some (.string x.lib) := (cellO XBX.out).trans rfl
      have y4 : V.cell? ⟨xb, 4, none⟩ = some (.string x.own) := (cellO XBX.out).trans rfl
      have K1 := hidd (fun w => Kind_any 5 w)
      rw [show kindB 5 = 103 from rfl] at K1
      have hy : y = nameW x := by rw [HY.out]; unfold ownW; rw [← HXP.out]; simp [glN, gpos]
      unfold nameW at hy
      obtain ⟨p, hp⟩ : ∃ p, p = plainB x.lib := ⟨_, rfl⟩
      obtain ⟨q, hq⟩ : ∃ q, q = namedB x.own := ⟨_, rfl⟩
      rw [← hp, ← hq] at hy
      rw [← hp] at P
      rw [← hq] at N
      clear gpos hp hq
      cases p
      · simp at hy
        subst hy
        go_wp2_with fail
        refine (K1.out _).mono ?_
        rintro e w1 ⟨rfl, rfl⟩
        go_wp2_with fail
        refine (P.out _).mono ?_
        rintro e w2 ⟨rfl, hb2⟩
        have HB2 := hidd (HBA.out.trans (hb2.mono HBA.out.size))
        clear hb2
        go_wp2_with fail
        refine (O.out _ _ _).mono ?_
        rintro e w3 ⟨rfl, rfl⟩
        go_wp2_with fail
        go_ret
        exact ⟨rfl, HB2.out⟩
      · cases q
        all_goals
          simp at hy
          subst hy
          go_wp2_with fail
          refine (K1.out _).mono ?_
          rintro e w1 ⟨rfl, rfl⟩
          go_wp2_with fail
          refine (P.out _).mono ?_
          rintro e w2 ⟨rfl, hb2⟩
          have HB2 := hidd (HBA.out.trans (hb2.mono HBA.out.size))
          have y4' := (hb2.cell (p := ⟨xb, 4, none⟩) hxl.out).trans y4
          clear hb2
          go_wp2_with fail
          refine (N.out _).mono ?_
          rintro e w3 ⟨rfl, hb3⟩
          have HB3 := hidd (HB2.out.trans (hb3.mono HB2.out.size))
          clear hb3
          go_wp2_with fail
          refine (O.out _ _ _).mono ?_
          rintro e w4 ⟨rfl, rfl⟩
          go_wp2_with fail
          go_ret
          exact ⟨rfl, HB3.out⟩
  · have K1 := hidd (fun w => Kind_any 6 w)
    rw [show kindB 6 = 112 from rfl] at K1
    have y4 : V.cell? ⟨xb, 4, none⟩ = some (.string x.own) := (cellO XBX.out).trans rfl
    have hy : y = if decide (argsB x.own ≠ 0) then 0 else 7 := by
      rw [HY.out]; unfold ownW; rw [← HXP.out]
      by_cases e : argsB x.own = 0 <;> simp [e]
    obtain ⟨bb, hbb⟩ : ∃ b, b = decide (argsB x.own ≠ 0) := ⟨_, rfl⟩
    rw [← hbb] at PR hy
    clear hbb
    cases bb
    all_goals
      simp at hy
      subst hy
      go_wp2_with fail
      refine (K1.out _).mono ?_
      rintro e w1 ⟨rfl, rfl⟩
      go_wp2_with fail
      refine (PR.out _).mono ?_
      rintro e w2 ⟨rfl, hb2⟩
      have HB2 := hidd (HBA.out.trans (hb2.mono HBA.out.size))
      clear hb2
      go_wp2_with fail
      refine (O.out _ _ _).mono ?_
      rintro e w3 ⟨rfl, rfl⟩
      go_wp2_with fail
      go_ret
      exact ⟨rfl, HB2.out⟩
  · have K1 := hidd (fun w => Kind_any 7 w)
    rw [show kindB 7 = 99 from rfl] at K1
    have hy : y = 0 := by rw [HY.out]; unfold ownW; rw [← HXP.out]; simp
    subst hy
    go_wp2_with fail
    refine (K1.out _).mono ?_
    rintro e w1 ⟨rfl, rfl⟩
    go_wp2_with fail
    go_ret
    exact ⟨rfl, HBA.out⟩
  · have K1 := hidd (fun w => Kind_any 8 w)
    rw [show kindB 8 = 97 from rfl] at K1
    have hyv : y = if 0 ≤ x.a ∧ x.a ≤ 2000 then 0 else 3 := by
      rw [HY.out]; unfold ownW; rw [← HXP.out]; simp
    by_cases c1 : 0 ≤ x.a
    · have d1 : decide (x.a ≥ 0) = true := by simp; omega
      have d1' : decide (0 ≤ x.a) = true := by simp; omega
      by_cases c2 : x.a ≤ 2000
      · have hy : y = 0 := by rw [hyv, if_pos ⟨c1, c2⟩]
        have d2 : decide (x.a ≤ 2000) = true := by simpa using c2
        subst hy
        clear hyv c1 c2
        go_wp2_with fail
        refine (K1.out _).mono ?_
        rintro e w1 ⟨rfl, rfl⟩
        go_wp2_with fail
        refine (O.out _ _ _).mono ?_
        rintro e w2 ⟨rfl, rfl⟩
        go_wp2_with fail
        go_ret
        exact ⟨rfl, HBA.out⟩
      · have hy : y = 3 := by rw [hyv, if_neg (fun c => c2 c.2)]
        have d2 : decide (x.a ≤ 2000) = false := by simpa using c2
        subst hy
        clear hyv c1 c2
        go_wp2_with fail
        refine (K1.out _).mono ?_
        rintro e w1 ⟨rfl, rfl⟩
        go_wp2_with fail
        refine (O.out _ _ _).mono ?_
        rintro e w2 ⟨rfl, rfl⟩
        go_wp2_with fail
        go_ret
        exact ⟨rfl, HBA.out⟩
    · have hy : y = 3 := by rw [hyv, if_neg (fun c => c1 c.1)]
      have d1 : decide (x.a ≥ 0) = false := by simp; omega
      have d1' : decide (0 ≤ x.a) = false := by simp; omega
      subst hy
      clear hyv c1
      go_wp2_with fail
      refine (K1.out _).mono ?_
      rintro e w1 ⟨rfl, rfl⟩
      go_wp2_with fail
      refine (O.out _ _ _).mono ?_
      rintro e w2 ⟨rfl, rfl⟩
      go_wp2_with fail
      go_ret
      exact ⟨rfl, HBA.out⟩
  · have K1 := hidd (fun w => Kind_any 9 w)
    rw [show kindB 9 = 106 from rfl] at K1
    have hyv : y = if 0 ≤ x.a ∧ x.a < n then 0 else 3 := by
      rw [HY.out]; unfold ownW; rw [← HXP.out]; simp
    by_cases c1 : 0 ≤ x.a
    · have d1 : decide (x.a ≥ 0) = true := by simp; omega
      have d1' : decide (0 ≤ x.a) = true := by simp; omega
      by_cases c2 : x.a < n
      · have hy : y = 0 := by rw [hyv, if_pos ⟨c1, c2⟩]
        have d2 : decide (x.a < n) = true := by simpa using c2
        subst hy
        clear hyv c1 c2
        go_wp2_with fail
        refine (K1.out _).mono ?_
        rintro e w1 ⟨rfl, rfl⟩
        go_wp2_with fail
        refine (O.out _ _ _).mono ?_
        rintro e w2 ⟨rfl, rfl⟩
        go_wp2_with fail
        go_ret
        exact ⟨rfl, HBA.out⟩
      · have hy : y = 3 := by rw [hyv, if_neg (fun c => c2 c.2)]
        have d2 : decide (x.a < n) = false := by simpa using c2
        subst hy
        clear hyv c1 c2
        go_wp2_with fail
        refine (K1.out _).mono ?_
        rintro e w1 ⟨rfl, rfl⟩
        go_wp2_with fail
        refine (O.out _ _ _).mono ?_
        rintro e w2 ⟨rfl, rfl⟩
        go_wp2_with fail
        go_ret
        exact ⟨rfl, HBA.out⟩
    · have hy : y = 3 := by rw [hyv, if_neg (fun c => c1 c.1)]
      have d1 : decide (x.a ≥ 0) = false := by simp; omega
      have d1' : decide (0 ≤ x.a) = false := by simp; omega
      subst hy
      clear hyv c1
      go_wp2_with fail
      refine (K1.out _).mono ?_
      rintro e w1 ⟨rfl, rfl⟩
      go_wp2_with fail
      refine (O.out _ _ _).mono ?_
      rintro e w2 ⟨rfl, rfl⟩
      go_wp2_with fail
      go_ret
      exact ⟨rfl, HBA.out⟩
  · have K1 := hidd (fun w => Kind_any 10 w)
    rw [show kindB 10 = 106 from rfl] at K1
    have hyv : y = if 0 ≤ x.a ∧ x.a < n then 0 else 3 := by
      rw [HY.out]; unfold ownW; rw [← HXP.out]; simp
    by_cases c1 : 0 ≤ x.a
    · have d1 : decide (x.a ≥ 0) = true := by simp; omega
      have d1' : decide (0 ≤ x.a) = true := by simp; omega
      by_cases c2 : x.a < n
      · have hy : y = 0 := by rw [hyv, if_pos ⟨c1, c2⟩]
        have d2 : decide (x.a < n) = true := by simpa using c2
        subst hy
        clear hyv c1 c2
        go_wp2_with fail
        refine (K1.out _).mono ?_
        rintro e w1 ⟨rfl, rfl⟩
        go_wp2_with fail
        refine (O.out _ _ _).mono ?_
        rintro e w2 ⟨rfl, rfl⟩
        go_wp2_with fail
        go_ret
        exact ⟨rfl, HBA.out⟩
      · have hy : y = 3 := by rw [hyv, if_neg (fun c => c2 c.2)]
        have d2 : decide (x.a < n) = false := by simpa using c2
        subst hy
        clear hyv c1 c2
        go_wp2_with fail
        refine (K1.out _).mono ?_
        rintro e w1 ⟨rfl, rfl⟩
        go_wp2_with fail
        refine (O.out _ _ _).mono ?_
        rintro e w2 ⟨rfl, rfl⟩
        go_wp2_with fail
        go_ret
        exact ⟨rfl, HBA.out⟩
    · have hy : y = 3 := by rw [hyv, if_neg (fun c => c1 c.1)]
      have d1 : decide (x.a ≥ 0) = false := by simp; omega
      have d1' : decide (0 ≤ x.a) = false := by simp; omega
      subst hy
      clear hyv c1
      go_wp2_with fail
      refine (K1.out _).mono ?_
      rintro e w1 ⟨rfl, rfl⟩
      go_wp2_with fail
      refine (O.out _ _ _).mono ?_
      rintro e w2 ⟨rfl, rfl⟩
      go_wp2_with fail
      go_ret
      exact ⟨rfl, HBA.out⟩
  · have K1 := hidd (fun w => Kind_any 11 w)
    rw [show kindB 11 = 108 from rfl] at K1
    have hyv : y = if 0 ≤ x.a ∧ x.a < ar then 0 else 3 := by
      rw [HY.out]; unfold ownW; rw [← HXP.out]; simp
    by_cases c1 : 0 ≤ x.a
    · have d1 : decide (x.a ≥ 0) = true := by simp; omega
      have d1' : decide (0 ≤ x.a) = true := by simp; omega
      by_cases c2 : x.a < ar
      · have hy : y = 0 := by rw [hyv, if_pos ⟨c1, c2⟩]
        have d2 : decide (x.a < ar) = true := by simpa using c2
        subst hy
        clear hyv c1 c2
        go_wp2_with fail
        refine (K1.out _).mono ?_
        rintro e w1 ⟨rfl, rfl⟩
        go_wp2_with fail
        refine (O.out _ _ _).mono ?_
        rintro e w2 ⟨rfl, rfl⟩
        go_wp2_with fail
        go_ret
        exact ⟨rfl, HBA.out⟩
      · have hy : y = 3 := by rw [hyv, if_neg (fun c => c2 c.2)]
        have d2 : decide (x.a < ar) = false := by simpa using c2
        subst hy
        clear hyv c1 c2
        go_wp2_with fail
        refine (K1.out _).mono ?_
        rintro e w1 ⟨rfl, rfl⟩
        go_wp2_with fail
        refine (O.out _ _ _).mono ?_
        rintro e w2 ⟨rfl, rfl⟩
        go_wp2_with fail
        go_ret
        exact ⟨rfl, HBA.out⟩
    · have hy : y = 3 := by rw [hyv, if_neg (fun c => c1 c.1)]
      have d1 : decide (x.a ≥ 0) = false := by simp; omega
      have d1' : decide (0 ≤ x.a) = false := by simp; omega
      subst hy
      clear hyv c1
      go_wp2_with fail
      refine (K1.out _).mono ?_
      rintro e w1 ⟨rfl, rfl⟩
      go_wp2_with fail
      refine (O.out _ _ _).mono ?_
      rintro e w2 ⟨rfl, rfl⟩
      go_wp2_with fail
      go_ret
      exact ⟨rfl, HBA.out⟩
  · by_cases gpos : 0 ≤ gn
    · have g1 : decide (gn ≥ 0) = true := by simpa using gpos
      have g1' : decide (0 ≤ gn) = true := by simpa using gpos
      have K1 := hidd (fun w => Kind_any 12 w)
      rw [show kindB 12 = 103 from rfl] at K1
      have hyv : y = if 0 ≤ x.a ∧ x.a < gn then 0 else 3 := by
        rw [HY.out]; unfold ownW; rw [← HXP.out]; simp [glN, gpos]
      by_cases c1 : 0 ≤ x.a
      · have d1 : decide (x.a ≥ 0) = true := by simp; omega
        have d1' : decide (0 ≤ x.a) = true := by simp; omega
        by_cases c2 : x.a < gn
        · have hy : y = 0 := by rw [hyv, if_pos ⟨c1, c2⟩]
          have d2 : decide (x.a < gn) = true := by simpa using c2
          subst hy
          clear hyv c1 c2
          go_wp2_with fail
          refine (K1.out _).mono ?_
          rintro e w1 ⟨rfl, rfl⟩
          go_wp2_with fail
          refine (O.out _ _ _).mono ?_
          rintro e w2 ⟨rfl, rfl⟩
          go_wp2_with fail
          go_ret
          exact ⟨rfl, HBA.out⟩
        · have hy : y = 3 := by rw [hyv, if_neg (fun c => c2 c.2)]
          have d2 : decide (x.a < gn) = false := by simpa using c2
          subst hy
          clear hyv c1 c2
          go_wp2_with fail
          refine (K1.out _).mono ?_
          rintro e w1 ⟨rfl, rfl⟩
          go_wp2_with fail
          refine (O.out _ _ _).mono ?_
          rintro e w2 ⟨rfl, rfl⟩
          go_wp2_with fail
          go_ret
          exact ⟨rfl, HBA.out⟩
      · have hy : y = 3 := by rw [hyv, if_neg (fun c => c1 c.1)]
        have d1 : decide (x.a ≥ 0) = false := by simp; omega
        have d1' : decide (0 ≤ x.a) = false := by simp; omega
        subst hy
        clear hyv c1
        go_wp2_with fail
        refine (K1.out _).mono ?_
        rintro e w1 ⟨rfl, rfl⟩
        go_wp2_with fail
        refine (O.out _ _ _).mono ?_
        rintro e w2 ⟨rfl, rfl⟩
        go_wp2_with fail
        go_ret
        exact ⟨rfl, HBA.out⟩
    · have g1 : decide (gn ≥ 0) = false := by simp; omega
      have g1' : decide (0 ≤ gn) = false := by simp; omega
      have y3 : V.cell? ⟨xb, 3, none⟩ = some (.string x.lib) := (cellO XBX.out).trans rfl
      have y4 : V.cell? ⟨xb, 4, none⟩ = some (.string x.own) := (cellO XBX.out).trans rfl
      have K1 := hidd (fun w => Kind_any 12 w)
      rw [show kindB 12 = 103 from rfl] at K1
      have hy : y = nameW x := by rw [HY.out]; unfold ownW; rw [← HXP.out]; simp [glN, gpos]
      unfold nameW at hy
      obtain ⟨p, hp⟩ : ∃ p, p = plainB x.lib := ⟨_, rfl⟩
      obtain ⟨q, hq⟩ : ∃ q, q = namedB x.own := ⟨_, rfl⟩
      rw [← hp, ← hq] at hy
      rw [← hp] at P
      rw [← hq] at N
      clear gpos hp hq
      cases p
      · simp at hy
        subst hy
        go_wp2_with fail
        refine (K1.out _).mono ?_
        rintro e w1 ⟨rfl, rfl⟩
        go_wp2_with fail
        refine (P.out _).mono ?_
        rintro e w2 ⟨rfl, hb2⟩
        have HB2 := hidd (HBA.out.trans (hb2.mono HBA.out.size))
        clear hb2
        go_wp2_with fail
        refine (O.out _ _ _).mono ?_
        rintro e w3 ⟨rfl, rfl⟩
        go_wp2_with fail
        go_ret
        exact ⟨rfl, HB2.out⟩
      · cases q
        all_goals
          simp at hy
          subst hy
          go_wp2_with fail
          refine (K1.out _).mono ?_
          rintro e w1 ⟨rfl, rfl⟩
          go_wp2_with fail
          refine (P.out _).mono ?_
          rintro e w2 ⟨rfl, hb2⟩
          have HB2 := hidd (HBA.out.trans (hb2.mono HBA.out.size))
          have y4' := (hb2.cell (p := ⟨xb, 4, none⟩) hxl.out).trans y4
          clear hb2
          go_wp2_with fail
          refine (N.out _).mono ?_
          rintro e w3 ⟨rfl, hb3⟩
          have HB3 := hidd (HB2.out.trans (hb3.mono HB2.out.size))
          clear hb3
          go_wp2_with fail
          refine (O.out _ _ _).mono ?_
          rintro e w4 ⟨rfl, rfl⟩
          go_wp2_with fail
          go_ret
          exact ⟨rfl, HB3.out⟩
  · by_cases gpos : 0 ≤ gn
    · have g1 : decide (gn ≥ 0) = true := by simpa using gpos
      have g1' : decide (0 ≤ gn) = true := by simpa using gpos
      have K1 := hidd (fun w => Kind_any 13 w)
      rw [show kindB 13 = 103 from rfl] at K1
      have hyv : y = if 0 ≤ x.a ∧ x.a < gn then 0 else 3 := by
        rw [HY.out]; unfold ownW; rw [← HXP.out]; simp [glN, gpos]
      by_cases c1 : 0 ≤ x.a
      · have d1 : decide (x.a ≥ 0) = true := by simp; omega
        have d1' : decide (0 ≤ x.a) = true := by simp; omega
        by_cases c2 : x.a < gn
        · have hy : y = 0 := by rw [hyv, if_pos ⟨c1, c2⟩]
          have d2 : decide (x.a < gn) = true := by simpa using c2
          subst hy
          clear hyv c1 c2
          go_wp2_with fail
          refine (K1.out _).mono ?_
          rintro e w1 ⟨rfl, rfl⟩
          go_wp2_with fail
          refine (O.out _ _ _).mono ?_
          rintro e w2 ⟨rfl, rfl⟩
          go_wp2_with fail
          go_ret
          exact ⟨rfl, HBA.out⟩
        · have hy : y = 3 := by rw [hyv, if_neg (fun c => c2 c.2)]
          have d2 : decide (x.a < gn) = false := by simpa using c2
          subst hy
          clear hyv c1 c2
          go_wp2_with fail
          refine (K1.out _).mono ?_
          rintro e w1 ⟨rfl, rfl⟩
          go_wp2_with fail
          refine (O.out _ _ _).mono ?_
          rintro e w2 ⟨rfl, rfl⟩
          go_wp2_with fail
          go_ret
          exact ⟨rfl, HBA.out⟩
      · have hy : y = 3 := by rw [hyv, if_neg (fun c => c1 c.1)]
        have d1 : decide (x.a ≥ 0) = false := by simp; omega
        have d1' : decide (0 ≤ x.a) = false := by simp; omega
        subst hy
        clear hyv c1
        go_wp2_with fail
        refine (K1.out _).mono ?_
        rintro e w1 ⟨rfl, rfl⟩
        go_wp2_with fail
        refine (O.out _ _ _).mono ?_
        rintro e w2 ⟨rfl, rfl⟩
        go_wp2_with fail
        go_ret
        exact ⟨rfl, HBA.out⟩
    · have g1 : decide (gn ≥ 0) = false := by simp; omega
      have g1' : decide (0 ≤ gn) = false := by simp; omega
      have y3 : V.cell? ⟨xb, 3, none⟩ = some (.string x.lib) := (cellO XBX.out).trans rfl
      have y4 : V.cell? ⟨xb, 4, none⟩ = some (.string x.own) := (cellO XBX.out).trans rfl
      have K1 := hidd (fun w => Kind_any 13 w)
      rw [show kindB 13 = 103 from rfl] at K1
      have hy : y = nameW x := by rw [HY.out]; unfold ownW; rw [← HXP.out]; simp [glN, gpos]
      unfold nameW at hy
      obtain ⟨p, hp⟩ : ∃ p, p = plainB x.lib := ⟨_, rfl⟩
      obtain ⟨q, hq⟩ : ∃ q, q = namedB x.own := ⟨_, rfl⟩
      rw [← hp, ← hq] at hy
      rw [← hp] at P
      rw [← hq] at N
      clear gpos hp hq
      cases p
      · simp at hy
        subst hy
        go_wp2_with fail
        refine (K1.out _).mono ?_
        rintro e w1 ⟨rfl, rfl⟩
        go_wp2_with fail
        refine (P.out _).mono ?_
        rintro e w2 ⟨rfl, hb2⟩
        have HB2 := hidd (HBA.out.trans (hb2.mono HBA.out.size))
        clear hb2
        go_wp2_with fail
        refine (O.out _ _ _).mono ?_
        rintro e w3 ⟨rfl, rfl⟩
        go_wp2_with fail
        go_ret
        exact ⟨rfl, HB2.out⟩
      · cases q
        all_goals
          simp at hy
          subst hy
          go_wp2_with fail
          refine (K1.out _).mono ?_
          rintro e w1 ⟨rfl, rfl⟩
          go_wp2_with fail
          refine (P.out _).mono ?_
          rintro e w2 ⟨rfl, hb2⟩
          have HB2 := hidd (HBA.out.trans (hb2.mono HBA.out.size))
          have y4' := (hb2.cell (p := ⟨xb, 4, none⟩) hxl.out).trans y4
          clear hb2
          go_wp2_with fail
          refine (N.out _).mono ?_
          rintro e w3 ⟨rfl, hb3⟩
          have HB3 := hidd (HB2.out.trans (hb3.mono HB2.out.size))
          clear hb3
          go_wp2_with fail
          refine (O.out _ _ _).mono ?_
          rintro e w4 ⟨rfl, rfl⟩
          go_wp2_with fail
          go_ret
          exact ⟨rfl, HB3.out⟩
  · have K1 := hidd (fun w => Kind_any 14 w)
    rw [show kindB 14 = 45 from rfl] at K1
    have hy : y = 0 := by rw [HY.out]; unfold ownW; rw [← HXP.out]; simp
    subst hy
    go_wp2_with fail
    refine (K1.out _).mono ?_
    rintro e w1 ⟨rfl, rfl⟩
    go_wp2_with fail
    go_ret
    exact ⟨rfl, HBA.out⟩
  · have K1 := hidd (fun w => Kind_any 15 w)
    rw [show kindB 15 = 45 from rfl] at K1
    have hy : y = 0 := by rw [HY.out]; unfold ownW; rw [← HXP.out]; simp
    subst hy
    go_wp2_with fail
    refine (K1.out _).mono ?_
    rintro e w1 ⟨rfl, rfl⟩
    go_wp2_with fail
    go_ret
    exact ⟨rfl, HBA.out⟩
end
end Go.Proofs.YtdnbingddbakaaaDoor
