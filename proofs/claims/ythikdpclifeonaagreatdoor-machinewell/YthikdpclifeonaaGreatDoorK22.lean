/- Chapter 11: globals by number. Chapter 11: WHAT machine.Wrong TELLS. -/
import Derived.BigQuiet
import Derived.Test.YthikdpclifeonaaGreatDoorK20
namespace Go.Proofs.YthikdpclifeonaaGreatDoor
section
set_option linter.unusedVariables false
set_option linter.unusedSimpArgs false
open Go.RowKit

/-- What is wrong with a global's number. -/
def numG (ng : Int) (x : In) : Int := if 0 ≤ x.a ∧ x.a < ng then 0 else 3
set_option maxRecDepth 100000 in
set_option maxHeartbeats 1600000 in
theorem numbered_38 (N b o : Nat) (a ng : Int) (w : World) (c1 : w.cell? ⟨b, o + 1, none⟩ = some (.int .i64 a)) (n0 : w.cell? ⟨N, 0, none⟩ = some (.int .i64 ng)) :
    Calls Tryz.prog 38 #[.pointer (some ⟨b, o, none⟩), .pointer (some ⟨N, 0, none⟩)] w fun r w' => r = .returned (.int .i64 (if 0 ≤ a ∧ a < ng then 0 else 3)) ∧ Below w.heap.size w w' := by
  have BL := hidd (fun w => below_any a ng w)
  generalize (if 0 ≤ a ∧ a < ng then (0 : Int) else 3) = y at BL ⊢
  go_enter Tryz.func38, Tryz.ntmps38
  go_wp2_with fail
  go_region_with (go_at_call 39; refine (BL.out _).mono ?_; rintro e w1 ⟨rfl, rfl⟩)
  all_goals
    go_wp2_with fail
    go_ret
    exact ⟨rfl, Below.drew (Below.refl _ _)⟩
set_option maxRecDepth 100000 in
set_option maxHeartbeats 1600000 in
theorem ins_numbered (C q b o N : Nat) (x : In) (ng : Int) (w : World) (hop : x.op = 5 ∨ x.op = 12 ∨ x.op = 13) (d3 : w.cell? ⟨C, 3, none⟩ = some (.func (.func 38) #[] #[.pointer (some ⟨N, 0, none⟩)])) (c0 : w.cell? ⟨b, o, none⟩ = some (.int .i64 x.op)) (c1 : w.cell? ⟨b, o + 1, none⟩ = some (.int .i64 x.a)) (n0 : w.cell? ⟨N, 0, none⟩ = some (.int .i64 ng)) :
    Calls Tryz.prog 113 #[.pointer (some ⟨C, 0, none⟩), .int .i64 q, .pointer (some ⟨b, o, none⟩)] w fun r w' => r = .returned (.int .i64 (numG ng x)) ∧ Below w.heap.size w w' := by
  have HN := hidd (numbered_38 N b o x.a ng w c1 n0)
  unfold numG
  generalize (if 0 ≤ x.a ∧ x.a < ng then (0 : Int) else 3) = y at HN ⊢
  generalize x.op = p at *
  clear c1 n0
  rcases hop with rfl | rfl | rfl <;>
  · go_enter Tryz.func113, Tryz.ntmps113
    go_wp2_with fail
    refine HN.out.mono ?_
    rintro e w1 ⟨rfl, hb⟩
    go_wp2_with fail
    go_ret
    exact ⟨rfl, hb⟩
theorem glOk_numbered (N : Nat) (ng : Int) (W0 : World) (hN : N < W0.heap.size) (n0 : W0.cell? ⟨N, 0, none⟩ = some (.int .i64 ng)) : GlOk W0.heap.size W0 (.func (.func 38) #[] #[.pointer (some ⟨N, 0, none⟩)]) (numG ng) := fun C q b o x qa qc w hw o5 d3 hx => ins_numbered C q b o N x ng w o5 d3 hx.c0 hx.c1 ((hw.cell (p := ⟨N, 0, none⟩) hN).trans n0)
theorem NL.up {w w' : World} {a : Option Addr} {l : List Int} (h : NL w.heap.size w a l) (hb : Below w.heap.size w w') (hlt : w.heap.size < w'.heap.size) : NL w'.heap.size w' a l := by
  rcases h with h | ⟨b, o, h1, h2, h3⟩
  · exact Or.inl h
  · exact Or.inr ⟨b, o, h1, Nat.lt_trans h2 hlt, fun i v hv => (hb.cell (p := ⟨b, o + i, none⟩) h2).trans (h3 i v hv)⟩
set_option maxRecDepth 100000 in
set_option maxHeartbeats 1600000 in
/-- WHAT object.WrongNumbered TELLS. -/
theorem WrongNumbered_any (PP : List Pro) (bs : List Int) (ng : Int) (pa ba : Option Addr) (pc bc : Nat) (w : World) (hl : PL w.heap.size w pa PP) (hpc : PP.length ≤ pc) (hn : PP.length ≤ 20000) (hbs : NL w.heap.size w ba bs) (hbn : bs.length ≤ 20000) (hbc : bs.length ≤ bc) (htab : TabS w) :
    Calls Tryz.prog 20 #[.slice pa PP.length pc, .slice ba bs.length bc, .int .i64 ng] w fun r w' => r = .returned (.int .i64 (wrongPs PP bs (numG ng))) ∧ Below w.heap.size w w' := by
  have hb : Below w.heap.size w (w.alloc (.cells #[.int .i64 ng] 3)) := (Below.refl _ _).alloc (Nat.le_refl _) _
  have hlt : w.heap.size < (w.alloc (.cells #[.int .i64 ng] 3)).heap.size := by simp
  have n0 : (w.alloc (.cells #[.int .i64 ng] 3)).cell? ⟨w.heap.size, 0, none⟩ = some (.int .i64 ng) := by simp [go_sem]
  have hmf : ∀ (fn : Fn) (first cap : Array Value) (w : World), (Instr.makeFunc fn first cap).run Tryz.prog w = .ok (.func fn first cap) w := fun _ _ _ _ => rfl
  have HW := hidd (wrongProtos_any (gv := .func (.func 38) #[] #[.pointer (some ⟨w.heap.size, 0, none⟩)]) (gl := numG ng) ⟨_, _, _, rfl⟩ PP bs pa ba pc bc (w.alloc (.cells #[.int .i64 ng] 3)) (glOk_numbered w.heap.size ng _ hlt n0) ((hl.below hb).mono (Nat.le_of_lt hlt)) hpc hn (NL.up hbs hb hlt) hbn hbc (htab.below hb))
  generalize wrongPs PP bs (numG ng) = y at HW ⊢
  generalize PP.length = np at *
  generalize bs.length = nb at *
  have HB := hidd hb
  clear hl hpc hn hbs hbn hbc htab hb hlt n0
  go_enter Tryz.func20, Tryz.ntmps20
  go_wp2_with fail
  refine HW.out.mono ?_
  rintro e w1 ⟨rfl, hb1⟩
  go_wp2_with fail
  go_ret
  exact ⟨rfl, HB.out.trans (hb1.mono (by simp))⟩
end
section
set_option linter.unusedVariables false
set_option linter.unusedSimpArgs false
open Go.RowKit

/-- What is wrong with the starts, the least that may be next. -/
def startsW (np : Int) : Int → List Int → Int
  | _, [] => 0
  | l, s :: r => if s < l ∨ np ≤ s then 3 else startsW np (s + 1) r
/-- WHAT IS WRONG WITH AN IMAGE. -/
def wrongI (ng : Nat) (PP : List Pro) (ss : List Int) : Int :=
  if 500 < ng ∨ 40 < ss.length ∨ 20000 < PP.length then 5
  else if startsW PP.length 0 ss = 0 then wrongPs PP ss (numG ng) else 3
theorem startsW_drop {np l : Int} {ss : List Int} {j : Nat} {s : Int} (h : ss[j]? = some s) : startsW np l (ss.drop j) = if s < l ∨ np ≤ s then 3 else startsW np (s + 1) (ss.drop (j + 1)) := by
  obtain ⟨hi, e⟩ := List.getElem?_eq_some_iff.1 h
  rw [List.drop_eq_getElem_cons hi, e, startsW]
set_option maxRecDepth 100000 in
set_option maxHeartbeats 3200000 in
theorem Wrong9_any (ng : Nat) (PP : List Pro) (ss : List Int) (ga pa ba : Option Addr) (gc pc bc : Nat) (w : World) (hl : PL w.heap.size w pa PP) (hpc : PP.length ≤ pc) (hbs : NL w.heap.size w ba ss) (hbc : ss.length ≤ bc) (htab : TabS w) :
    Calls Tryz.prog 9 #[.agg #[.slice ga ng gc, .slice pa PP.length pc, .slice ba ss.length bc]] w fun e w' => e = .returned (.int .i64 (wrongI ng PP ss)) ∧ Below w.heap.size w w' := by
  have hb : Below w.heap.size w (w.alloc (.cells #[.slice ga ng gc, .slice pa PP.length pc, .slice ba ss.length bc] 26)) := (Below.refl _ _).alloc (Nat.le_refl _) _
  have hlt : w.heap.size < (w.alloc (.cells #[.slice ga ng gc, .slice pa PP.length pc, .slice ba ss.length bc] 26)).heap.size := by simp
  have HB := hidd hb
  by_cases hA : 500 < ng
  · have e : wrongI ng PP ss = 5 := by unfold wrongI; rw [if_pos (Or.inl hA)]
    rw [e]
    have a1 : (500 : Int) < (ng : Int) := by omega
    have a2 : decide ((ng : Int) > 500) = true := by simpa using a1
    clear e hl hpc hbs hbc htab hb hlt
    go_enter Tryz.func9, Tryz.ntmps9
    go_wp2_with fail
    go_ret
    exact ⟨rfl, HB.out⟩
  by_cases hC : 40 < ss.length
  · have e : wrongI ng PP ss = 5 := by unfold wrongI; rw [if_pos (Or.inr (Or.inl hC))]
    rw [e]
    have a1 : ¬ (500 : Int) < (ng : Int) := by omega
    have a2 : decide ((ng : Int) > 500) = false := by simp; omega
    have b1 : (40 : Int) < (ss.length : Int) := by omega
    have b2 : decide ((ss.length : Int) > 40) = true := by simpa using b1
    clear e hl hpc hbs hbc htab hb hlt
    generalize ss.length = n at *
    go_enter Tryz.func9, Tryz.ntmps9
    go_wp2_with fail
    go_ret
    exact ⟨rfl, HB.out⟩
  by_cases hD : 20000 < PP.length
  · have e : wrongI ng PP ss = 5 := by unfold wrongI; rw [if_pos (Or.inr (Or.inr hD))]
    rw [e]
    have a1 : ¬ (500 : Int) < (ng : Int) := by omega
    have a2 : decide ((ng : Int) > 500) = false := by simp; omega
    have b1 : ¬ (40 : Int) < (ss.length : Int) := by omega
    have b2 : decide ((ss.length : Int) > 40) = false := by simp; omega
    have c1 : (20000 : Int) < (PP.length : Int) := by omega
    have c2 : decide ((PP.length : Int) > 20000) = true := by simpa using c1
    clear e hl hpc hbs hbc htab hb hlt
    generalize ss.length = n at *
    generalize PP.length = k at *
    go_enter Tryz.func9, Tryz.ntmps9
    go_wp2_with fail
    go_ret
    exact ⟨rfl, HB.out⟩
  have a1 : ¬ (500 : Int) < (ng : Int) := by omega
  have a2 : decide ((ng : Int) > 500) = false := by simp; omega
  have b1 : ¬ (40 : Int) < (ss.length : Int) := by omega
  have b2 : decide ((ss.length : Int) > 40) = false := by simp; omega
  have c1 : ¬ (20000 : Int) < (PP.length : Int) := by omega
  have c2 : decide ((PP.length : Int) > 20000) = false := by simp; omega
  have e : wrongI ng PP ss = if startsW PP.length 0 ss = 0 then wrongPs PP ss (numG ng) else 3 := by unfold wrongI; rw [if_neg (by omega)]
  rw [e]
  have HW := hidd (WrongNumbered_any PP ss ng pa ba pc bc (w.alloc (.cells #[.slice ga ng gc, .slice pa PP.length pc, .slice ba ss.length bc] 26)) ((hl.below hb).mono (Nat.le_of_lt hlt)) hpc (by omega) (NL.up hbs hb hlt) (by omega) hbc (htab.below hb))
  obtain ⟨W0, hW0⟩ : ∃ W0, W0 = w.alloc (.cells #[.slice ga ng gc, .slice pa PP.length pc, .slice ba ss.length bc] 26) := ⟨_, rfl⟩
  have HS : Hid (∀ (j : Nat) (s : Int), ss[j]? = some s → ∃ b o, ba = some ⟨b, o, none⟩ ∧ W0.cell? ⟨b, o + j, none⟩ = some (.int .i64 s)) := fun j s hj => by
    rcases hbs with h | ⟨b, o, h1, h2, h3⟩
    · rw [h] at hj; simp at hj
    · exact ⟨b, o, h1, by rw [hW0]; exact (hb.cell (p := ⟨b, o + j, none⟩) h2).trans (h3 j s hj)⟩
  obtain ⟨rs, hrs⟩ : ∃ rs, rs = if startsW PP.length 0 ss = 0 then wrongPs PP ss (numG ng) else 3 := ⟨_, rfl⟩
  rw [← hrs]
  have HRS := hidd hrs
  obtain ⟨n, hn⟩ : ∃ n, n = ss.length := ⟨_, rfl⟩
  obtain ⟨k, hk⟩ : ∃ k, k = PP.length := ⟨_, rfl⟩
  have HN := hidd hn
  have HK := hidd hk
  have q0 : W0.cell? ⟨w.heap.size, 0, none⟩ = some (.slice ga ng gc) := by rw [hW0]; simp [go_sem]
  have q1 : W0.cell? ⟨w.heap.size, 1, none⟩ = some (.slice pa PP.length pc) := by rw [hW0]; simp [go_sem]
  have q2 : W0.cell? ⟨w.heap.size, 2, none⟩ = some (.slice ba ss.length bc) := by rw [hW0]; simp [go_sem]
  rw [← hW0] at HB HW
  rw [← hn] at b1 b2 q2 HW hW0
  rw [← hk] at c1 c2 q1 HW hW0
  have hn4 : n ≤ 40 := by omega
  have hk4 : k ≤ 20000 := by omega
  rw [← hn, ← hk]
  have hw0 := hW0.symm
  clear e hl hpc hbs hbc htab hb hlt hrs hn hk hA hC hD hW0
  go_enter Tryz.func9, Tryz.ntmps9
  go_wp2_with fail
  go_loopw [3, 25] (fun l ix wr => ∃ (j : Nat) (lv : Int), j ≤ n ∧ ix = .int .i64 j ∧ l = .int .i64 lv ∧ wr = W0 ∧ 0 ≤ lv ∧ lv ≤ 20000 ∧ Hid (rs = if startsW PP.length lv (ss.drop j) = 0 then wrongPs PP ss (numG ng) else 3)) (fun _ ix _ => n - (intOf ix).toNat)
  case atStart => exact ⟨0, 0, Nat.zero_le _, rfl, rfl, rfl, by omega, by omega, HRS.out⟩
  case round =>
    obtain ⟨j, lv, hj, rfl, rfl, rfl, l0, l9, HR⟩ := hrel
    by_cases hlt : j < n
    · obtain ⟨s, hs⟩ : ∃ s, ss[j]? = some s := ⟨_, List.getElem?_eq_getElem (by rw [← HN.out]; exact hlt)⟩
      obtain ⟨b, o, rfl, ks⟩ := HS.out j s hs
      have HD := hidd (startsW_drop (np := PP.length) (l := lv) hs)
      clear hs
      by_cases h1 : s < lv
      · have d1 : decide (s < lv) = true := by simpa using h1
        have hrs : rs = 3 := by rw [HR.out, HD.out, if_pos (Or.inl h1), if_neg (by decide)]
        subst hrs
        clear HD HR
        go_wp2_with fail
        go_ret
        exact ⟨rfl, HB.out⟩
      · have d1 : decide (s < lv) = false := by simpa using h1
        by_cases h2 : (k : Int) ≤ s
        · have d2 : decide (s ≥ (k : Int)) = true := by simpa using h2
          have hrs : rs = 3 := by rw [HR.out, HD.out, if_pos (Or.inr (by rw [← HK.out]; exact h2)), if_neg (by decide)]
          subst hrs
          clear HD HR
          go_wp2_with fail
          go_ret
          exact ⟨rfl, HB.out⟩
        · have d2 : decide (s ≥ (k : Int)) = false := by simp; omega
          have s0 : 0 ≤ s := by omega
          have s9 : s ≤ 20000 := by omega
          have HX : Hid (rs = if startsW PP.length (s + 1) (ss.drop (j + 1)) = 0 then wrongPs PP ss (numG ng) else 3) := by
            have := HR.out
            rw [HD.out, if_neg (show ¬ (s < lv ∨ ((PP.length : Nat) : Int) ≤ s) by rw [← HK.out]; omega)] at this
            exact this
          clear HD HR
          go_wp2_with fail
          go_roundw
          case rel => exact ⟨j + 1, s + 1, hlt, by go_num, by go_num, trivial, by omega, by omega, HX.out⟩
          case measure => simp [intOf]; omega
    · obtain rfl : j = n := by omega
      have hrs : rs = wrongPs PP ss (numG ng) := by rw [HR.out, List.drop_eq_nil_of_le (by rw [← HN.out]; exact Nat.le_refl _), startsW, if_pos rfl]
      rw [← hrs] at HW
      clear hrs HR HRS
      go_wp2_with fail
      refine HW.out.mono ?_
      rintro e w1 ⟨rfl, hb1⟩
      have HB1 := hidd hb1
      clear hb1
      go_wp2_with fail
      go_ret
      exact ⟨rfl, HB.out.trans (HB1.out.mono HB.out.size)⟩
end
end Go.Proofs.YthikdpclifeonaaGreatDoor
