/- Chapter 9: an instruction. -/
import Derived.Test.YthikdpclifeonaaGreatDoorK17
import Derived.Test.YthikdpclifeonaaGreatDoorK07
import Derived.Laws.EntriesVeiled
namespace Go.Proofs.YthikdpclifeonaaGreatDoor
set_option linter.unusedVariables false
set_option linter.unusedSimpArgs false
open Go.RowKit

set_option maxRecDepth 100000 in
set_option maxHeartbeats 1600000 in
theorem ins_num (C q b o : Nat) (x : In) (w : World) (hop : x.op = 1) (c0 : w.cell? ⟨b, o, none⟩ = some (.int .i64 x.op)) (c2 : w.cell? ⟨b, o + 2, none⟩ = some (.int .i64 x.n)) :
    Calls Tryz.prog 113 #[.pointer (some ⟨C, 0, none⟩), .int .i64 q, .pointer (some ⟨b, o, none⟩)] w fun r w' => r = .returned (.int .i64 (if -1000000000000000 ≤ x.n ∧ x.n ≤ 1000000000000000 then 0 else 3)) ∧ w' = w := by
  rw [hop] at c0
  clear hop
  generalize x.n = n at c2 ⊢
  have O := hidd (fun b w => otherwise_any b 3 w)
  by_cases h1 : -1000000000000000 ≤ n
  · by_cases h2 : n ≤ 1000000000000000
    · rw [if_pos ⟨h1, h2⟩]
      go_enter Tryz.func113, Tryz.ntmps113
      go_wp2_with fail
      refine (O.out true _).mono ?_
      rintro e w1 ⟨rfl, rfl⟩
      go_wp2_with fail
      go_ret
      exact ⟨rfl, rfl⟩
    · rw [if_neg (fun h => h2 h.2)]
      go_enter Tryz.func113, Tryz.ntmps113
      go_wp2_with fail
      refine (O.out false _).mono ?_
      rintro e w1 ⟨rfl, rfl⟩
      go_wp2_with fail
      go_ret
      exact ⟨rfl, rfl⟩
  · rw [if_neg (fun h => h1 h.1)]
    go_enter Tryz.func113, Tryz.ntmps113
    go_wp2_with fail
    refine (O.out false _).mono ?_
    rintro e w1 ⟨rfl, rfl⟩
    go_wp2_with fail
    go_ret
    exact ⟨rfl, rfl⟩
set_option maxRecDepth 100000 in
set_option maxHeartbeats 1600000 in
theorem ins_bool (C q b o : Nat) (x : In) (w : World) (hop : x.op = 2) (c0 : w.cell? ⟨b, o, none⟩ = some (.int .i64 x.op)) (c2 : w.cell? ⟨b, o + 2, none⟩ = some (.int .i64 x.n)) :
    Calls Tryz.prog 113 #[.pointer (some ⟨C, 0, none⟩), .int .i64 q, .pointer (some ⟨b, o, none⟩)] w fun r w' => r = .returned (.int .i64 (if x.n = 0 ∨ x.n = 1 then 0 else 3)) ∧ w' = w := by
  rw [hop] at c0
  clear hop
  generalize x.n = n at c2 ⊢
  have O := hidd (fun b w => otherwise_any b 3 w)
  by_cases h1 : n = 0
  · subst h1
    rw [if_pos (Or.inl rfl)]
    go_enter Tryz.func113, Tryz.ntmps113
    go_wp2_with fail
    refine (O.out true _).mono ?_
    rintro e w1 ⟨rfl, rfl⟩
    go_wp2_with fail
    go_ret
    exact ⟨rfl, rfl⟩
  · have h1' : (n == 0) = false := by simpa using h1
    by_cases h2 : n = 1
    · subst h2
      rw [if_pos (Or.inr rfl)]
      clear h1
      go_enter Tryz.func113, Tryz.ntmps113
      go_wp2_with fail
      refine (O.out true _).mono ?_
      rintro e w1 ⟨rfl, rfl⟩
      go_wp2_with fail
      go_ret
      exact ⟨rfl, rfl⟩
    · have h2' : (n == 1) = false := by simpa using h2
      rw [if_neg (fun h => h.elim h1 h2)]
      clear h1 h2
      go_enter Tryz.func113, Tryz.ntmps113
      go_wp2_with fail
      refine (O.out false _).mono ?_
      rintro e w1 ⟨rfl, rfl⟩
      go_wp2_with fail
      go_ret
      exact ⟨rfl, rfl⟩
set_option maxRecDepth 100000 in
set_option maxHeartbeats 1600000 in
theorem ins_rest (C q b o : Nat) (x : In) (w : World) (hop : x.op < 1 ∨ 15 < x.op ∨ x.op = 14 ∨ x.op = 15) (c0 : w.cell? ⟨b, o, none⟩ = some (.int .i64 x.op)) :
    Calls Tryz.prog 113 #[.pointer (some ⟨C, 0, none⟩), .int .i64 q, .pointer (some ⟨b, o, none⟩)] w fun r w' => r = .returned (.int .i64 (if x.op = 14 ∨ x.op = 15 then 0 else 1)) ∧ w' = w := by
  generalize x.op = p at *
  rcases hop with h | h | rfl | rfl
  · rw [if_neg (by omega)]
    go_enter Tryz.func113, Tryz.ntmps113
    go_wp2_with fail
    go_ret
    exact ⟨rfl, rfl⟩
  · rw [if_neg (by omega)]
    go_enter Tryz.func113, Tryz.ntmps113
    go_wp2_with fail
    go_ret
    exact ⟨rfl, rfl⟩
  · rw [if_pos (by omega)]
    go_enter Tryz.func113, Tryz.ntmps113
    go_wp2_with fail
    go_ret
    exact ⟨rfl, rfl⟩
  · rw [if_pos (by omega)]
    go_enter Tryz.func113, Tryz.ntmps113
    go_wp2_with fail
    go_ret
    exact ⟨rfl, rfl⟩
set_option maxRecDepth 100000 in
set_option maxHeartbeats 1600000 in
theorem ins_call (C q b o : Nat) (x : In) (w : World) (hop : x.op = 8) (c0 : w.cell? ⟨b, o, none⟩ = some (.int .i64 x.op)) (c1 : w.cell? ⟨b, o + 1, none⟩ = some (.int .i64 x.a)) :
    Calls Tryz.prog 113 #[.pointer (some ⟨C, 0, none⟩), .int .i64 q, .pointer (some ⟨b, o, none⟩)] w fun r w' => r = .returned (.int .i64 (if 0 ≤ x.a ∧ x.a < 2001 then 0 else 3)) ∧ w' = w := by
  rw [hop] at c0
  clear hop
  have B := hidd (below_any x.a 2001 w)
  generalize (if 0 ≤ x.a ∧ x.a < 2001 then (0 : Int) else 3) = y at B ⊢
  go_enter Tryz.func113, Tryz.ntmps113
  go_wp2_with fail
  refine B.out.mono ?_
  rintro e w1 ⟨rfl, rfl⟩
  go_wp2_with fail
  go_ret
  exact ⟨rfl, rfl⟩
set_option maxRecDepth 100000 in
set_option maxHeartbeats 1600000 in
theorem ins_global (C q b o : Nat) (x : In) (w : World) (hop : x.op = 5 ∨ x.op = 12 ∨ x.op = 13) (d3 : w.cell? ⟨C, 3, none⟩ = some (.func (.func 97) #[] #[])) (c0 : w.cell? ⟨b, o, none⟩ = some (.int .i64 x.op)) (h3 : w.cell? ⟨b, o + 3, none⟩ = some (.string x.lib)) (h4 : w.cell? ⟨b, o + 4, none⟩ = some (.string x.own)) (hl : x.lib.size ≤ maxLen) (ho : x.own.size ≤ maxLen) :
    Calls Tryz.prog 113 #[.pointer (some ⟨C, 0, none⟩), .int .i64 q, .pointer (some ⟨b, o, none⟩)] w fun r w' => r = .returned (.int .i64 (nameW x)) ∧ w' = w := by
  have N := hidd (wrongName_any x b o w h3 h4 hl ho)
  generalize nameW x = y at N ⊢
  generalize x.op = p at *
  clear h3 h4 hl ho
  rcases hop with rfl | rfl | rfl <;>
  · go_enter Tryz.func113, Tryz.ntmps113
    go_wp2_with fail
    refine N.out.mono ?_
    rintro e w1 ⟨rfl, rfl⟩
    go_wp2_with fail
    go_ret
    exact ⟨rfl, rfl⟩
set_option maxRecDepth 100000 in
set_option maxHeartbeats 1600000 in
theorem ins_local (C G q b o n kc : Nat) (K : Kn) (s : Bool) (ar : Int) (x : In) (w : World) (hop : x.op = 4 ∨ x.op = 11) (c0 : w.cell? ⟨b, o, none⟩ = some (.int .i64 x.op)) (c1 : w.cell? ⟨b, o + 1, none⟩ = some (.int .i64 x.a)) (d1 : w.cell? ⟨C, 1, none⟩ = some (.slice (some ⟨G, 0, none⟩) n kc))
    (hK : KR G K w) (hs : K[q]? = some (some (s, ar))) (hqn : q < n) (hn : n ≤ 20000) (hbw : b < w.heap.size) (hCw : C < w.heap.size) :
    Calls Tryz.prog 113 #[.pointer (some ⟨C, 0, none⟩), .int .i64 q, .pointer (some ⟨b, o, none⟩)] w fun r w' => r = .returned (.int .i64 (if 0 ≤ x.a ∧ x.a < ar then 0 else 3)) ∧ KR G K w' ∧ Keep G w w' := by
  have k2 := hK.cell (j := 2) hs (by omega) rfl
  simp only at k2
  have hGw : G < w.heap.size := (Array.getElem?_eq_some_iff.1 hK).1
  have KRW := hidd hK
  have BL := hidd (fun w => below_any x.a ar w)
  generalize (if 0 ≤ x.a ∧ x.a < ar then (0 : Int) else 3) = y at BL ⊢
  generalize x.op = p at *
  clear hK hs
  rcases hop with rfl | rfl
  all_goals
    go_enter Tryz.func113, Tryz.ntmps113
    go_upto_region 10 with fail
    refine wp_region_held_drew (S := fun u => Below w.heap.size w u) (by kernel_rfl) (Below.drew (Below.refl _ _)) (fun hS => ?_)
    refine wpAnyH_take (i := 0) (oi := { dst := some 53, op := Op.move (Operand.tmp 2), type := 120, pos := _, after := _, guard := none }) (v := .pointer (some ⟨b, o, none⟩)) rfl (by kernel_rfl) (by kernel_rfl) (by kernel_rfl) (fun _ _ _ h => h) (Or.inl ⟨by rfl, fun u hu => by go_simp⟩) hS ?_
    simp only [Act.put, List.setIfInBounds_toArray, List.set_cons_zero, List.set_cons_succ]
    refine wpAnyH_take (i := 1) (oi := { dst := some 54, op := Op.nilCheck (Operand.tmp 53), type := 0, pos := _, after := _, guard := none }) (v := .pointer (some ⟨b, o, none⟩)) rfl (by kernel_rfl) (by kernel_rfl) (by kernel_rfl) (fun _ _ _ h => h) (Or.inl ⟨by rfl, fun u hu => by go_simp⟩) hS ?_
    simp only [Act.put, List.setIfInBounds_toArray, List.set_cons_zero, List.set_cons_succ]
    refine wpAnyH_take (i := 2) (oi := { dst := some 55, op := Op.fieldAddr 84 (Operand.tmp 54) 1, type := 0, pos := _, after := _, guard := none }) (v := .pointer (some ⟨b, o + 1, none⟩)) rfl (by kernel_rfl) (by kernel_rfl) (by kernel_rfl) (fun _ _ _ h => h) (Or.inl ⟨by rfl, fun u hu => by go_simp⟩) hS ?_
    simp only [Act.put, List.setIfInBounds_toArray, List.set_cons_zero, List.set_cons_succ]
    refine wpAnyH_take (i := 3) (oi := { dst := some 56, op := Op.load 3 (Operand.tmp 55), type := 3, pos := _, after := _, guard := none }) (v := .int .i64 x.a) rfl (by kernel_rfl) (by kernel_rfl) (by kernel_rfl) (fun _ _ _ h => h) (Or.inl ⟨by rfl, fun u hu => by (have z := (hu.cell (p := ⟨b, o + 1, none⟩) hbw).trans c1; go_simp)⟩) hS ?_
    simp only [Act.put, List.setIfInBounds_toArray, List.set_cons_zero, List.set_cons_succ]
    refine wpAnyH_take (i := 4) (oi := { dst := some 57, op := Op.move (Operand.tmp 0), type := 230, pos := _, after := _, guard := none }) (v := .pointer (some ⟨C, 0, none⟩)) rfl (by kernel_rfl) (by kernel_rfl) (by kernel_rfl) (fun _ _ _ h => h) (Or.inl ⟨by rfl, fun u hu => by go_simp⟩) hS ?_
    simp only [Act.put, List.setIfInBounds_toArray, List.set_cons_zero, List.set_cons_succ]
    refine wpAnyH_take (i := 5) (oi := { dst := some 58, op := Op.nilCheck (Operand.tmp 57), type := 0, pos := _, after := _, guard := none }) (v := .pointer (some ⟨C, 0, none⟩)) rfl (by kernel_rfl) (by kernel_rfl) (by kernel_rfl) (fun _ _ _ h => h) (Or.inl ⟨by rfl, fun u hu => by go_simp⟩) hS ?_
    simp only [Act.put, List.setIfInBounds_toArray, List.set_cons_zero, List.set_cons_succ]
    refine wpAnyH_take (i := 6) (oi := { dst := some 59, op := Op.fieldAddr 186 (Operand.tmp 58) 1, type := 0, pos := _, after := _, guard := none }) (v := .pointer (some ⟨C, 1, none⟩)) rfl (by kernel_rfl) (by kernel_rfl) (by kernel_rfl) (fun _ _ _ h => h) (Or.inl ⟨by rfl, fun u hu => by go_simp⟩) hS ?_
    simp only [Act.put, List.setIfInBounds_toArray, List.set_cons_zero, List.set_cons_succ]
    refine wpAnyH_take (i := 7) (oi := { dst := some 60, op := Op.load 183 (Operand.tmp 59), type := 183, pos := _, after := _, guard := none }) (v := .slice (some ⟨G, 0, none⟩) n kc) rfl (by kernel_rfl) (by kernel_rfl) (by kernel_rfl) (fun _ _ _ h => h) (Or.inl ⟨by rfl, fun u hu => by (have z := (hu.cell (p := ⟨C, 1, none⟩) hCw).trans d1; go_simp)⟩) hS ?_
    simp only [Act.put, List.setIfInBounds_toArray, List.set_cons_zero, List.set_cons_succ]
    refine wpAnyH_take (i := 8) (oi := { dst := some 61, op := Op.move (Operand.tmp 1), type := 3, pos := _, after := _, guard := none }) (v := .int .i64 q) rfl (by kernel_rfl) (by kernel_rfl) (by kernel_rfl) (fun _ _ _ h => h) (Or.inl ⟨by rfl, fun u hu => by go_simp⟩) hS ?_
    simp only [Act.put, List.setIfInBounds_toArray, List.set_cons_zero, List.set_cons_succ]
    refine wpAnyH_take (i := 9) (oi := { dst := some 62, op := Op.indexAddr 183 (Operand.tmp 60) (Operand.tmp 61), type := 0, pos := _, after := _, guard := none }) (v := .pointer (some ⟨G, q * 3, none⟩)) rfl (by kernel_rfl) (by kernel_rfl) (by kernel_rfl) (fun _ _ _ h => h) (Or.inl ⟨by rfl, fun u hu => by go_simp⟩) hS ?_
    simp only [Act.put, List.setIfInBounds_toArray, List.set_cons_zero, List.set_cons_succ]
    refine wpAnyH_take (i := 10) (oi := { dst := some 63, op := Op.fieldAddr 232 (Operand.tmp 62) 2, type := 0, pos := _, after := _, guard := none }) (v := .pointer (some ⟨G, q * 3 + 2, none⟩)) rfl (by kernel_rfl) (by kernel_rfl) (by kernel_rfl) (fun _ _ _ h => h) (Or.inl ⟨by rfl, fun u hu => by go_simp⟩) hS ?_
    simp only [Act.put, List.setIfInBounds_toArray, List.set_cons_zero, List.set_cons_succ]
    refine wpAnyH_take (i := 11) (oi := { dst := some 64, op := Op.load 3 (Operand.tmp 63), type := 3, pos := _, after := _, guard := none }) (v := .int .i64 ar) rfl (by kernel_rfl) (by kernel_rfl) (by kernel_rfl) (fun _ _ _ h => h) (Or.inl ⟨by rfl, fun u hu => by (have z := (hu.cell (p := ⟨G, q * 3 + 2, none⟩) hGw).trans k2; go_simp)⟩) hS ?_
    simp only [Act.put, List.setIfInBounds_toArray, List.set_cons_zero, List.set_cons_succ]
    refine wpAnyH_ready (rs := [12]) (by kernel_rfl) (by simp) (AllReadyH.cons (o := { dst := some 65, op := Op.call { callee := Callee.value (Operand.func 39), args := #[Operand.tmp 56, Operand.tmp 64], argTypes := #[3, 3] }, type := 30, pos := _, after := _, guard := none }) rfl (fun K hK => ?_) AllReadyH.nil)
    go_simp
    refine (BL.out w.drew).mono ?_
    rintro e W1 ⟨rfl, rfl⟩
    show K _ _
    refine hK.out _ _ hS (fun hS => ?_)
    clear hK K
    refine wpAnyH_take (i := 13) (oi := { dst := some 6, op := Op.assign (Operand.tmp 65), type := 30, pos := _, after := _, guard := none }) (v := .int .i64 y) rfl (by kernel_rfl) (by kernel_rfl) (by kernel_rfl) (fun _ _ _ h => h) (Or.inl ⟨by rfl, fun u hu => by go_simp⟩) hS ?_
    simp only [Act.put, List.setIfInBounds_toArray, List.set_cons_zero, List.set_cons_succ]
    refine wpAnyH_done (by kernel_rfl) ?_ _
    go_wp2_with fail
    go_ret
    exact ⟨rfl, KRW.out.keep hS, Keep.below (Keep.refl _ _) hS⟩
set_option maxRecDepth 100000 in
set_option maxHeartbeats 1600000 in
theorem ins_jump (C G q b o n pb po pc m cc : Nat) (ca : Option Addr) (K : Kn) (x : In) (w : World) (hop : x.op = 9 ∨ x.op = 10) (c0 : w.cell? ⟨b, o, none⟩ = some (.int .i64 x.op)) (c1 : w.cell? ⟨b, o + 1, none⟩ = some (.int .i64 x.a)) (d0 : w.cell? ⟨C, 0, none⟩ = some (.slice (some ⟨pb, po, none⟩) n pc)) (p1 : w.cell? ⟨pb, po + q * 2 + 1, none⟩ = some (.slice ca m cc))
    (hK : KR G K w) (hqn : q < n) (hn : n ≤ 20000) (hbw : b < w.heap.size) (hCw : C < w.heap.size) (hpw : pb < w.heap.size) :
    Calls Tryz.prog 113 #[.pointer (some ⟨C, 0, none⟩), .int .i64 q, .pointer (some ⟨b, o, none⟩)] w fun r w' => r = .returned (.int .i64 (if 0 ≤ x.a ∧ x.a < m then 0 else 3)) ∧ KR G K w' ∧ Keep G w w' := by
  have KRW := hidd hK
  have BL := hidd (fun w => below_any x.a m w)
  generalize (if 0 ≤ x.a ∧ x.a < m then (0 : Int) else 3) = y at BL ⊢
  generalize x.op = p at *
  clear hK
  rcases hop with rfl | rfl
  all_goals
    go_enter Tryz.func113, Tryz.ntmps113
    go_upto_region 23 with fail
    refine wp_region_held_drew (S := fun u => Below w.heap.size w u) (by kernel_rfl) (Below.drew (Below.refl _ _)) (fun hS => ?_)
    refine wpAnyH_take (i := 0) (oi := { dst := some 107, op := Op.move (Operand.tmp 2), type := 120, pos := _, after := _, guard := none }) (v := .pointer (some ⟨b, o, none⟩)) rfl (by kernel_rfl) (by kernel_rfl) (by kernel_rfl) (fun _ _ _ h => h) (Or.inl ⟨by rfl, fun u hu => by go_simp⟩) hS ?_
    simp only [Act.put, List.setIfInBounds_toArray, List.set_cons_zero, List.set_cons_succ]
    refine wpAnyH_take (i := 1) (oi := { dst := some 108, op := Op.nilCheck (Operand.tmp 107), type := 0, pos := _, after := _, guard := none }) (v := .pointer (some ⟨b, o, none⟩)) rfl (by kernel_rfl) (by kernel_rfl) (by kernel_rfl) (fun _ _ _ h => h) (Or.inl ⟨by rfl, fun u hu => by go_simp⟩) hS ?_
    simp only [Act.put, List.setIfInBounds_toArray, List.set_cons_zero, List.set_cons_succ]
    refine wpAnyH_take (i := 2) (oi := { dst := some 109, op := Op.fieldAddr 84 (Operand.tmp 108) 1, type := 0, pos := _, after := _, guard := none }) (v := .pointer (some ⟨b, o + 1, none⟩)) rfl (by kernel_rfl) (by kernel_rfl) (by kernel_rfl) (fun _ _ _ h => h) (Or.inl ⟨by rfl, fun u hu => by go_simp⟩) hS ?_
    simp only [Act.put, List.setIfInBounds_toArray, List.set_cons_zero, List.set_cons_succ]
    refine wpAnyH_take (i := 3) (oi := { dst := some 110, op := Op.load 3 (Operand.tmp 109), type := 3, pos := _, after := _, guard := none }) (v := .int .i64 x.a) rfl (by kernel_rfl) (by kernel_rfl) (by kernel_rfl) (fun _ _ _ h => h) (Or.inl ⟨by rfl, fun u hu => by (have z := (hu.cell (p := ⟨b, o + 1, none⟩) hbw).trans c1; go_simp)⟩) hS ?_
    simp only [Act.put, List.setIfInBounds_toArray, List.set_cons_zero, List.set_cons_succ]
    refine wpAnyH_take (i := 4) (oi := { dst := some 111, op := Op.move (Operand.tmp 0), type := 230, pos := _, after := _, guard := none }) (v := .pointer (some ⟨C, 0, none⟩)) rfl (by kernel_rfl) (by kernel_rfl) (by kernel_rfl) (fun _ _ _ h => h) (Or.inl ⟨by rfl, fun u hu => by go_simp⟩) hS ?_
    simp only [Act.put, List.setIfInBounds_toArray, List.set_cons_zero, List.set_cons_succ]
    refine wpAnyH_take (i := 5) (oi := { dst := some 112, op := Op.nilCheck (Operand.tmp 111), type := 0, pos := _, after := _, guard := none }) (v := .pointer (some ⟨C, 0, none⟩)) rfl (by kernel_rfl) (by kernel_rfl) (by kernel_rfl) (fun _ _ _ h => h) (Or.inl ⟨by rfl, fun u hu => by go_simp⟩) hS ?_
    simp only [Act.put, List.setIfInBounds_toArray, List.set_cons_zero, List.set_cons_succ]
    refine wpAnyH_take (i := 6) (oi := { dst := some 113, op := Op.fieldAddr 186 (Operand.tmp 112) 0, type := 0, pos := _, after := _, guard := none }) (v := .pointer (some ⟨C, 0, none⟩)) rfl (by kernel_rfl) (by kernel_rfl) (by kernel_rfl) (fun _ _ _ h => h) (Or.inl ⟨by rfl, fun u hu => by go_simp⟩) hS ?_
    simp only [Act.put, List.setIfInBounds_toArray, List.set_cons_zero, List.set_cons_succ]
    refine wpAnyH_take (i := 7) (oi := { dst := some 114, op := Op.load 23 (Operand.tmp 113), type := 23, pos := _, after := _, guard := none }) (v := .slice (some ⟨pb, po, none⟩) n pc) rfl (by kernel_rfl) (by kernel_rfl) (by kernel_rfl) (fun _ _ _ h => h) (Or.inl ⟨by rfl, fun u hu => by (have z := (hu.cell (p := ⟨C, 0, none⟩) hCw).trans d0; go_simp)⟩) hS ?_
    simp only [Act.put, List.setIfInBounds_toArray, List.set_cons_zero, List.set_cons_succ]
    refine wpAnyH_take (i := 8) (oi := { dst := some 115, op := Op.move (Operand.tmp 1), type := 3, pos := _, after := _, guard := none }) (v := .int .i64 q) rfl (by kernel_rfl) (by kernel_rfl) (by kernel_rfl) (fun _ _ _ h => h) (Or.inl ⟨by rfl, fun u hu => by go_simp⟩) hS ?_
    simp only [Act.put, List.setIfInBounds_toArray, List.set_cons_zero, List.set_cons_succ]
    refine wpAnyH_take (i := 9) (oi := { dst := some 116, op := Op.indexAddr 23 (Operand.tmp 114) (Operand.tmp 115), type := 0, pos := _, after := _, guard := none }) (v := .pointer (some ⟨pb, po + q * 2, none⟩)) rfl (by kernel_rfl) (by kernel_rfl) (by kernel_rfl) (fun _ _ _ h => h) (Or.inl ⟨by rfl, fun u hu => by go_simp⟩) hS ?_
    simp only [Act.put, List.setIfInBounds_toArray, List.set_cons_zero, List.set_cons_succ]
    refine wpAnyH_take (i := 10) (oi := { dst := some 117, op := Op.fieldAddr 86 (Operand.tmp 116) 1, type := 0, pos := _, after := _, guard := none }) (v := .pointer (some ⟨pb, po + q * 2 + 1, none⟩)) rfl (by kernel_rfl) (by kernel_rfl) (by kernel_rfl) (fun _ _ _ h => h) (Or.inl ⟨by rfl, fun u hu => by go_simp⟩) hS ?_
    simp only [Act.put, List.setIfInBounds_toArray, List.set_cons_zero, List.set_cons_succ]
    refine wpAnyH_take (i := 11) (oi := { dst := some 118, op := Op.load 59 (Operand.tmp 117), type := 59, pos := _, after := _, guard := none }) (v := .slice ca m cc) rfl (by kernel_rfl) (by kernel_rfl) (by kernel_rfl) (fun _ _ _ h => h) (Or.inl ⟨by rfl, fun u hu => by (have z := (hu.cell (p := ⟨pb, po + q * 2 + 1, none⟩) hpw).trans p1; go_simp)⟩) hS ?_
    simp only [Act.put, List.setIfInBounds_toArray, List.set_cons_zero, List.set_cons_succ]
    refine wpAnyH_take (i := 12) (oi := { dst := some 119, op := Op.call { callee := Callee.builtin Builtin.len, args := #[Operand.tmp 118], argTypes := #[59] }, type := 3, pos := _, after := _, guard := none }) (v := .int .i64 m) rfl (by kernel_rfl) (by kernel_rfl) (by kernel_rfl) (fun _ _ _ h => h) (Or.inl ⟨by rfl, fun u hu => by go_simp⟩) hS ?_
    simp only [Act.put, List.setIfInBounds_toArray, List.set_cons_zero, List.set_cons_succ]
    refine wpAnyH_ready (rs := [13]) (by kernel_rfl) (by simp) (AllReadyH.cons (o := { dst := some 120, op := Op.call { callee := Callee.value (Operand.func 39), args := #[Operand.tmp 110, Operand.tmp 119], argTypes := #[3, 3] }, type := 30, pos := _, after := _, guard := none }) rfl (fun K hK => ?_) AllReadyH.nil)
    go_simp
    refine (BL.out w.drew).mono ?_
    rintro e W1 ⟨rfl, rfl⟩
    show K _ _
    refine hK.out _ _ hS (fun hS => ?_)
    clear hK K
    refine wpAnyH_take (i := 14) (oi := { dst := some 6, op := Op.assign (Operand.tmp 120), type := 30, pos := _, after := _, guard := none }) (v := .int .i64 y) rfl (by kernel_rfl) (by kernel_rfl) (by kernel_rfl) (fun _ _ _ h => h) (Or.inl ⟨by rfl, fun u hu => by go_simp⟩) hS ?_
    simp only [Act.put, List.setIfInBounds_toArray, List.set_cons_zero, List.set_cons_succ]
    refine wpAnyH_done (by kernel_rfl) ?_ _
    go_wp2_with fail
    go_ret
    exact ⟨rfl, KRW.out.keep hS, Keep.below (Keep.refl _ _) hS⟩
theorem prim_cell {R : Nat} {w : World} (h : w.heap[R]? = some (.cells (primNames.map Value.string).toArray 9 (0, 0))) (j : Nat) (hj : j < primNames.length) : w.cell? ⟨R, 0 + j, none⟩ = some (.string (primNames.getD j ByteArray.empty)) := by
  rw [Nat.zero_add]
  simp only [World.cell?, h]
  simp [List.getD_eq_getElem?_getD, List.getElem?_eq_getElem hj]
set_option maxRecDepth 100000 in
set_option maxHeartbeats 1600000 in
theorem ins_prim (C G R q b o : Nat) (K : Kn) (x : In) (w : World) (hop : x.op = 6) (c0 : w.cell? ⟨b, o, none⟩ = some (.int .i64 x.op)) (c4 : w.cell? ⟨b, o + 4, none⟩ = some (.string x.own)) (d2 : w.cell? ⟨C, 2, none⟩ = some (.slice (some ⟨R, 0, none⟩) 13 13)) (hR : w.heap[R]? = some (.cells (primNames.map Value.string).toArray 9 (0, 0)))
    (hK : KR G K w) (hbw : b < w.heap.size) (hCw : C < w.heap.size) :
    Calls Tryz.prog 113 #[.pointer (some ⟨C, 0, none⟩), .int .i64 q, .pointer (some ⟨b, o, none⟩)] w fun r w' => r = .returned (.int .i64 (if argsB x.own = 0 then 7 else 0)) ∧ KR G K w' ∧ Keep G w w' := by
  have KRW := hidd hK
  have CT : Hid (∀ u, Below w.heap.size w u → Calls Tryz.prog 133 #[.slice (some ⟨R, 0, none⟩) 13 13, .string x.own] u fun e w' => e = .returned (.bool (decide (argsB x.own ≠ 0))) ∧ w' = u) := fun u hu => by
    have h := Tryz.slices_Contains_string R 0 13 13 primNames x.own u (by decide) (by decide) (fun j hj => prim_cell ((hu.block _ (Array.getElem?_eq_some_iff.1 hR).1).trans hR) j hj)
    rw [show primNames.take 13 = primNames from rfl, prim_has] at h
    exact h
  have OT : Hid (∀ u, Calls Tryz.prog 83 #[.bool (decide (argsB x.own ≠ 0)), .int .i64 7] u fun e w' => e = .returned (.int .i64 (if argsB x.own = 0 then 7 else 0)) ∧ w' = u) := fun u => by
    have h := otherwise_any (decide (argsB x.own ≠ 0)) 7 u
    have e : (if decide (argsB x.own ≠ 0) = true then (0 : Int) else 7) = if argsB x.own = 0 then 7 else 0 := by
      by_cases h0 : argsB x.own = 0 <;> simp [h0]
    rw [e] at h
    exact h
  generalize (if argsB x.own = 0 then (7 : Int) else 0) = y at OT ⊢
  generalize decide (argsB x.own ≠ 0) = bb at CT OT
  generalize x.op = p at *
  subst hop
  clear hK hR
  go_enter Tryz.func113, Tryz.ntmps113
  go_upto_region 16 with fail
  refine wp_region_held_drew (S := fun u => Below w.heap.size w u) (by kernel_rfl) (Below.drew (Below.refl _ _)) (fun hS => ?_)
  refine wpAnyH_take (i := 0) (oi := { dst := some 78, op := Op.move (Operand.tmp 0), type := 230, pos := _, after := _, guard := none }) (v := .pointer (some ⟨C, 0, none⟩)) rfl (by kernel_rfl) (by kernel_rfl) (by kernel_rfl) (fun _ _ _ h => h) (Or.inl ⟨by rfl, fun u hu => by go_simp⟩) hS ?_
  simp only [Act.put, List.setIfInBounds_toArray, List.set_cons_zero, List.set_cons_succ]
  refine wpAnyH_take (i := 1) (oi := { dst := some 79, op := Op.nilCheck (Operand.tmp 78), type := 0, pos := _, after := _, guard := none }) (v := .pointer (some ⟨C, 0, none⟩)) rfl (by kernel_rfl) (by kernel_rfl) (by kernel_rfl) (fun _ _ _ h => h) (Or.inl ⟨by rfl, fun u hu => by go_simp⟩) hS ?_
  simp only [Act.put, List.setIfInBounds_toArray, List.set_cons_zero, List.set_cons_succ]
  refine wpAnyH_take (i := 2) (oi := { dst := some 80, op := Op.fieldAddr 186 (Operand.tmp 79) 2, type := 0, pos := _, after := _, guard := none }) (v := .pointer (some ⟨C, 2, none⟩)) rfl (by kernel_rfl) (by kernel_rfl) (by kernel_rfl) (fun _ _ _ h => h) (Or.inl ⟨by rfl, fun u hu => by go_simp⟩) hS ?_
  simp only [Act.put, List.setIfInBounds_toArray, List.set_cons_zero, List.set_cons_succ]
  refine wpAnyH_take (i := 3) (oi := { dst := some 81, op := Op.load 27 (Operand.tmp 80), type := 27, pos := _, after := _, guard := none }) (v := .slice (some ⟨R, 0, none⟩) 13 13) rfl (by kernel_rfl) (by kernel_rfl) (by kernel_rfl) (fun _ _ _ h => h) (Or.inl ⟨by rfl, fun u hu => by (have z := (hu.cell (p := ⟨C, 2, none⟩) hCw).trans d2; go_simp)⟩) hS ?_
  simp only [Act.put, List.setIfInBounds_toArray, List.set_cons_zero, List.set_cons_succ]
  refine wpAnyH_take (i := 4) (oi := { dst := some 82, op := Op.move (Operand.tmp 2), type := 120, pos := _, after := _, guard := none }) (v := .pointer (some ⟨b, o, none⟩)) rfl (by kernel_rfl) (by kernel_rfl) (by kernel_rfl) (fun _ _ _ h => h) (Or.inl ⟨by rfl, fun u hu => by go_simp⟩) hS ?_
  simp only [Act.put, List.setIfInBounds_toArray, List.set_cons_zero, List.set_cons_succ]
  refine wpAnyH_take (i := 5) (oi := { dst := some 83, op := Op.nilCheck (Operand.tmp 82), type := 0, pos := _, after := _, guard := none }) (v := .pointer (some ⟨b, o, none⟩)) rfl (by kernel_rfl) (by kernel_rfl) (by kernel_rfl) (fun _ _ _ h => h) (Or.inl ⟨by rfl, fun u hu => by go_simp⟩) hS ?_
  simp only [Act.put, List.setIfInBounds_toArray, List.set_cons_zero, List.set_cons_succ]
  refine wpAnyH_take (i := 6) (oi := { dst := some 84, op := Op.fieldAddr 84 (Operand.tmp 83) 4, type := 0, pos := _, after := _, guard := none }) (v := .pointer (some ⟨b, o + 4, none⟩)) rfl (by kernel_rfl) (by kernel_rfl) (by kernel_rfl) (fun _ _ _ h => h) (Or.inl ⟨by rfl, fun u hu => by go_simp⟩) hS ?_
  simp only [Act.put, List.setIfInBounds_toArray, List.set_cons_zero, List.set_cons_succ]
  refine wpAnyH_take (i := 7) (oi := { dst := some 85, op := Op.load 9 (Operand.tmp 84), type := 9, pos := _, after := _, guard := none }) (v := .string x.own) rfl (by kernel_rfl) (by kernel_rfl) (by kernel_rfl) (fun _ _ _ h => h) (Or.inl ⟨by rfl, fun u hu => by (have z := (hu.cell (p := ⟨b, o + 4, none⟩) hbw).trans c4; go_simp)⟩) hS ?_
  simp only [Act.put, List.setIfInBounds_toArray, List.set_cons_zero, List.set_cons_succ]
  refine wpAnyH_ready (rs := [8]) (by kernel_rfl) (by simp) (AllReadyH.cons (o := { dst := some 86, op := Op.call { callee := Callee.value (Operand.func 133), args := #[Operand.tmp 81, Operand.tmp 85], argTypes := #[27, 9] }, type := 4, pos := _, after := _, guard := none }) rfl (fun K hK => ?_) AllReadyH.nil)
  go_simp
  refine (CT.out w.drew hS).mono ?_
  rintro e W1 ⟨rfl, rfl⟩
  show K _ _
  refine hK.out _ _ hS (fun hS => ?_)
  clear hK K
  refine wpAnyH_ready (rs := [9]) (by kernel_rfl) (by simp) (AllReadyH.cons (o := { dst := some 87, op := Op.call { callee := Callee.value (Operand.func 83), args := #[Operand.tmp 86, Operand.const (Value.int IntKind.i64 7)], argTypes := #[4, 30] }, type := 30, pos := _, after := _, guard := none }) rfl (fun K hK => ?_) AllReadyH.nil)
  go_simp
  refine (OT.out w.drew).mono ?_
  rintro e W2 ⟨rfl, rfl⟩
  show K _ _
  refine hK.out _ _ hS (fun hS => ?_)
  clear hK K
  refine wpAnyH_take (i := 10) (oi := { dst := some 6, op := Op.assign (Operand.tmp 87), type := 30, pos := _, after := _, guard := none }) (v := .int .i64 y) rfl (by kernel_rfl) (by kernel_rfl) (by kernel_rfl) (fun _ _ _ h => h) (Or.inl ⟨by rfl, fun u hu => by go_simp⟩) hS ?_
  simp only [Act.put, List.setIfInBounds_toArray, List.set_cons_zero, List.set_cons_succ]
  refine wpAnyH_done (by kernel_rfl) ?_ _
  go_wp2_with fail
  go_ret
  exact ⟨rfl, KRW.out.keep hS, Keep.below (Keep.refl _ _) hS⟩
set_option maxRecDepth 100000 in
set_option maxHeartbeats 1600000 in
theorem ins_quote (B C G q b o : Nat) (K : Kn) (x : In) (qa : Option Addr) (qc : Nat) (w : World) (hop : x.op = 3) (h : IL B w b o x qa qc) (hB : B ≤ w.heap.size) (hK : KR G K w) :
    Calls Tryz.prog 113 #[.pointer (some ⟨C, 0, none⟩), .int .i64 q, .pointer (some ⟨b, o, none⟩)] w fun r w' => r = .returned (.int .i64 (wrong [x.quote]).1) ∧ KR G K w' ∧ Keep G w w' := by
  obtain ⟨c0, c1, c2, c3, c4, c5, c6, c7, c8, c9, c10, l3, l4, l7, lq, f, hk⟩ := h
  have KRW := hidd hK
  have WR : Hid (Calls Tryz.prog 132 #[.slice (some ⟨w.heap.size, 0, none⟩) 1 1] (w.alloc (.cells #[.int .i64 x.quote.kind, .int .i64 x.quote.n, .string x.quote.name, .int .i64 x.quote.stamp, .int .i64 x.quote.lib, .slice qa x.quote.kids.length qc] 82)) fun e w' => e = .returned (fv (wrong [x.quote])) ∧ Below (w.alloc (.cells #[.int .i64 x.quote.kind, .int .i64 x.quote.n, .string x.quote.name, .int .i64 x.quote.stamp, .int .i64 x.quote.lib, .slice qa x.quote.kids.length qc] 82)).heap.size (w.alloc (.cells #[.int .i64 x.quote.kind, .int .i64 x.quote.n, .string x.quote.name, .int .i64 x.quote.stamp, .int .i64 x.quote.lib, .slice qa x.quote.kids.length qc] 82)) w') :=
    Wrong_any (w.heap.size + 1) (f + 1) [x.quote] (some ⟨w.heap.size, 0, none⟩) 1 _ (Lies.one (cap := qc) hB (Dc.lies (fun _ h => h) _ _ _ hk) l7) (by simp)
  have HA := hidd ((Below.refl w.heap.size w).alloc (Nat.le_refl _) (.cells #[.int .i64 x.quote.kind, .int .i64 x.quote.n, .string x.quote.name, .int .i64 x.quote.stamp, .int .i64 x.quote.lib, .slice qa x.quote.kids.length qc] 82))
  clear hk l3 l4 l7 lq hK
  rw [hop] at c0
  clear hop
  generalize wrong [x.quote] = y at WR ⊢
  obtain ⟨y1, y2⟩ := y
  unfold fv at WR
  simp only at WR ⊢
  have FF := field_fault y1 y2
  go_enter Tryz.func113, Tryz.ntmps113
  go_wp2_with fail
  refine WR.out.mono ?_
  rintro e w2 ⟨rfl, hb2⟩
  have HB := hidd (HA.out.trans (hb2.mono (by simp)))
  clear hb2
  go_wp2_with fail
  go_ret
  exact ⟨rfl, KRW.out.keep HB.out, Keep.below (Keep.refl _ _) HB.out⟩
end Go.Proofs.YthikdpclifeonaaGreatDoor
