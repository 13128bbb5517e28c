/- The document's SameProtos, where both are the same. -/
import Derived.Test.YtfmanhkeclogfaaGreatDoorK42
import Derived.Test.YtfmanhkeclogfaaGreatDoorK33
namespace Go.Proofs.YtfmanhkeclogfaaGreatDoor
set_option linter.unusedVariables false
set_option linter.unusedSimpArgs false
open Go.RowKit

theorem alike_refl {B : Nat} {w : World} : ∀ (f : Nat) (a : Option Addr) (xs : List Dat), Lies B w f a xs → Alike f xs xs
  | 0, a, xs, h => ⟨h, h⟩
  | f + 1, a, xs, h => by
    refine ⟨rfl, fun i d e hd he => ?_⟩
    rw [hd] at he
    obtain rfl := Option.some.inj he
    have hne : xs ≠ [] := by intro e; subst e; cases hd
    obtain ⟨f', b, o, hf, ha, hbB, hall⟩ := h.at hne
    obtain ⟨a', cap', _, _, _, _, _, _, _, hk⟩ := hall i d hd
    obtain rfl : f' = f := by omega
    exact ⟨rfl, fun _ => rfl, fun _ => ⟨rfl, rfl, rfl⟩, fun _ => alike_refl f' a' _ hk⟩
theorem Equal_self (B f g : Nat) (d : Dat) (a a2 : Option Addr) (cap cap2 : Nat) (w : World) (hB : B ≤ w.heap.size) (hl : Lies B w f a d.kids) (hm : Lies B w g a2 d.kids) : Calls Tryz.prog 66 #[dv d a cap, dv d a2 cap2] w (Yes w) :=
  Equal_any B f g d d a a2 cap cap2 w hB hl hm ⟨rfl, fun _ => rfl, fun _ => ⟨rfl, rfl, rfl⟩, fun _ => alike_refl f a _ hl⟩ fun g xs ys a b cap cb w hB hl hm hx => Same_any B f g xs ys a b cap cb w hB hl hm hx
/-- An instruction's cells. -/
structure Ic (w : World) (b o : Nat) (x : In) (qa : Option Addr) (qc : Nat) : Prop where
  c0 : w.cell? ⟨b, o, none⟩ = some (.int .i64 x.op)
  c1 : w.cell? ⟨b, o + 1, none⟩ = some (.int .i64 x.a)
  c2 : w.cell? ⟨b, o + 2, none⟩ = some (.int .i64 x.n)
  c3 : w.cell? ⟨b, o + 3, none⟩ = some (.string x.lib)
  c4 : w.cell? ⟨b, o + 4, none⟩ = some (.string x.own)
  c5 : w.cell? ⟨b, o + 5, none⟩ = some (.int .i64 x.quote.kind)
  c6 : w.cell? ⟨b, o + 6, none⟩ = some (.int .i64 x.quote.n)
  c7 : w.cell? ⟨b, o + 7, none⟩ = some (.string x.quote.name)
  c8 : w.cell? ⟨b, o + 8, none⟩ = some (.int .i64 x.quote.stamp)
  c9 : w.cell? ⟨b, o + 9, none⟩ = some (.int .i64 x.quote.lib)
  c10 : w.cell? ⟨b, o + 10, none⟩ = some (.slice qa x.quote.kids.length qc)

theorem IL.ic {B : Nat} {w : World} {b o : Nat} {x : In} {qa : Option Addr} {qc : Nat} (h : IL B w b o x qa qc) : Ic w b o x qa qc := ⟨h.c0, h.c1, h.c2, h.c3, h.c4, h.c5, h.c6, h.c7, h.c8, h.c9, h.c10⟩
set_option maxRecDepth 100000 in
set_option maxHeartbeats 6400000 in
theorem SameP_any (pa qa : Option Addr) (pc qc : Nat) (ps : List Pro) (w : World) (hp : PL w.heap.size w pa ps) (hq : PL w.heap.size w qa ps) (hn : ps.length ≤ 1000000000) (hm : ∀ p ∈ ps, p.code.length ≤ 1000000000) (hpc : ps.length ≤ pc) (hqc : ps.length ≤ qc) :
    Calls Tryz.prog 37 #[.slice pa ps.length pc, .slice qa ps.length qc] w (Yes w) := by
  have AT : Hid (∀ j, j < ps.length → ∃ (b b2 o1 o2 n cc cc2 : Nat) (ca ca2 : Option Addr) (args : Int), pa = some ⟨b, o1, none⟩ ∧ qa = some ⟨b2, o2, none⟩ ∧ b < w.heap.size ∧ b2 < w.heap.size ∧ w.cell? ⟨b, o1 + j * 2, none⟩ = some (.int .i64 args) ∧ w.cell? ⟨b, o1 + j * 2 + 1, none⟩ = some (.slice ca n cc) ∧ w.cell? ⟨b2, o2 + j * 2, none⟩ = some (.int .i64 args) ∧ w.cell? ⟨b2, o2 + j * 2 + 1, none⟩ = some (.slice ca2 n cc2) ∧ n ≤ cc ∧ n ≤ cc2 ∧ n ≤ 1000000000 ∧
      ∀ k, k < n → ∃ (x : In) (c c2 g1 g2 : Nat) (ea ea2 : Option Addr) (ec ec2 : Nat), ca = some ⟨c, g1, none⟩ ∧ ca2 = some ⟨c2, g2, none⟩ ∧ c < w.heap.size ∧ c2 < w.heap.size ∧ Ic w c (g1 + k * 11) x ea ec ∧ Ic w c2 (g2 + k * 11) x ea2 ec2 ∧ ∀ W, Below w.heap.size w W → Calls Tryz.prog 66 #[dv x.quote ea ec, dv x.quote ea2 ec2] W (Yes W)) := by
    intro j hj
    obtain ⟨p, hp1⟩ : ∃ p, ps[j]? = some p := ⟨ps[j], List.getElem?_eq_getElem hj⟩
    obtain ⟨b, o1, e1, hb, h1⟩ := hp.at hp1
    obtain ⟨b2, o2, e2, hb2, h2⟩ := hq.at hp1
    obtain ⟨ca, cc, d0, d1, d2, d3⟩ := h1 j p hp1
    obtain ⟨ca2, cc2, f0, f1, f2, f3⟩ := h2 j p hp1
    refine ⟨b, b2, o1, o2, p.code.length, cc, cc2, ca, ca2, p.args, e1, e2, hb, hb2, d0, d1, f0, f1, d2, f2, hm p (List.mem_of_getElem? hp1), fun k hk => ?_⟩
    obtain ⟨x, hx⟩ : ∃ x, p.code[k]? = some x := ⟨p.code[k], List.getElem?_eq_getElem hk⟩
    rcases d3 with d3 | ⟨c, g1, i1, i2, i3⟩
    · rw [d3] at hk; simp at hk
    rcases f3 with f3 | ⟨c2, g2, j1, j2, j3⟩
    · rw [f3] at hk; simp at hk
    obtain ⟨ea, ec, l1⟩ := i3 k x hx
    obtain ⟨ea2, ec2, l2⟩ := j3 k x hx
    obtain ⟨f, m1⟩ := l1.lk
    obtain ⟨f', m2⟩ := l2.lk
    exact ⟨x, c, c2, g1, g2, ea, ea2, ec, ec2, i1, j1, i2, j2, l1.ic, l2.ic, fun W hb => Equal_self w.heap.size f f' x.quote ea ea2 ec ec2 W hb.size ((Dc.lies (fun _ h => h) _ _ _ m1).below hb) ((Dc.lies (fun _ h => h) _ _ _ m2).below hb)⟩
  obtain ⟨n0, hn0⟩ : ∃ n, n = ps.length := ⟨_, rfl⟩
  rw [← hn0] at AT hn hpc hqc ⊢
  clear hp hq hm hn0
  go_enter Tryz.func37, Tryz.ntmps37
  go_wp2_with fail
  go_loopw [16] (fun ix wr => ∃ j : Nat, j ≤ n0 ∧ ix = .int .i64 j ∧ Hid (Below w.heap.size w wr)) (fun ix _ => n0 - (intOf ix).toNat)
  case atStart => exact ⟨0, Nat.zero_le _, rfl, Below.refl _ _⟩
  case round =>
    obtain ⟨j, hj, rfl, HR⟩ := hrel
    by_cases hlt : j < n0
    · obtain ⟨b, b2, o1, o2, n, cc, cc2, ca, ca2, args, rfl, rfl, hb, hb2, d0, d1, f0, f1, hc1, hc2, hn6, hin⟩ := AT.out j hlt
      have IN := hidd hin
      clear hin
      go_upto_region 6 with fail
      refine wp_region_held_drew (S := fun u => Below w.heap.size w u) (by kernel_rfl) (Below.drew HR.out) (fun hS => ?_)
      refine wpAnyH_take (i := 0) (oi := { dst := some 19, op := Op.move (Operand.tmp 0), type := 22, pos := _, after := _, guard := none }) (v := .slice (some ⟨b, o1, none⟩) n0 pc) rfl (by kernel_rfl) (by kernel_rfl) (by kernel_rfl) (fun _ _ _ h => h) (Or.inl ⟨by rfl, fun u hu => by go_simp⟩) hS ?_
      simp only [Act.put, List.setIfInBounds_toArray, List.set_cons_zero, List.set_cons_succ]
      refine wpAnyH_take (i := 1) (oi := { dst := some 20, op := Op.move (Operand.tmp 5), type := 3, pos := _, after := _, guard := none }) (v := .int .i64 j) rfl (by kernel_rfl) (by kernel_rfl) (by kernel_rfl) (fun _ _ _ h => h) (Or.inl ⟨by rfl, fun u hu => by go_simp⟩) hS ?_
      simp only [Act.put, List.setIfInBounds_toArray, List.set_cons_zero, List.set_cons_succ]
      refine wpAnyH_take (i := 2) (oi := { dst := some 21, op := Op.indexAddr 22 (Operand.tmp 19) (Operand.tmp 20), type := 0, pos := _, after := _, guard := none }) (v := .pointer (some ⟨b, o1 + j * 2, none⟩)) rfl (by kernel_rfl) (by kernel_rfl) (by kernel_rfl) (fun _ _ _ h => h) (Or.inl ⟨by rfl, fun u hu => by go_simp⟩) hS ?_
      simp only [Act.put, List.setIfInBounds_toArray, List.set_cons_zero, List.set_cons_succ]
      refine wpAnyH_take (i := 3) (oi := { dst := some 22, op := Op.fieldAddr 47 (Operand.tmp 21) 0, type := 0, pos := _, after := _, guard := none }) (v := .pointer (some ⟨b, o1 + j * 2, none⟩)) rfl (by kernel_rfl) (by kernel_rfl) (by kernel_rfl) (fun _ _ _ h => h) (Or.inl ⟨by rfl, fun u hu => by go_simp⟩) hS ?_
      simp only [Act.put, List.setIfInBounds_toArray, List.set_cons_zero, List.set_cons_succ]
      refine wpAnyH_take (i := 4) (oi := { dst := some 23, op := Op.load 3 (Operand.tmp 22), type := 3, pos := _, after := _, guard := none }) (v := .int .i64 args) rfl (by kernel_rfl) (by kernel_rfl) (by kernel_rfl) (fun _ _ _ h => h) (Or.inl ⟨by rfl, fun u hu => by (have z := (hu.cell (p := ⟨b, o1 + j * 2, none⟩) hb).trans d0; go_simp)⟩) hS ?_
      simp only [Act.put, List.setIfInBounds_toArray, List.set_cons_zero, List.set_cons_succ]
      refine wpAnyH_take (i := 5) (oi := { dst := some 24, op := Op.move (Operand.tmp 1), type := 22, pos := _, after := _, guard := none }) (v := .slice (some ⟨b2, o2, none⟩) n0 qc) rfl (by kernel_rfl) (by kernel_rfl) (by kernel_rfl) (fun _ _ _ h => h) (Or.inl ⟨by rfl, fun u hu => by go_simp⟩) hS ?_
      simp only [Act.put, List.setIfInBounds_toArray, List.set_cons_zero, List.set_cons_succ]
      refine wpAnyH_take (i := 6) (oi := { dst := some 25, op := Op.move (Operand.tmp 5), type := 3, pos := _, after := _, guard := none }) (v := .int .i64 j) rfl (by kernel_rfl) (by kernel_rfl) (by kernel_rfl) (fun _ _ _ h => h) (Or.inl ⟨by rfl, fun u hu => by go_simp⟩) hS ?_
      simp only [Act.put, List.setIfInBounds_toArray, List.set_cons_zero, List.set_cons_succ]
      refine wpAnyH_take (i := 7) (oi := { dst := some 26, op := Op.indexAddr 22 (Operand.tmp 24) (Operand.tmp 25), type := 0, pos := _, after := _, guard := none }) (v := .pointer (some ⟨b2, o2 + j * 2, none⟩)) rfl (by kernel_rfl) (by kernel_rfl) (by kernel_rfl) (fun _ _ _ h => h) (Or.inl ⟨by rfl, fun u hu => by go_simp⟩) hS ?_
      simp only [Act.put, List.setIfInBounds_toArray, List.set_cons_zero, List.set_cons_succ]
      refine wpAnyH_take (i := 8) (oi := { dst := some 27, op := Op.fieldAddr 47 (Operand.tmp 26) 0, type := 0, pos := _, after := _, guard := none }) (v := .pointer (some ⟨b2, o2 + j * 2, none⟩)) rfl (by kernel_rfl) (by kernel_rfl) (by kernel_rfl) (fun _ _ _ h => h) (Or.inl ⟨by rfl, fun u hu => by go_simp⟩) hS ?_
      simp only [Act.put, List.setIfInBounds_toArray, List.set_cons_zero, List.set_cons_succ]
      refine wpAnyH_take (i := 9) (oi := { dst := some 28, op := Op.load 3 (Operand.tmp 27), type := 3, pos := _, after := _, guard := none }) (v := .int .i64 args) rfl (by kernel_rfl) (by kernel_rfl) (by kernel_rfl) (fun _ _ _ h => h) (Or.inl ⟨by rfl, fun u hu => by (have z := (hu.cell (p := ⟨b2, o2 + j * 2, none⟩) hb2).trans f0; go_simp)⟩) hS ?_
      simp only [Act.put, List.setIfInBounds_toArray, List.set_cons_zero, List.set_cons_succ]
      refine wpAnyH_take (i := 10) (oi := { dst := some 29, op := Op.binOp BinOp.neq 3 (Operand.tmp 23) (Operand.tmp 28) 3, type := 4, pos := _, after := _, guard := none }) (v := .bool false) rfl (by kernel_rfl) (by kernel_rfl) (by kernel_rfl) (fun _ _ _ h => h) (Or.inl ⟨by rfl, fun u hu => by go_simp⟩) hS ?_
      simp only [Act.put, List.setIfInBounds_toArray, List.set_cons_zero, List.set_cons_succ]
      refine wpAnyH_take (i := 11) (oi := { dst := some 30, op := Op.move (Operand.tmp 29), type := 4, pos := _, after := _, guard := none }) (v := .bool false) rfl (by kernel_rfl) (by kernel_rfl) (by kernel_rfl) (fun _ _ _ h => h) (Or.inl ⟨by rfl, fun u hu => by go_simp⟩) hS ?_
      simp only [Act.put, List.setIfInBounds_toArray, List.set_cons_zero, List.set_cons_succ]
      refine wpAnyH_take (i := 12) (oi := { dst := some 31, op := Op.move (Operand.tmp 0), type := 22, pos := _, after := _, guard := some (11, false) }) (v := .slice (some ⟨b, o1, none⟩) n0 pc) rfl (by kernel_rfl) (by kernel_rfl) (by kernel_rfl) (fun _ _ _ h => h) (Or.inl ⟨by rfl, fun u hu => by go_simp⟩) hS ?_
      simp only [Act.put, List.setIfInBounds_toArray, List.set_cons_zero, List.set_cons_succ]
      refine wpAnyH_take (i := 13) (oi := { dst := some 32, op := Op.move (Operand.tmp 5), type := 3, pos := _, after := _, guard := some (11, false) }) (v := .int .i64 j) rfl (by kernel_rfl) (by kernel_rfl) (by kernel_rfl) (fun _ _ _ h => h) (Or.inl ⟨by rfl, fun u hu => by go_simp⟩) hS ?_
      simp only [Act.put, List.setIfInBounds_toArray, List.set_cons_zero, List.set_cons_succ]
      refine wpAnyH_take (i := 14) (oi := { dst := some 33, op := Op.indexAddr 22 (Operand.tmp 31) (Operand.tmp 32), type := 0, pos := _, after := _, guard := some (11, false) }) (v := .pointer (some ⟨b, o1 + j * 2, none⟩)) rfl (by kernel_rfl) (by kernel_rfl) (by kernel_rfl) (fun _ _ _ h => h) (Or.inl ⟨by rfl, fun u hu => by go_simp⟩) hS ?_
      simp only [Act.put, List.setIfInBounds_toArray, List.set_cons_zero, List.set_cons_succ]
      refine wpAnyH_take (i := 15) (oi := { dst := some 34, op := Op.fieldAddr 47 (Operand.tmp 33) 1, type := 0, pos := _, after := _, guard := some (11, false) }) (v := .pointer (some ⟨b, o1 + j * 2 + 1, none⟩)) rfl (by kernel_rfl) (by kernel_rfl) (by kernel_rfl) (fun _ _ _ h => h) (Or.inl ⟨by rfl, fun u hu => by go_simp⟩) hS ?_
      simp only [Act.put, List.setIfInBounds_toArray, List.set_cons_zero, List.set_cons_succ]
      refine wpAnyH_take (i := 16) (oi := { dst := some 35, op := Op.load 45 (Operand.tmp 34), type := 45, pos := _, after := _, guard := some (11, false) }) (v := .slice ca n cc) rfl (by kernel_rfl) (by kernel_rfl) (by kernel_rfl) (fun _ _ _ h => h) (Or.inl ⟨by rfl, fun u hu => by (have z := (hu.cell (p := ⟨b, o1 + j * 2 + 1, none⟩) hb).trans d1; go_simp)⟩) hS ?_
      simp only [Act.put, List.setIfInBounds_toArray, List.set_cons_zero, List.set_cons_succ]
      refine wpAnyH_take (i := 17) (oi := { dst := some 36, op := Op.call { callee := Callee.builtin Builtin.len, args := #[Operand.tmp 35], argTypes := #[45] }, type := 3, pos := _, after := _, guard := some (11, false) }) (v := .int .i64 n) rfl (by kernel_rfl) (by kernel_rfl) (by kernel_rfl) (fun _ _ _ h => h) (Or.inl ⟨by rfl, fun u hu => by go_simp⟩) hS ?_
      simp only [Act.put, List.setIfInBounds_toArray, List.set_cons_zero, List.set_cons_succ]
      refine wpAnyH_take (i := 18) (oi := { dst := some 37, op := Op.move (Operand.tmp 1), type := 22, pos := _, after := _, guard := some (11, false) }) (v := .slice (some ⟨b2, o2, none⟩) n0 qc) rfl (by kernel_rfl) (by kernel_rfl) (by kernel_rfl) (fun _ _ _ h => h) (Or.inl ⟨by rfl, fun u hu => by go_simp⟩) hS ?_
      simp only [Act.put, List.setIfInBounds_toArray, List.set_cons_zero, List.set_cons_succ]
      refine wpAnyH_take (i := 19) (oi := { dst := some 38, op := Op.move (Operand.tmp 5), type := 3, pos := _, after := _, guard := some (11, false) }) (v := .int .i64 j) rfl (by kernel_rfl) (by kernel_rfl) (by kernel_rfl) (fun _ _ _ h => h) (Or.inl ⟨by rfl, fun u hu => by go_simp⟩) hS ?_
      simp only [Act.put, List.setIfInBounds_toArray, List.set_cons_zero, List.set_cons_succ]
      refine wpAnyH_take (i := 20) (oi := { dst := some 39, op := Op.indexAddr 22 (Operand.tmp 37) (Operand.tmp 38), type := 0, pos := _, after := _, guard := some (11, false) }) (v := .pointer (some ⟨b2, o2 + j * 2, none⟩)) rfl (by kernel_rfl) (by kernel_rfl) (by kernel_rfl) (fun _ _ _ h => h) (Or.inl ⟨by rfl, fun u hu => by go_simp⟩) hS ?_
      simp only [Act.put, List.setIfInBounds_toArray, List.set_cons_zero, List.set_cons_succ]
      refine wpAnyH_take (i := 21) (oi := { dst := some 40, op := Op.fieldAddr 47 (Operand.tmp 39) 1, type := 0, pos := _, after := _, guard := some (11, false) }) (v := .pointer (some ⟨b2, o2 + j * 2 + 1, none⟩)) rfl (by kernel_rfl) (by kernel_rfl) (by kernel_rfl) (fun _ _ _ h => h) (Or.inl ⟨by rfl, fun u hu => by go_simp⟩) hS ?_
      simp only [Act.put, List.setIfInBounds_toArray, List.set_cons_zero, List.set_cons_succ]
      refine wpAnyH_take (i := 22) (oi := { dst := some 41, op := Op.load 45 (Operand.tmp 40), type := 45, pos := _, after := _, guard := some (11, false) }) (v := .slice ca2 n cc2) rfl (by kernel_rfl) (by kernel_rfl) (by kernel_rfl) (fun _ _ _ h => h) (Or.inl ⟨by rfl, fun u hu => by (have z := (hu.cell (p := ⟨b2, o2 + j * 2 + 1, none⟩) hb2).trans f1; go_simp)⟩) hS ?_
      simp only [Act.put, List.setIfInBounds_toArray, List.set_cons_zero, List.set_cons_succ]
      refine wpAnyH_take (i := 23) (oi := { dst := some 42, op := Op.call { callee := Callee.builtin Builtin.len, args := #[Operand.tmp 41], argTypes := #[45] }, type := 3, pos := _, after := _, guard := some (11, false) }) (v := .int .i64 n) rfl (by kernel_rfl) (by kernel_rfl) (by kernel_rfl) (fun _ _ _ h => h) (Or.inl ⟨by rfl, fun u hu => by go_simp⟩) hS ?_
      simp only [Act.put, List.setIfInBounds_toArray, List.set_cons_zero, List.set_cons_succ]
      refine wpAnyH_take (i := 24) (oi := { dst := some 43, op := Op.binOp BinOp.neq 3 (Operand.tmp 36) (Operand.tmp 42) 3, type := 4, pos := _, after := _, guard := some (11, false) }) (v := .bool false) rfl (by kernel_rfl) (by kernel_rfl) (by kernel_rfl) (fun _ _ _ h => h) (Or.inl ⟨by rfl, fun u hu => by go_simp⟩) hS ?_
      simp only [Act.put, List.setIfInBounds_toArray, List.set_cons_zero, List.set_cons_succ]
      refine wpAnyH_take (i := 25) (oi := { dst := some 44, op := Op.pick (Operand.tmp 30) (Operand.const (Value.bool true)) (Operand.tmp 43), type := 4, pos := _, after := _, guard := none }) (v := .bool false) rfl (by kernel_rfl) (by kernel_rfl) (by kernel_rfl) (fun _ _ _ h => h) (Or.inl ⟨by rfl, fun u hu => by go_simp⟩) hS ?_
      simp only [Act.put, List.setIfInBounds_toArray, List.set_cons_zero, List.set_cons_succ]
      refine wpAnyH_done (by kernel_rfl) ?_ _
      have HS6 : Hid (Below w.heap.size w wr.drew) := hS
      clear hS HR
      generalize wr.drew = wr at HS6 ⊢
      have r1 : wr.cell? ⟨b, o1 + j * 2 + 1, none⟩ = some (.slice ca n cc) := (HS6.out.cell (p := ⟨b, o1 + j * 2 + 1, none⟩) hb).trans d1
      go_wp2_with fail
      clear r1
      go_loopw [51] (fun ix wr => ∃ k : Nat, k ≤ n ∧ ix = .int .i64 k ∧ Hid (Below w.heap.size w wr)) (fun ix _ => n - (intOf ix).toNat)
      case atStart => exact ⟨0, Nat.zero_le _, rfl, HS6.out⟩
      case round =>
        obtain ⟨k, hk, rfl, HR⟩ := hrel
        by_cases hlk : k < n
        · obtain ⟨x, c, c2, g1, g2, ea, ea2, ec, ec2, e1, e2, hc3, hc4, ix, iy, ec0⟩ := IN.out k hlk
          have IX := hidd ix
          have IY := hidd iy
          have EC := hidd ec0
          unfold dv at EC
          clear ix iy ec0 IN
          rw [e1] at d1
          rw [e2] at f1
          clear e1 e2
          go_upto_region 11 with fail
          refine wp_region_held_drew (S := fun u => Below w.heap.size w u) (by kernel_rfl) (Below.drew HR.out) (fun hS => ?_)
          refine wpAnyH_take (i := 0) (oi := { dst := some 54, op := Op.move (Operand.tmp 0), type := 22, pos := _, after := _, guard := none }) (v := .slice (some ⟨b, o1, none⟩) n0 pc) rfl (by kernel_rfl) (by kernel_rfl) (by kernel_rfl) (fun _ _ _ h => h) (Or.inl ⟨by rfl, fun u hu => by go_simp⟩) hS ?_
          simp only [Act.put, List.setIfInBounds_toArray, List.set_cons_zero, List.set_cons_succ]
          refine wpAnyH_take (i := 1) (oi := { dst := some 55, op := Op.move (Operand.tmp 5), type := 3, pos := _, after := _, guard := none }) (v := .int .i64 j) rfl (by kernel_rfl) (by kernel_rfl) (by kernel_rfl) (fun _ _ _ h => h) (Or.inl ⟨by rfl, fun u hu => by go_simp⟩) hS ?_
          simp only [Act.put, List.setIfInBounds_toArray, List.set_cons_zero, List.set_cons_succ]
          refine wpAnyH_take (i := 2) (oi := { dst := some 56, op := Op.indexAddr 22 (Operand.tmp 54) (Operand.tmp 55), type := 0, pos := _, after := _, guard := none }) (v := .pointer (some ⟨b, o1 + j * 2, none⟩)) rfl (by kernel_rfl) (by kernel_rfl) (by kernel_rfl) (fun _ _ _ h => h) (Or.inl ⟨by rfl, fun u hu => by go_simp⟩) hS ?_
          simp only [Act.put, List.setIfInBounds_toArray, List.set_cons_zero, List.set_cons_succ]
          refine wpAnyH_take (i := 3) (oi := { dst := some 57, op := Op.fieldAddr 47 (Operand.tmp 56) 1, type := 0, pos := _, after := _, guard := none }) (v := .pointer (some ⟨b, o1 + j * 2 + 1, none⟩)) rfl (by kernel_rfl) (by kernel_rfl) (by kernel_rfl) (fun _ _ _ h => h) (Or.inl ⟨by rfl, fun u hu => by go_simp⟩) hS ?_
          simp only [Act.put, List.setIfInBounds_toArray, List.set_cons_zero, List.set_cons_succ]
          refine wpAnyH_take (i := 4) (oi := { dst := some 58, op := Op.load 45 (Operand.tmp 57), type := 45, pos := _, after := _, guard := none }) (v := .slice (some ⟨c, g1, none⟩) n cc) rfl (by kernel_rfl) (by kernel_rfl) (by kernel_rfl) (fun _ _ _ h => h) (Or.inl ⟨by rfl, fun u hu => by (have z := (hu.cell (p := ⟨b, o1 + j * 2 + 1, none⟩) hb).trans d1; go_simp)⟩) hS ?_
          simp only [Act.put, List.setIfInBounds_toArray, List.set_cons_zero, List.set_cons_succ]
          refine wpAnyH_take (i := 5) (oi := { dst := some 59, op := Op.move (Operand.tmp 6), type := 3, pos := _, after := _, guard := none }) (v := .int .i64 k) rfl (by kernel_rfl) (by kernel_rfl) (by kernel_rfl) (fun _ _ _ h => h) (Or.inl ⟨by rfl, fun u hu => by go_simp⟩) hS ?_
          simp only [Act.put, List.setIfInBounds_toArray, List.set_cons_zero, List.set_cons_succ]
          refine wpAnyH_take (i := 6) (oi := { dst := some 60, op := Op.indexAddr 45 (Operand.tmp 58) (Operand.tmp 59), type := 0, pos := _, after := _, guard := none }) (v := .pointer (some ⟨c, g1 + k * 11, none⟩)) rfl (by kernel_rfl) (by kernel_rfl) (by kernel_rfl) (fun _ _ _ h => h) (Or.inl ⟨by rfl, fun u hu => by go_simp⟩) hS ?_
          simp only [Act.put, List.setIfInBounds_toArray, List.set_cons_zero, List.set_cons_succ]
          refine wpAnyH_take (i := 7) (oi := { dst := some 61, op := Op.load 52 (Operand.tmp 60), type := 52, pos := _, after := _, guard := none }) (v := .agg #[.int .i64 x.op, .int .i64 x.a, .int .i64 x.n, .string x.lib, .string x.own, .int .i64 x.quote.kind, .int .i64 x.quote.n, .string x.quote.name, .int .i64 x.quote.stamp, .int .i64 x.quote.lib, .slice ea x.quote.kids.length ec]) rfl (by kernel_rfl) (by kernel_rfl) (by kernel_rfl) (fun _ _ _ h => h) (Or.inl ⟨by rfl, fun u hu => by (have z0 := (hu.cell (p := ⟨c, g1 + k * 11, none⟩) hc3).trans IX.out.c0; have z1 := (hu.cell (p := ⟨c, g1 + k * 11 + 1, none⟩) hc3).trans IX.out.c1; have z2 := (hu.cell (p := ⟨c, g1 + k * 11 + 2, none⟩) hc3).trans IX.out.c2; have z3 := (hu.cell (p := ⟨c, g1 + k * 11 + 3, none⟩) hc3).trans IX.out.c3; have z4 := (hu.cell (p := ⟨c, g1 + k * 11 + 4, none⟩) hc3).trans IX.out.c4; have z5 := (hu.cell (p := ⟨c, g1 + k * 11 + 5, none⟩) hc3).trans IX.out.c5; have z6 := (hu.cell (p := ⟨c, g1 + k * 11 + 6, none⟩) hc3).trans IX.out.c6; have z7 := (hu.cell (p := ⟨c, g1 + k * 11 + 7, none⟩) hc3).trans IX.out.c7; have z8 := (hu.cell (p := ⟨c, g1 + k * 11 + 8, none⟩) hc3).trans IX.out.c8; have z9 := (hu.cell (p := ⟨c, g1 + k * 11 + 9, none⟩) hc3).trans IX.out.c9; have z10 := (hu.cell (p := ⟨c, g1 + k * 11 + 10, none⟩) hc3).trans IX.out.c10; go_simp)⟩) hS ?_
          simp only [Act.put, List.setIfInBounds_toArray, List.set_cons_zero, List.set_cons_succ]
          refine wpAnyH_take (i := 8) (oi := { dst := some 62, op := Op.move (Operand.tmp 1), type := 22, pos := _, after := _, guard := none }) (v := .slice (some ⟨b2, o2, none⟩) n0 qc) rfl (by kernel_rfl) (by kernel_rfl) (by kernel_rfl) (fun _ _ _ h => h) (Or.inl ⟨by rfl, fun u hu => by go_simp⟩) hS ?_
          simp only [Act.put, List.setIfInBounds_toArray, List.set_cons_zero, List.set_cons_succ]
          refine wpAnyH_take (i := 9) (oi := { dst := some 63, op := Op.move (Operand.tmp 5), type := 3, pos := _, after := _, guard := none }) (v := .int .i64 j) rfl (by kernel_rfl) (by kernel_rfl) (by kernel_rfl) (fun _ _ _ h => h) (Or.inl ⟨by rfl, fun u hu => by go_simp⟩) hS ?_
          simp only [Act.put, List.setIfInBounds_toArray, List.set_cons_zero, List.set_cons_succ]
          refine wpAnyH_take (i := 10) (oi := { dst := some 64, op := Op.indexAddr 22 (Operand.tmp 62) (Operand.tmp 63), type := 0, pos := _, after := _, guard := none }) (v := .pointer (some ⟨b2, o2 + j * 2, none⟩)) rfl (by kernel_rfl) (by kernel_rfl) (by kernel_rfl) (fun _ _ _ h => h) (Or.inl ⟨by rfl, fun u hu => by go_simp⟩) hS ?_
          simp only [Act.put, List.setIfInBounds_toArray, List.set_cons_zero, List.set_cons_succ]
          refine wpAnyH_take (i := 11) (oi := { dst := some 65, op := Op.fieldAddr 47 (Operand.tmp 64) 1, type := 0, pos := _, after := _, guard := none }) (v := .pointer (some ⟨b2, o2 + j * 2 + 1, none⟩)) rfl (by kernel_rfl) (by kernel_rfl) (by kernel_rfl) (fun _ _ _ h => h) (Or.inl ⟨by rfl, fun u hu => by go_simp⟩) hS ?_
          simp only [Act.put, List.setIfInBounds_toArray, List.set_cons_zero, List.set_cons_succ]
          refine wpAnyH_take (i := 12) (oi := { dst := some 66, op := Op.load 45 (Operand.tmp 65), type := 45, pos := _, after := _, guard := none }) (v := .slice (some ⟨c2, g2, none⟩) n cc2) rfl (by kernel_rfl) (by kernel_rfl) (by kernel_rfl) (fun _ _ _ h => h) (Or.inl ⟨by rfl, fun u hu => by (have z := (hu.cell (p := ⟨b2, o2 + j * 2 + 1, none⟩) hb2).trans f1; go_simp)⟩) hS ?_
          simp only [Act.put, List.setIfInBounds_toArray, List.set_cons_zero, List.set_cons_succ]
          refine wpAnyH_take (i := 13) (oi := { dst := some 67, op := Op.move (Operand.tmp 6), type := 3, pos := _, after := _, guard := none }) (v := .int .i64 k) rfl (by kernel_rfl) (by kernel_rfl) (by kernel_rfl) (fun _ _ _ h => h) (Or.inl ⟨by rfl, fun u hu => by go_simp⟩) hS ?_
          simp only [Act.put, List.setIfInBounds_toArray, List.set_cons_zero, List.set_cons_succ]
          refine wpAnyH_take (i := 14) (oi := { dst := some 68, op := Op.indexAddr 45 (Operand.tmp 66) (Operand.tmp 67), type := 0, pos := _, after := _, guard := none }) (v := .pointer (some ⟨c2, g2 + k * 11, none⟩)) rfl (by kernel_rfl) (by kernel_rfl) (by kernel_rfl) (fun _ _ _ h => h) (Or.inl ⟨by rfl, fun u hu => by go_simp⟩) hS ?_
          simp only [Act.put, List.setIfInBounds_toArray, List.set_cons_zero, List.set_cons_succ]
          refine wpAnyH_take (i := 15) (oi := { dst := some 69, op := Op.load 52 (Operand.tmp 68), type := 52, pos := _, after := _, guard := none }) (v := .agg #[.int .i64 x.op, .int .i64 x.a, .int .i64 x.n, .string x.lib, .string x.own, .int .i64 x.quote.kind, .int .i64 x.quote.n, .string x.quote.name, .int .i64 x.quote.stamp, .int .i64 x.quote.lib, .slice ea2 x.quote.kids.length ec2]) rfl (by kernel_rfl) (by kernel_rfl) (by kernel_rfl) (fun _ _ _ h => h) (Or.inl ⟨by rfl, fun u hu => by (have z0 := (hu.cell (p := ⟨c2, g2 + k * 11, none⟩) hc4).trans IY.out.c0; have z1 := (hu.cell (p := ⟨c2, g2 + k * 11 + 1, none⟩) hc4).trans IY.out.c1; have z2 := (hu.cell (p := ⟨c2, g2 + k * 11 + 2, none⟩) hc4).trans IY.out.c2; have z3 := (hu.cell (p := ⟨c2, g2 + k * 11 + 3, none⟩) hc4).trans IY.out.c3; have z4 := (hu.cell (p := ⟨c2, g2 + k * 11 + 4, none⟩) hc4).trans IY.out.c4; have z5 := (hu.cell (p := ⟨c2, g2 + k * 11 + 5, none⟩) hc4).trans IY.out.c5; have z6 := (hu.cell (p := ⟨c2, g2 + k * 11 + 6, none⟩) hc4).trans IY.out.c6; have z7 := (hu.cell (p := ⟨c2, g2 + k * 11 + 7, none⟩) hc4).trans IY.out.c7; have z8 := (hu.cell (p := ⟨c2, g2 + k * 11 + 8, none⟩) hc4).trans IY.out.c8; have z9 := (hu.cell (p := ⟨c2, g2 + k * 11 + 9, none⟩) hc4).trans IY.out.c9; have z10 := (hu.cell (p := ⟨c2, g2 + k * 11 + 10, none⟩) hc4).trans IY.out.c10; go_simp)⟩) hS ?_
          simp only [Act.put, List.setIfInBounds_toArray, List.set_cons_zero, List.set_cons_succ]
          refine wpAnyH_ready (rs := [16, 17]) (by kernel_rfl) (by simp) (AllReadyH.cons (o := { dst := some 7, op := Op.alloc 52, type := 0, pos := _, after := _, guard := none }) rfl (fun K hK => ?_) (AllReadyH.cons (o := { dst := some 8, op := Op.alloc 52, type := 0, pos := _, after := _, guard := none }) rfl (fun K hK => ?_) AllReadyH.nil))
          · go_simp
            have hb1 : Below wr.drew.heap.size wr.drew (wr.drew.alloc (.cells #[.int .i64 0, .int .i64 0, .int .i64 0, .string ⟨#[]⟩, .string ⟨#[]⟩, .int .i64 0, .int .i64 0, .string ⟨#[]⟩, .int .i64 0, .int .i64 0, .slice none 0 0] 52)) := (Below.refl _ _).alloc (Nat.le_refl _) _
            have hN1 : Hid ((wr.drew.alloc (.cells #[.int .i64 0, .int .i64 0, .int .i64 0, .string ⟨#[]⟩, .string ⟨#[]⟩, .int .i64 0, .int .i64 0, .string ⟨#[]⟩, .int .i64 0, .int .i64 0, .slice none 0 0] 52)).heap[wr.heap.size]? = some (.cells #[.int .i64 0, .int .i64 0, .int .i64 0, .string ⟨#[]⟩, .string ⟨#[]⟩, .int .i64 0, .int .i64 0, .string ⟨#[]⟩, .int .i64 0, .int .i64 0, .slice none 0 0] 52 (0, 0))) := World.alloc_heap_new wr.drew _
            have hnb1 : w.heap.size ≤ wr.heap.size := hS.size
            have hS1 := hS.trans (hb1.mono hS.size)
            change K _ (wr.drew.alloc (.cells #[.int .i64 0, .int .i64 0, .int .i64 0, .string ⟨#[]⟩, .string ⟨#[]⟩, .int .i64 0, .int .i64 0, .string ⟨#[]⟩, .int .i64 0, .int .i64 0, .slice none 0 0] 52))
            generalize wr.drew.alloc (.cells #[.int .i64 0, .int .i64 0, .int .i64 0, .string ⟨#[]⟩, .string ⟨#[]⟩, .int .i64 0, .int .i64 0, .string ⟨#[]⟩, .int .i64 0, .int .i64 0, .slice none 0 0] 52) = W1 at hb1 hN1 hS1 ⊢
            clear hb1
            refine hK.out _ _ hS1 (fun hS => ?_)
            clear hK K
            refine wpAnyH_ready (rs := [17]) (by kernel_rfl) (by simp) (AllReadyH.cons (o := { dst := some 8, op := Op.alloc 52, type := 0, pos := _, after := _, guard := none }) rfl (fun K hK => ?_) AllReadyH.nil)
            go_simp
            have hb2 : Below W1.heap.size W1 (W1.alloc (.cells #[.int .i64 0, .int .i64 0, .int .i64 0, .string ⟨#[]⟩, .string ⟨#[]⟩, .int .i64 0, .int .i64 0, .string ⟨#[]⟩, .int .i64 0, .int .i64 0, .slice none 0 0] 52)) := (Below.refl _ _).alloc (Nat.le_refl _) _
            have hN2 : Hid ((W1.alloc (.cells #[.int .i64 0, .int .i64 0, .int .i64 0, .string ⟨#[]⟩, .string ⟨#[]⟩, .int .i64 0, .int .i64 0, .string ⟨#[]⟩, .int .i64 0, .int .i64 0, .slice none 0 0] 52)).heap[W1.heap.size]? = some (.cells #[.int .i64 0, .int .i64 0, .int .i64 0, .string ⟨#[]⟩, .string ⟨#[]⟩, .int .i64 0, .int .i64 0, .string ⟨#[]⟩, .int .i64 0, .int .i64 0, .slice none 0 0] 52 (0, 0))) := World.alloc_heap_new W1 _
            have hnb2 : w.heap.size ≤ W1.heap.size := hS.size
            have hS2 := hS.trans (hb2.mono hS.size)
            change K _ (W1.alloc (.cells #[.int .i64 0, .int .i64 0, .int .i64 0, .string ⟨#[]⟩, .string ⟨#[]⟩, .int .i64 0, .int .i64 0, .string ⟨#[]⟩, .int .i64 0, .int .i64 0, .slice none 0 0] 52))
            generalize W1.alloc (.cells #[.int .i64 0, .int .i64 0, .int .i64 0, .string ⟨#[]⟩, .string ⟨#[]⟩, .int .i64 0, .int .i64 0, .string ⟨#[]⟩, .int .i64 0, .int .i64 0, .slice none 0 0] 52) = W2 at hb2 hN2 hS2 ⊢
            have hne12 : wr.heap.size < W1.heap.size := (Array.getElem?_eq_some_iff.1 hN1.out).1
            have hN1b := hidd ((hb2.block _ (Array.getElem?_eq_some_iff.1 hN1.out).1).trans hN1.out)
            clear hN1
            clear hb2
            refine hK.out _ _ hS2 (fun hS => ?_)
            clear hK K
            refine wpAnyH_ready (rs := [18]) (by kernel_rfl) (by simp) (AllReadyH.cons (o := { dst := none, op := Op.store 52 (Operand.tmp 7) (Operand.tmp 61), type := 0, pos := _, after := _, guard := none }) rfl (fun K hK => ?_) AllReadyH.nil)
            have q0 : W2.cell? ⟨wr.heap.size, 0, none⟩ = some (.int .i64 0) := (cellO hN1b.out).trans rfl
            have q1 : W2.cell? ⟨wr.heap.size, 1, none⟩ = some (.int .i64 0) := (cellO hN1b.out).trans rfl
            have q2 : W2.cell? ⟨wr.heap.size, 2, none⟩ = some (.int .i64 0) := (cellO hN1b.out).trans rfl
            have q3 : W2.cell? ⟨wr.heap.size, 3, none⟩ = some (.string ⟨#[]⟩) := (cellO hN1b.out).trans rfl
            have q4 : W2.cell? ⟨wr.heap.size, 4, none⟩ = some (.string ⟨#[]⟩) := (cellO hN1b.out).trans rfl
            have q5 : W2.cell? ⟨wr.heap.size, 5, none⟩ = some (.int .i64 0) := (cellO hN1b.out).trans rfl
            have q6 : W2.cell? ⟨wr.heap.size, 6, none⟩ = some (.int .i64 0) := (cellO hN1b.out).trans rfl
            have q7 : W2.cell? ⟨wr.heap.size, 7, none⟩ = some (.string ⟨#[]⟩) := (cellO hN1b.out).trans rfl
            have q8 : W2.cell? ⟨wr.heap.size, 8, none⟩ = some (.int .i64 0) := (cellO hN1b.out).trans rfl
            have q9 : W2.cell? ⟨wr.heap.size, 9, none⟩ = some (.int .i64 0) := (cellO hN1b.out).trans rfl
            have q10 : W2.cell? ⟨wr.heap.size, 10, none⟩ = some (.slice none 0 0) := (cellO hN1b.out).trans rfl
            have qz : ∀ j, W2.frozen? ⟨wr.heap.size, j, none⟩ = false := by intro j; simp [World.frozen?, show W2.heap[wr.heap.size]? = _ from hN1b.out]
            go_simp
            have hh3 := hidd (fill11_heap hN1b.out (.int .i64 x.op) (.int .i64 x.a) (.int .i64 x.n) (.string x.lib) (.string x.own) (.int .i64 x.quote.kind) (.int .i64 x.quote.n) (.string x.quote.name) (.int .i64 x.quote.stamp) (.int .i64 x.quote.lib) (.slice ea x.quote.kids.length ec))
            have hk3 := fill11_keep W2 wr.heap.size (.int .i64 x.op) (.int .i64 x.a) (.int .i64 x.n) (.string x.lib) (.string x.own) (.int .i64 x.quote.kind) (.int .i64 x.quote.n) (.string x.quote.name) (.int .i64 x.quote.stamp) (.int .i64 x.quote.lib) (.slice ea x.quote.kids.length ec)
            change K _ (fill11 W2 wr.heap.size (.int .i64 x.op) (.int .i64 x.a) (.int .i64 x.n) (.string x.lib) (.string x.own) (.int .i64 x.quote.kind) (.int .i64 x.quote.n) (.string x.quote.name) (.int .i64 x.quote.stamp) (.int .i64 x.quote.lib) (.slice ea x.quote.kids.length ec))
            generalize fill11 W2 wr.heap.size (.int .i64 x.op) (.int .i64 x.a) (.int .i64 x.n) (.string x.lib) (.string x.own) (.int .i64 x.quote.kind) (.int .i64 x.quote.n) (.string x.quote.name) (.int .i64 x.quote.stamp) (.int .i64 x.quote.lib) (.slice ea x.quote.kids.length ec) = W3 at hh3 hk3 ⊢
            have hS3 : Below w.heap.size w W3 := hS.trans (hk3.toBelow hnb1 hS.size)
            have oo3 := hidd ((hk3.block W1.heap.size (Array.getElem?_eq_some_iff.1 hN2.out).1 (by simp; omega)).trans hN2.out)
            clear hN1b hN2 hk3 qz q0 q1 q2 q3 q4 q5 q6 q7 q8 q9 q10
            refine hK.out _ _ hS3 (fun hS => ?_)
            clear hK K
            refine wpAnyH_ready (rs := [19]) (by kernel_rfl) (by simp) (AllReadyH.cons (o := { dst := none, op := Op.store 52 (Operand.tmp 8) (Operand.tmp 69), type := 0, pos := _, after := _, guard := none }) rfl (fun K hK => ?_) AllReadyH.nil)
            have q0 : W3.cell? ⟨W1.heap.size, 0, none⟩ = some (.int .i64 0) := (cellO oo3.out).trans rfl
            have q1 : W3.cell? ⟨W1.heap.size, 1, none⟩ = some (.int .i64 0) := (cellO oo3.out).trans rfl
            have q2 : W3.cell? ⟨W1.heap.size, 2, none⟩ = some (.int .i64 0) := (cellO oo3.out).trans rfl
            have q3 : W3.cell? ⟨W1.heap.size, 3, none⟩ = some (.string ⟨#[]⟩) := (cellO oo3.out).trans rfl
            have q4 : W3.cell? ⟨W1.heap.size, 4, none⟩ = some (.string ⟨#[]⟩) := (cellO oo3.out).trans rfl
            have q5 : W3.cell? ⟨W1.heap.size, 5, none⟩ = some (.int .i64 0) := (cellO oo3.out).trans rfl
            have q6 : W3.cell? ⟨W1.heap.size, 6, none⟩ = some (.int .i64 0) := (cellO oo3.out).trans rfl
            have q7 : W3.cell? ⟨W1.heap.size, 7, none⟩ = some (.string ⟨#[]⟩) := (cellO oo3.out).trans rfl
            have q8 : W3.cell? ⟨W1.heap.size, 8, none⟩ = some (.int .i64 0) := (cellO oo3.out).trans rfl
            have q9 : W3.cell? ⟨W1.heap.size, 9, none⟩ = some (.int .i64 0) := (cellO oo3.out).trans rfl
            have q10 : W3.cell? ⟨W1.heap.size, 10, none⟩ = some (.slice none 0 0) := (cellO oo3.out).trans rfl
            have qz : ∀ j, W3.frozen? ⟨W1.heap.size, j, none⟩ = false := by intro j; simp [World.frozen?, show W3.heap[W1.heap.size]? = _ from oo3.out]
            go_simp
            have hh4 := hidd (fill11_heap oo3.out (.int .i64 x.op) (.int .i64 x.a) (.int .i64 x.n) (.string x.lib) (.string x.own) (.int .i64 x.quote.kind) (.int .i64 x.quote.n) (.string x.quote.name) (.int .i64 x.quote.stamp) (.int .i64 x.quote.lib) (.slice ea2 x.quote.kids.length ec2))
            have hk4 := fill11_keep W3 W1.heap.size (.int .i64 x.op) (.int .i64 x.a) (.int .i64 x.n) (.string x.lib) (.string x.own) (.int .i64 x.quote.kind) (.int .i64 x.quote.n) (.string x.quote.name) (.int .i64 x.quote.stamp) (.int .i64 x.quote.lib) (.slice ea2 x.quote.kids.length ec2)
            change K _ (fill11 W3 W1.heap.size (.int .i64 x.op) (.int .i64 x.a) (.int .i64 x.n) (.string x.lib) (.string x.own) (.int .i64 x.quote.kind) (.int .i64 x.quote.n) (.string x.quote.name) (.int .i64 x.quote.stamp) (.int .i64 x.quote.lib) (.slice ea2 x.quote.kids.length ec2))
            generalize fill11 W3 W1.heap.size (.int .i64 x.op) (.int .i64 x.a) (.int .i64 x.n) (.string x.lib) (.string x.own) (.int .i64 x.quote.kind) (.int .i64 x.quote.n) (.string x.quote.name) (.int .i64 x.quote.stamp) (.int .i64 x.quote.lib) (.slice ea2 x.quote.kids.length ec2) = W4 at hh4 hk4 ⊢
            have hS4 : Below w.heap.size w W4 := hS.trans (hk4.toBelow hnb2 hS.size)
            have oo4 := hidd ((hk4.block wr.heap.size (Array.getElem?_eq_some_iff.1 hh3.out).1 (by simp; omega)).trans hh3.out)
            clear oo3 hh3 hk4 qz q0 q1 q2 q3 q4 q5 q6 q7 q8 q9 q10
            refine hK.out _ _ hS4 (fun hS => ?_)
            clear hK K
            refine wpAnyH_done (by kernel_rfl) ?_ _
            have x0 : W4.cell? ⟨wr.heap.size, 0, none⟩ = some (.int .i64 x.op) := (cellO oo4.out).trans rfl
            have x1 : W4.cell? ⟨wr.heap.size, 1, none⟩ = some (.int .i64 x.a) := (cellO oo4.out).trans rfl
            have x2 : W4.cell? ⟨wr.heap.size, 2, none⟩ = some (.int .i64 x.n) := (cellO oo4.out).trans rfl
            have x3 : W4.cell? ⟨wr.heap.size, 3, none⟩ = some (.string x.lib) := (cellO oo4.out).trans rfl
            have x4 : W4.cell? ⟨wr.heap.size, 4, none⟩ = some (.string x.own) := (cellO oo4.out).trans rfl
            have x5 : W4.cell? ⟨wr.heap.size, 5, none⟩ = some (.int .i64 x.quote.kind) := (cellO oo4.out).trans rfl
            have x6 : W4.cell? ⟨wr.heap.size, 6, none⟩ = some (.int .i64 x.quote.n) := (cellO oo4.out).trans rfl
            have x7 : W4.cell? ⟨wr.heap.size, 7, none⟩ = some (.string x.quote.name) := (cellO oo4.out).trans rfl
            have x8 : W4.cell? ⟨wr.heap.size, 8, none⟩ = some (.int .i64 x.quote.stamp) := (cellO oo4.out).trans rfl
            have x9 : W4.cell? ⟨wr.heap.size, 9, none⟩ = some (.int .i64 x.quote.lib) := (cellO oo4.out).trans rfl
            have x10 : W4.cell? ⟨wr.heap.size, 10, none⟩ = some (.slice ea x.quote.kids.length ec) := (cellO oo4.out).trans rfl
            have y0 : W4.cell? ⟨W1.heap.size, 0, none⟩ = some (.int .i64 x.op) := (cellO hh4.out).trans rfl
            have y1 : W4.cell? ⟨W1.heap.size, 1, none⟩ = some (.int .i64 x.a) := (cellO hh4.out).trans rfl
            have y2 : W4.cell? ⟨W1.heap.size, 2, none⟩ = some (.int .i64 x.n) := (cellO hh4.out).trans rfl
            have y3 : W4.cell? ⟨W1.heap.size, 3, none⟩ = some (.string x.lib) := (cellO hh4.out).trans rfl
            have y4 : W4.cell? ⟨W1.heap.size, 4, none⟩ = some (.string x.own) := (cellO hh4.out).trans rfl
            have y5 : W4.cell? ⟨W1.heap.size, 5, none⟩ = some (.int .i64 x.quote.kind) := (cellO hh4.out).trans rfl
            have y6 : W4.cell? ⟨W1.heap.size, 6, none⟩ = some (.int .i64 x.quote.n) := (cellO hh4.out).trans rfl
            have y7 : W4.cell? ⟨W1.heap.size, 7, none⟩ = some (.string x.quote.name) := (cellO hh4.out).trans rfl
            have y8 : W4.cell? ⟨W1.heap.size, 8, none⟩ = some (.int .i64 x.quote.stamp) := (cellO hh4.out).trans rfl
            have y9 : W4.cell? ⟨W1.heap.size, 9, none⟩ = some (.int .i64 x.quote.lib) := (cellO hh4.out).trans rfl
            have y10 : W4.cell? ⟨W1.heap.size, 10, none⟩ = some (.slice ea2 x.quote.kids.length ec2) := (cellO hh4.out).trans rfl
            have HS := hidd hS
            clear hS oo4 hh4
            go_wp2_with fail
            refine (EC.out W4 HS.out).mono ?_
            rintro e v ⟨rfl, hv⟩
            have HV := hidd (HS.out.trans (hv.mono HS.out.size))
            clear hv x0 y0 x1 y1 x2 y2 x3 y3 x4 y4 x5 y5 x6 y6 x7 y7 x8 y8 x9 y9 x10 y10
            go_wp2_with fail
            go_roundw
            case rel => exact ⟨k + 1, by omega, by go_num, HV.out⟩
            case measure => simp [intOf]; omega
          · go_simp
            have hb1 : Below wr.drew.heap.size wr.drew (wr.drew.alloc (.cells #[.int .i64 0, .int .i64 0, .int .i64 0, .string ⟨#[]⟩, .string ⟨#[]⟩, .int .i64 0, .int .i64 0, .string ⟨#[]⟩, .int .i64 0, .int .i64 0, .slice none 0 0] 52)) := (Below.refl _ _).alloc (Nat.le_refl _) _
            have hN1 : Hid ((wr.drew.alloc (.cells #[.int .i64 0, .int .i64 0, .int .i64 0, .string ⟨#[]⟩, .string ⟨#[]⟩, .int .i64 0, .int .i64 0, .string ⟨#[]⟩, .int .i64 0, .int .i64 0, .slice none 0 0] 52)).heap[wr.heap.size]? = some (.cells #[.int .i64 0, .int .i64 0, .int .i64 0, .string ⟨#[]⟩, .string ⟨#[]⟩, .int .i64 0, .int .i64 0, .string ⟨#[]⟩, .int .i64 0, .int .i64 0, .slice none 0 0] 52 (0, 0))) := World.alloc_heap_new wr.drew _
            have hnb1 : w.heap.size ≤ wr.heap.size := hS.size
            have hS1 := hS.trans (hb1.mono hS.size)
            change K _ (wr.drew.alloc (.cells #[.int .i64 0, .int .i64 0, .int .i64 0, .string ⟨#[]⟩, .string ⟨#[]⟩, .int .i64 0, .int .i64 0, .string ⟨#[]⟩, .int .i64 0, .int .i64 0, .slice none 0 0] 52))
            generalize wr.drew.alloc (.cells #[.int .i64 0, .int .i64 0, .int .i64 0, .string ⟨#[]⟩, .string ⟨#[]⟩, .int .i64 0, .int .i64 0, .string ⟨#[]⟩, .int .i64 0, .int .i64 0, .slice none 0 0] 52) = W1 at hb1 hN1 hS1 ⊢
            clear hb1
            refine hK.out _ _ hS1 (fun hS => ?_)
            clear hK K
            refine wpAnyH_ready (rs := [16]) (by kernel_rfl) (by simp) (AllReadyH.cons (o := { dst := some 7, op := Op.alloc 52, type := 0, pos := _, after := _, guard := none }) rfl (fun K hK => ?_) AllReadyH.nil)
            go_simp
            have hb2 : Below W1.heap.size W1 (W1.alloc (.cells #[.int .i64 0, .int .i64 0, .int .i64 0, .string ⟨#[]⟩, .string ⟨#[]⟩, .int .i64 0, .int .i64 0, .string ⟨#[]⟩, .int .i64 0, .int .i64 0, .slice none 0 0] 52)) := (Below.refl _ _).alloc (Nat.le_refl _) _
            have hN2 : Hid ((W1.alloc (.cells #[.int .i64 0, .int .i64 0, .int .i64 0, .string ⟨#[]⟩, .string ⟨#[]⟩, .int .i64 0, .int .i64 0, .string ⟨#[]⟩, .int .i64 0, .int .i64 0, .slice none 0 0] 52)).heap[W1.heap.size]? = some (.cells #[.int .i64 0, .int .i64 0, .int .i64 0, .string ⟨#[]⟩, .string ⟨#[]⟩, .int .i64 0, .int .i64 0, .string ⟨#[]⟩, .int .i64 0, .int .i64 0, .slice none 0 0] 52 (0, 0))) := World.alloc_heap_new W1 _
            have hnb2 : w.heap.size ≤ W1.heap.size := hS.size
            have hS2 := hS.trans (hb2.mono hS.size)
            change K _ (W1.alloc (.cells #[.int .i64 0, .int .i64 0, .int .i64 0, .string ⟨#[]⟩, .string ⟨#[]⟩, .int .i64 0, .int .i64 0, .string ⟨#[]⟩, .int .i64 0, .int .i64 0, .slice none 0 0] 52))
            generalize W1.alloc (.cells #[.int .i64 0, .int .i64 0, .int .i64 0, .string ⟨#[]⟩, .string ⟨#[]⟩, .int .i64 0, .int .i64 0, .string ⟨#[]⟩, .int .i64 0, .int .i64 0, .slice none 0 0] 52) = W2 at hb2 hN2 hS2 ⊢
            have hne12 : wr.heap.size < W1.heap.size := (Array.getElem?_eq_some_iff.1 hN1.out).1
            have hN1b := hidd ((hb2.block _ (Array.getElem?_eq_some_iff.1 hN1.out).1).trans hN1.out)
            clear hN1
            clear hb2
            refine hK.out _ _ hS2 (fun hS => ?_)
            clear hK K
            refine wpAnyH_ready (rs := [18]) (by kernel_rfl) (by simp) (AllReadyH.cons (o := { dst := none, op := Op.store 52 (Operand.tmp 7) (Operand.tmp 61), type := 0, pos := _, after := _, guard := none }) rfl (fun K hK => ?_) AllReadyH.nil)
            have q0 : W2.cell? ⟨W1.heap.size, 0, none⟩ = some (.int .i64 0) := (cellO hN2.out).trans rfl
            have q1 : W2.cell? ⟨W1.heap.size, 1, none⟩ = some (.int .i64 0) := (cellO hN2.out).trans rfl
            have q2 : W2.cell? ⟨W1.heap.size, 2, none⟩ = some (.int .i64 0) := (cellO hN2.out).trans rfl
            have q3 : W2.cell? ⟨W1.heap.size, 3, none⟩ = some (.string ⟨#[]⟩) := (cellO hN2.out).trans rfl
            have q4 : W2.cell? ⟨W1.heap.size, 4, none⟩ = some (.string ⟨#[]⟩) := (cellO hN2.out).trans rfl
            have q5 : W2.cell? ⟨W1.heap.size, 5, none⟩ = some (.int .i64 0) := (cellO hN2.out).trans rfl
            have q6 : W2.cell? ⟨W1.heap.size, 6, none⟩ = some (.int .i64 0) := (cellO hN2.out).trans rfl
            have q7 : W2.cell? ⟨W1.heap.size, 7, none⟩ = some (.string ⟨#[]⟩) := (cellO hN2.out).trans rfl
            have q8 : W2.cell? ⟨W1.heap.size, 8, none⟩ = some (.int .i64 0) := (cellO hN2.out).trans rfl
            have q9 : W2.cell? ⟨W1.heap.size, 9, none⟩ = some (.int .i64 0) := (cellO hN2.out).trans rfl
            have q10 : W2.cell? ⟨W1.heap.size, 10, none⟩ = some (.slice none 0 0) := (cellO hN2.out).trans rfl
            have qz : ∀ j, W2.frozen? ⟨W1.heap.size, j, none⟩ = false := by intro j; simp [World.frozen?, show W2.heap[W1.heap.size]? = _ from hN2.out]
            go_simp
            have hh3 := hidd (fill11_heap hN2.out (.int .i64 x.op) (.int .i64 x.a) (.int .i64 x.n) (.string x.lib) (.string x.own) (.int .i64 x.quote.kind) (.int .i64 x.quote.n) (.string x.quote.name) (.int .i64 x.quote.stamp) (.int .i64 x.quote.lib) (.slice ea x.quote.kids.length ec))
            have hk3 := fill11_keep W2 W1.heap.size (.int .i64 x.op) (.int .i64 x.a) (.int .i64 x.n) (.string x.lib) (.string x.own) (.int .i64 x.quote.kind) (.int .i64 x.quote.n) (.string x.quote.name) (.int .i64 x.quote.stamp) (.int .i64 x.quote.lib) (.slice ea x.quote.kids.length ec)
            change K _ (fill11 W2 W1.heap.size (.int .i64 x.op) (.int .i64 x.a) (.int .i64 x.n) (.string x.lib) (.string x.own) (.int .i64 x.quote.kind) (.int .i64 x.quote.n) (.string x.quote.name) (.int .i64 x.quote.stamp) (.int .i64 x.quote.lib) (.slice ea x.quote.kids.length ec))
            generalize fill11 W2 W1.heap.size (.int .i64 x.op) (.int .i64 x.a) (.int .i64 x.n) (.string x.lib) (.string x.own) (.int .i64 x.quote.kind) (.int .i64 x.quote.n) (.string x.quote.name) (.int .i64 x.quote.stamp) (.int .i64 x.quote.lib) (.slice ea x.quote.kids.length ec) = W3 at hh3 hk3 ⊢
            have hS3 : Below w.heap.size w W3 := hS.trans (hk3.toBelow hnb2 hS.size)
            have oo3 := hidd ((hk3.block wr.heap.size (Array.getElem?_eq_some_iff.1 hN1b.out).1 (by simp; omega)).trans hN1b.out)
            clear hN2 hN1b hk3 qz q0 q1 q2 q3 q4 q5 q6 q7 q8 q9 q10
            refine hK.out _ _ hS3 (fun hS => ?_)
            clear hK K
            refine wpAnyH_ready (rs := [19]) (by kernel_rfl) (by simp) (AllReadyH.cons (o := { dst := none, op := Op.store 52 (Operand.tmp 8) (Operand.tmp 69), type := 0, pos := _, after := _, guard := none }) rfl (fun K hK => ?_) AllReadyH.nil)
            have q0 : W3.cell? ⟨wr.heap.size, 0, none⟩ = some (.int .i64 0) := (cellO oo3.out).trans rfl
            have q1 : W3.cell? ⟨wr.heap.size, 1, none⟩ = some (.int .i64 0) := (cellO oo3.out).trans rfl
            have q2 : W3.cell? ⟨wr.heap.size, 2, none⟩ = some (.int .i64 0) := (cellO oo3.out).trans rfl
            have q3 : W3.cell? ⟨wr.heap.size, 3, none⟩ = some (.string ⟨#[]⟩) := (cellO oo3.out).trans rfl
            have q4 : W3.cell? ⟨wr.heap.size, 4, none⟩ = some (.string ⟨#[]⟩) := (cellO oo3.out).trans rfl
            have q5 : W3.cell? ⟨wr.heap.size, 5, none⟩ = some (.int .i64 0) := (cellO oo3.out).trans rfl
            have q6 : W3.cell? ⟨wr.heap.size, 6, none⟩ = some (.int .i64 0) := (cellO oo3.out).trans rfl
            have q7 : W3.cell? ⟨wr.heap.size, 7, none⟩ = some (.string ⟨#[]⟩) := (cellO oo3.out).trans rfl
            have q8 : W3.cell? ⟨wr.heap.size, 8, none⟩ = some (.int .i64 0) := (cellO oo3.out).trans rfl
            have q9 : W3.cell? ⟨wr.heap.size, 9, none⟩ = some (.int .i64 0) := (cellO oo3.out).trans rfl
            have q10 : W3.cell? ⟨wr.heap.size, 10, none⟩ = some (.slice none 0 0) := (cellO oo3.out).trans rfl
            have qz : ∀ j, W3.frozen? ⟨wr.heap.size, j, none⟩ = false := by intro j; simp [World.frozen?, show W3.heap[wr.heap.size]? = _ from oo3.out]
            go_simp
            have hh4 := hidd (fill11_heap oo3.out (.int .i64 x.op) (.int .i64 x.a) (.int .i64 x.n) (.string x.lib) (.string x.own) (.int .i64 x.quote.kind) (.int .i64 x.quote.n) (.string x.quote.name) (.int .i64 x.quote.stamp) (.int .i64 x.quote.lib) (.slice ea2 x.quote.kids.length ec2))
            have hk4 := fill11_keep W3 wr.heap.size (.int .i64 x.op) (.int .i64 x.a) (.int .i64 x.n) (.string x.lib) (.string x.own) (.int .i64 x.quote.kind) (.int .i64 x.quote.n) (.string x.quote.name) (.int .i64 x.quote.stamp) (.int .i64 x.quote.lib) (.slice ea2 x.quote.kids.length ec2)
            change K _ (fill11 W3 wr.heap.size (.int .i64 x.op) (.int .i64 x.a) (.int .i64 x.n) (.string x.lib) (.string x.own) (.int .i64 x.quote.kind) (.int .i64 x.quote.n) (.string x.quote.name) (.int .i64 x.quote.stamp) (.int .i64 x.quote.lib) (.slice ea2 x.quote.kids.length ec2))
            generalize fill11 W3 wr.heap.size (.int .i64 x.op) (.int .i64 x.a) (.int .i64 x.n) (.string x.lib) (.string x.own) (.int .i64 x.quote.kind) (.int .i64 x.quote.n) (.string x.quote.name) (.int .i64 x.quote.stamp) (.int .i64 x.quote.lib) (.slice ea2 x.quote.kids.length ec2) = W4 at hh4 hk4 ⊢
            have hS4 : Below w.heap.size w W4 := hS.trans (hk4.toBelow hnb1 hS.size)
            have oo4 := hidd ((hk4.block W1.heap.size (Array.getElem?_eq_some_iff.1 hh3.out).1 (by simp; omega)).trans hh3.out)
            clear oo3 hh3 hk4 qz q0 q1 q2 q3 q4 q5 q6 q7 q8 q9 q10
            refine hK.out _ _ hS4 (fun hS => ?_)
            clear hK K
            refine wpAnyH_done (by kernel_rfl) ?_ _
            have x0 : W4.cell? ⟨W1.heap.size, 0, none⟩ = some (.int .i64 x.op) := (cellO oo4.out).trans rfl
            have x1 : W4.cell? ⟨W1.heap.size, 1, none⟩ = some (.int .i64 x.a) := (cellO oo4.out).trans rfl
            have x2 : W4.cell? ⟨W1.heap.size, 2, none⟩ = some (.int .i64 x.n) := (cellO oo4.out).trans rfl
            have x3 : W4.cell? ⟨W1.heap.size, 3, none⟩ = some (.string x.lib) := (cellO oo4.out).trans rfl
            have x4 : W4.cell? ⟨W1.heap.size, 4, none⟩ = some (.string x.own) := (cellO oo4.out).trans rfl
            have x5 : W4.cell? ⟨W1.heap.size, 5, none⟩ = some (.int .i64 x.quote.kind) := (cellO oo4.out).trans rfl
            have x6 : W4.cell? ⟨W1.heap.size, 6, none⟩ = some (.int .i64 x.quote.n) := (cellO oo4.out).trans rfl
            have x7 : W4.cell? ⟨W1.heap.size, 7, none⟩ = some (.string x.quote.name) := (cellO oo4.out).trans rfl
            have x8 : W4.cell? ⟨W1.heap.size, 8, none⟩ = some (.int .i64 x.quote.stamp) := (cellO oo4.out).trans rfl
            have x9 : W4.cell? ⟨W1.heap.size, 9, none⟩ = some (.int .i64 x.quote.lib) := (cellO oo4.out).trans rfl
            have x10 : W4.cell? ⟨W1.heap.size, 10, none⟩ = some (.slice ea x.quote.kids.length ec) := (cellO oo4.out).trans rfl
            have y0 : W4.cell? ⟨wr.heap.size, 0, none⟩ = some (.int .i64 x.op) := (cellO hh4.out).trans rfl
            have y1 : W4.cell? ⟨wr.heap.size, 1, none⟩ = some (.int .i64 x.a) := (cellO hh4.out).trans rfl
            have y2 : W4.cell? ⟨wr.heap.size, 2, none⟩ = some (.int .i64 x.n) := (cellO hh4.out).trans rfl
            have y3 : W4.cell? ⟨wr.heap.size, 3, none⟩ = some (.string x.lib) := (cellO hh4.out).trans rfl
            have y4 : W4.cell? ⟨wr.heap.size, 4, none⟩ = some (.string x.own) := (cellO hh4.out).trans rfl
            have y5 : W4.cell? ⟨wr.heap.size, 5, none⟩ = some (.int .i64 x.quote.kind) := (cellO hh4.out).trans rfl
            have y6 : W4.cell? ⟨wr.heap.size, 6, none⟩ = some (.int .i64 x.quote.n) := (cellO hh4.out).trans rfl
            have y7 : W4.cell? ⟨wr.heap.size, 7, none⟩ = some (.string x.quote.name) := (cellO hh4.out).trans rfl
            have y8 : W4.cell? ⟨wr.heap.size, 8, none⟩ = some (.int .i64 x.quote.stamp) := (cellO hh4.out).trans rfl
            have y9 : W4.cell? ⟨wr.heap.size, 9, none⟩ = some (.int .i64 x.quote.lib) := (cellO hh4.out).trans rfl
            have y10 : W4.cell? ⟨wr.heap.size, 10, none⟩ = some (.slice ea2 x.quote.kids.length ec2) := (cellO hh4.out).trans rfl
            have HS := hidd hS
            clear hS oo4 hh4
            go_wp2_with fail
            refine (EC.out W4 HS.out).mono ?_
            rintro e v ⟨rfl, hv⟩
            have HV := hidd (HS.out.trans (hv.mono HS.out.size))
            clear hv x0 y0 x1 y1 x2 y2 x3 y3 x4 y4 x5 y5 x6 y6 x7 y7 x8 y8 x9 y9 x10 y10
            go_wp2_with fail
            go_roundw
            case rel => exact ⟨k + 1, by omega, by go_num, HV.out⟩
            case measure => simp [intOf]; omega
        · obtain rfl : k = n := by omega
          clear IN
          go_wp2_with fail
          go_roundw
          case rel => exact ⟨j + 1, by omega, by go_num, HR.out⟩
          case measure => simp [intOf]; omega
    · obtain rfl : j = n0 := by omega
      go_wp2_with fail
      go_ret
      exact ⟨rfl, HR.out⟩
end Go.Proofs.YtfmanhkeclogfaaGreatDoor
