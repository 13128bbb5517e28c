/- The document's SameProtos, of any two rows of procedures. -/
import Derived.Test.YtdnbingddbakaaaGreatDoorK45
import Derived.Test.YtdnbingddbakaaaGreatDoorK47
import Derived.BigQuiet
import Derived.Deep.QuietTactic
namespace Go.Proofs.YtdnbingddbakaaaGreatDoor
set_option linter.unusedVariables false
set_option linter.unusedSimpArgs false
open Go.RowKit

/-- Whether two rows are the same, one by one. -/
def sameG {α : Type} (f : α → α → Bool) : List α → List α → Bool
  | [], ys => ys.isEmpty
  | x :: r, ys => match ys with
    | [] => false
    | y :: s => f x y && sameG f r s
theorem sameG_cons {α : Type} (f : α → α → Bool) (d e : α) (r s : List α) : sameG f (d :: r) (e :: s) = (f d e && sameG f r s) := by rw [sameG]
theorem sameG_len {α : Type} (f : α → α → Bool) : ∀ (xs ys : List α), xs.length ≠ ys.length → sameG f xs ys = false
  | [], ys, h => by
    rw [sameG]
    cases ys with
    | nil => simp at h
    | cons e s => rfl
  | d :: r, [], h => by rw [sameG]
  | d :: r, e :: s, h => by
    rw [sameG_cons, sameG_len f r s (by simpa using h)]
    simp
theorem sameG_drop {α : Type} {f : α → α → Bool} {xs ys : List α} {j : Nat} {d e : α} (hd : xs[j]? = some d) (he : ys[j]? = some e) : sameG f (xs.drop j) (ys.drop j) = (f d e && sameG f (xs.drop (j + 1)) (ys.drop (j + 1))) := by
  obtain ⟨h1, e1⟩ := List.getElem?_eq_some_iff.1 hd
  obtain ⟨h2, e2⟩ := List.getElem?_eq_some_iff.1 he
  rw [List.drop_eq_getElem_cons h1, List.drop_eq_getElem_cons h2, e1, e2, sameG_cons]
theorem sameG_end {α : Type} {f : α → α → Bool} {xs ys : List α} {j : Nat} (h1 : xs.length ≤ j) (h2 : ys.length ≤ j) : sameG f (xs.drop j) (ys.drop j) = true := by
  rw [List.drop_of_length_le h1, List.drop_of_length_le h2]
  rfl
def sameI (x y : In) : Bool := decide (x.op = y.op) && decide (x.a = y.a) && decide (x.n = y.n) && decide (x.lib = y.lib) && decide (x.own = y.own) && sameD x.quote y.quote
def samePr (p q : Pro) : Bool := decide (p.args = q.args) && sameG sameI p.code q.code
set_option maxRecDepth 100000 in
set_option maxHeartbeats 1600000 in
theorem SamePN_len (a b : Option Addr) (n m cap cb : Nat) (w : World) (h : n ≠ m) : Calls Tryz.prog 37 #[.slice a n cap, .slice b m cb] w (Ans false w) := by
  have h' : ((n : Int) != (m : Int)) = true := by simpa using (by omega : ¬ (n : Int) = (m : Int))
  clear h
  go_enter Tryz.func37, Tryz.ntmps37
  go_wp2_with fail
  go_ret
  exact ⟨rfl, Below.refl _ _⟩
set_option maxRecDepth 100000 in
set_option maxHeartbeats 12800000 in
theorem SamePB_any (pa qa : Option Addr) (pc qc : Nat) (ps qs : List Pro) (w : World) (hp : PL w.heap.size w pa ps) (hq : PL w.heap.size w qa qs) (hnn : ps.length = qs.length) (hn : ps.length ≤ 1000000000) (hm : ∀ p ∈ ps, p.code.length ≤ 1000000000) (hm2 : ∀ p ∈ qs, p.code.length ≤ 1000000000) (hpc : ps.length ≤ pc) (hqc : ps.length ≤ qc) :
    Calls Tryz.prog 37 #[.slice pa ps.length pc, .slice qa ps.length qc] w (Ans (sameG samePr ps qs) w) := by
  have AT : Hid (∀ j, j < ps.length → ∃ (p r : Pro) (b b2 o1 o2 cc cc2 : Nat) (ca ca2 : Option Addr), ps[j]? = some p ∧ qs[j]? = some r ∧ pa = some ⟨b, o1, none⟩ ∧ qa = some ⟨b2, o2, none⟩ ∧ b < w.heap.size ∧ b2 < w.heap.size ∧ w.cell? ⟨b, o1 + j * 2, none⟩ = some (.int .i64 p.args) ∧ w.cell? ⟨b, o1 + j * 2 + 1, none⟩ = some (.slice ca p.code.length cc) ∧ w.cell? ⟨b2, o2 + j * 2, none⟩ = some (.int .i64 r.args) ∧ w.cell? ⟨b2, o2 + j * 2 + 1, none⟩ = some (.slice ca2 r.code.length cc2) ∧ p.code.length ≤ cc ∧ r.code.length ≤ cc2 ∧ p.code.length ≤ 1000000000 ∧ r.code.length ≤ 1000000000 ∧
      ∀ k, k < p.code.length → k < r.code.length → ∃ (x y : In) (c c2 g1 g2 : Nat) (ea ea2 : Option Addr) (ec ec2 : Nat), p.code[k]? = some x ∧ r.code[k]? = some y ∧ ca = some ⟨c, g1, none⟩ ∧ ca2 = some ⟨c2, g2, none⟩ ∧ c < w.heap.size ∧ c2 < w.heap.size ∧ Ic w c (g1 + k * 11) x ea ec ∧ Ic w c2 (g2 + k * 11) y ea2 ec2 ∧ ∀ W, Below w.heap.size w W → Calls Tryz.prog 66 #[dv x.quote ea ec, dv y.quote ea2 ec2] W (Ans (sameD x.quote y.quote) W)) := by
    intro j hj
    obtain ⟨p, hp1⟩ : ∃ p, ps[j]? = some p := ⟨ps[j], List.getElem?_eq_getElem hj⟩
    obtain ⟨r, hr1⟩ : ∃ p, qs[j]? = some p := ⟨qs[j]'(by omega), List.getElem?_eq_getElem _⟩
    obtain ⟨b, o1, e1, hb, h1⟩ := hp.at hp1
    obtain ⟨b2, o2, e2, hb2, h2⟩ := hq.at hr1
    obtain ⟨ca, cc, d0, d1, d2, d3⟩ := h1 j p hp1
    obtain ⟨ca2, cc2, f0, f1, f2, f3⟩ := h2 j r hr1
    refine ⟨p, r, b, b2, o1, o2, cc, cc2, ca, ca2, hp1, hr1, e1, e2, hb, hb2, d0, d1, f0, f1, d2, f2, hm p (List.mem_of_getElem? hp1), hm2 r (List.mem_of_getElem? hr1), fun k hk hk2 => ?_⟩
    obtain ⟨x, hx⟩ : ∃ x, p.code[k]? = some x := ⟨p.code[k], List.getElem?_eq_getElem hk⟩
    obtain ⟨y, hy⟩ : ∃ x, r.code[k]? = some x := ⟨r.code[k], List.getElem?_eq_getElem hk2⟩
    rcases d3 with d3 | ⟨c, g1, i1, i2, i3⟩
    · rw [d3] at hk; simp at hk
    rcases f3 with f3 | ⟨c2, g2, j1, j2, j3⟩
    · rw [f3] at hk2; simp at hk2
    obtain ⟨ea, ec, l1⟩ := i3 k x hx
    obtain ⟨ea2, ec2, l2⟩ := j3 k y hy
    obtain ⟨f, m1⟩ := l1.lk
    obtain ⟨f', m2⟩ := l2.lk
    exact ⟨x, y, c, c2, g1, g2, ea, ea2, ec, ec2, hx, hy, i1, j1, i2, j2, l1.ic, l2.ic, fun W hb => EqualB w.heap.size f f' x.quote y.quote ea ea2 ec ec2 W hb.size ((Dc.lies (fun _ h => h) _ _ _ m1).below hb) ((Dc.lies (fun _ h => h) _ _ _ m2).below hb)⟩
  obtain ⟨n0, hn0⟩ : ∃ n, n = ps.length := ⟨_, rfl⟩
  rw [← hn0] at AT hn hpc hqc hnn ⊢
  obtain ⟨q, hqq⟩ : ∃ q, q = sameG samePr ps qs := ⟨_, rfl⟩
  rw [← hqq]
  have HQ := hidd hqq
  have HN0 : Hid (n0 = ps.length ∧ n0 = qs.length) := ⟨hn0, hnn⟩
  clear hp hq hm hm2 hn0 hnn hqq
  go_enter Tryz.func37, Tryz.ntmps37
  go_wp2_with fail
  go_loopw [16] (fun ix wr => ∃ j : Nat, j ≤ n0 ∧ ix = .int .i64 j ∧ Hid (Below w.heap.size w wr ∧ q = sameG samePr (ps.drop j) (qs.drop j))) (fun ix _ => n0 - (intOf ix).toNat)
  case atStart => exact ⟨0, Nat.zero_le _, rfl, Below.refl _ _, HQ.out⟩
  case round =>
    clear HQ
    obtain ⟨j, hj, rfl, HR0⟩ := hrel
    by_cases hlt : j < n0
    · obtain ⟨p, r, b, b2, o1, o2, cc, cc2, ca, ca2, hp1, hr1, rfl, rfl, hb, hb2, d0, d1, f0, f1, hc1, hc2, hn6, hn62, hin⟩ := AT.out j hlt
      have HQ2 := hidd (HR0.out.2.trans (sameG_drop hp1 hr1))
      have HB0 := hidd HR0.out.1
      have IN := hidd hin
      have s0 := (HB0.out.cell (p := ⟨b, o1 + j * 2, none⟩) hb).trans d0
      have s1 := (HB0.out.cell (p := ⟨b, o1 + j * 2 + 1, none⟩) hb).trans d1
      have t0 := (HB0.out.cell (p := ⟨b2, o2 + j * 2, none⟩) hb2).trans f0
      have t1 := (HB0.out.cell (p := ⟨b2, o2 + j * 2 + 1, none⟩) hb2).trans f1
      obtain ⟨n, hnc⟩ : ∃ n, n = p.code.length := ⟨_, rfl⟩
      obtain ⟨n2, hnc2⟩ : ∃ n, n = r.code.length := ⟨_, rfl⟩
      rw [← hnc] at s1 d1 hc1 hn6 IN
      rw [← hnc2] at t1 f1 hc2 hn62 IN
      have HNC := hidd hnc
      have HNC2 := hidd hnc2
      clear hin hp1 hr1 HR0 hnc hnc2
      go_upto_region 6 with fail
      by_cases ha : p.args = r.args
      case neg =>
        have ha' : (p.args != r.args) = true := by simpa using ha
        have hqf : q = false := by rw [HQ2.out]; unfold samePr; simp [ha]
        subst hqf
        clear ha
        go_quiet (fail)
        go_wp2_with fail
        go_ret
        exact ⟨rfl, below_drewN HB0.out _⟩
      by_cases hc : n = n2
      case neg =>
        have hc' : ((n : Int) != (n2 : Int)) = true := by simpa using (by omega : ¬ (n : Int) = (n2 : Int))
        have hqf : q = false := by
          rw [HQ2.out]; unfold samePr
          rw [sameG_len sameI p.code r.code (by rw [← HNC.out, ← HNC2.out]; exact hc)]
          simp
        subst hqf
        rw [← ha] at t0
        clear ha hc
        go_quiet (fail)
        go_wp2_with fail
        go_ret
        exact ⟨rfl, below_drewN HB0.out _⟩
      have HQP : Hid (q = (sameG sameI p.code r.code && sameG samePr (ps.drop (j + 1)) (qs.drop (j + 1)))) := by
        unfold Hid
        rw [HQ2.out]
        unfold samePr
        simp [ha]
      rw [← ha] at t0
      subst hc
      clear ha HQ2
      go_quiet (fail)
      have HS6 : Hid (Below w.heap.size w (wr.drewN nq)) := below_drewN HB0.out nq
      clear HB0 s0 s1 t0 t1
      generalize wr.drewN nq = wr at HS6 ⊢
      have r1 : wr.cell? ⟨b, o1 + j * 2 + 1, none⟩ = some (.slice ca n cc) := (HS6.out.cell (p := ⟨b, o1 + j * 2 + 1, none⟩) hb).trans d1
      go_wp2_with fail
      clear r1
      go_loopw [51] (fun ix wr => ∃ k : Nat, k ≤ n ∧ ix = .int .i64 k ∧ Hid (Below w.heap.size w wr ∧ sameG sameI p.code r.code = sameG sameI (p.code.drop k) (r.code.drop k))) (fun ix _ => n - (intOf ix).toNat)
      case atStart => exact ⟨0, Nat.zero_le _, rfl, HS6.out, rfl⟩
      case round =>
        obtain ⟨k, hk, rfl, HR1⟩ := hrel
        by_cases hlk : k < n
        · obtain ⟨x, y, c, c2, g1, g2, ea, ea2, ec, ec2, hx, hy, e1, e2, hc3, hc4, ix, iy, ec0⟩ := IN.out k hlk hlk
          have HQK := hidd (HR1.out.2.trans (sameG_drop hx hy))
          have HR := hidd HR1.out.1
          have IX := hidd ix
          have IY := hidd iy
          have EC := hidd ec0
          unfold dv at EC
          clear ix iy ec0 IN HR1 hx hy
          rw [e1] at d1
          rw [e2] at f1
          clear e1 e2
          go_upto_region 11 with fail
          refine wp_region_held_drew (S := fun u => Below w.heap.size w u) (by kernel_rfl) (Below.drew HR.out) (fun hS => ?_)
          refine wpAnyH_take (i := 0) (oi := { dst := some 54, op := Op.move (Operand.tmp 0), type := 22, pos := _, after := _, guard := none }) (v := .slice (some ⟨b, o1, none⟩) n0 pc) rfl (by kernel_rfl) (by kernel_rfl) (by kernel_rfl) (fun _ _ _ h => h) (Or.inl ⟨by rfl, fun u hu => by go_simp⟩) hS ?_
          simp only [Act.put, List.setIfInBounds_toArray, List.set_cons_zero, List.set_cons_succ]
          refine wpAnyH_take (i := 1) (oi := { dst := some 55, op := Op.move (Operand.tmp 5), type := 3, pos := _, after := _, guard := none }) (v := .int .i64 j) rfl (by kernel_rfl) (by kernel_rfl) (by kernel_rfl) (fun _ _ _ h => h) (Or.inl ⟨by rfl, fun u hu => by go_simp⟩) hS ?_
          simp only [Act.put, List.setIfInBounds_toArray, List.set_cons_zero, List.set_cons_succ]
          refine wpAnyH_take (i := 2) (oi := { dst := some 56, op := Op.indexAddr 22 (Operand.tmp 54) (Operand.tmp 55), type := 0, pos := _, after := _, guard := none }) (v := .pointer (some ⟨b, o1 + j * 2, none⟩)) rfl (by kernel_rfl) (by kernel_rfl) (by kernel_rfl) (fun _ _ _ h => h) (Or.inl ⟨by rfl, fun u hu => by go_simp⟩) hS ?_
          simp only [Act.put, List.setIfInBounds_toArray, List.set_cons_zero, List.set_cons_succ]
          refine wpAnyH_take (i := 3) (oi := { dst := some 57, op := Op.fieldAddr 47 (Operand.tmp 56) 1, type := 0, pos := _, after := _, guard := none }) (v := .pointer (some ⟨b, o1 + j * 2 + 1, none⟩)) rfl (by kernel_rfl) (by kernel_rfl) (by kernel_rfl) (fun _ _ _ h => h) (Or.inl ⟨by rfl, fun u hu => by go_simp⟩) hS ?_
          simp only [Act.put, List.setIfInBounds_toArray, List.set_cons_zero, List.set_cons_succ]
          refine wpAnyH_take (i := 4) (oi := { dst := some 58, op := Op.load 45 (Operand.tmp 57), type := 45, pos := _, after := _, guard := none }) (v := .slice (some ⟨c, g1, none⟩) n cc) rfl (by kernel_rfl) (by kernel_rfl) (by kernel_rfl) (fun _ _ _ h => h) (Or.inl ⟨by rfl, fun u hu => by (have z := (hu.cell (p := ⟨b, o1 + j * 2 + 1, none⟩) hb).trans d1; go_simp)⟩) hS ?_
          simp only [Act.put, List.setIfInBounds_toArray, List.set_cons_zero, List.set_cons_succ]
          refine wpAnyH_take (i := 5) (oi := { dst := some 59, op := Op.move (Operand.tmp 6), type := 3, pos := _, after := _, guard := none }) (v := .int .i64 k) rfl (by kernel_rfl) (by kernel_rfl) (by kernel_rfl) (fun _ _ _ h => h) (Or.inl ⟨by rfl, fun u hu => by go_simp⟩) hS ?_
          simp only [Act.put, List.setIfInBounds_toArray, List.set_cons_zero, List.set_cons_succ]
          refine wpAnyH_take (i := 6) (oi := { dst := some 60, op := Op.indexAddr 45 (Operand.tmp 58) (Operand.tmp 59), type := 0, pos := _, after := _, guard := none }) (v := .pointer (some ⟨c, g1 + k * 11, none⟩)) rfl (by kernel_rfl) (by kernel_rfl) (by kernel_rfl) (fun _ _ _ h => h) (Or.inl ⟨by rfl, fun u hu => by go_simp⟩) hS ?_
          simp only [Act.put, List.setIfInBounds_toArray, List.set_cons_zero, List.set_cons_succ]
          refine wpAnyH_take (i := 7) (oi := { dst := some 61, op := Op.load 52 (Operand.tmp 60), type := 52, pos := _, after := _, guard := none }) (v := .agg #[.int .i64 x.op, .int .i64 x.a, .int .i64 x.n, .string x.lib, .string x.own, .int .i64 x.quote.kind, .int .i64 x.quote.n, .string x.quote.name, .int .i64 x.quote.stamp, .int .i64 x.quote.lib, .slice ea x.quote.kids.length ec]) rfl (by kernel_rfl) (by kernel_rfl) (by kernel_rfl) (fun _ _ _ h => h) (Or.inl ⟨by rfl, fun u hu => by (have z0 := (hu.cell (p := ⟨c, g1 + k * 11, none⟩) hc3).trans IX.out.c0; have z1 := (hu.cell (p := ⟨c, g1 + k * 11 + 1, none⟩) hc3).trans IX.out.c1; have z2 := (hu.cell (p := ⟨c, g1 + k * 11 + 2, none⟩) hc3).trans IX.out.c2; have z3 := (hu.cell (p := ⟨c, g1 + k * 11 + 3, none⟩) hc3).trans IX.out.c3; have z4 := (hu.cell (p := ⟨c, g1 + k * 11 + 4, none⟩) hc3).trans IX.out.c4; have z5 := (hu.cell (p := ⟨c, g1 + k * 11 + 5, none⟩) hc3).trans IX.out.c5; have z6 := (hu.cell (p := ⟨c, g1 + k * 11 + 6, none⟩) hc3).trans IX.out.c6; have z7 := (hu.cell (p := ⟨c, g1 + k * 11 + 7, none⟩) hc3).trans IX.out.c7; have z8 := (hu.cell (p := ⟨c, g1 + k * 11 + 8, none⟩) hc3).trans IX.out.c8; have z9 := (hu.cell (p := ⟨c, g1 + k * 11 + 9, none⟩) hc3).trans IX.out.c9; have z10 := (hu.cell (p := ⟨c, g1 + k * 11 + 10, none⟩) hc3).trans IX.out.c10; go_simp)⟩) hS ?_
          simp only [Act.put, List.setIfInBounds_toArray, List.set_cons_zero, List.set_cons_succ]
          refine wpAnyH_take (i := 8) (oi := { dst := some 62, op := Op.move (Operand.tmp 1), type := 22, pos := _, after := _, guard := none }) (v := .slice (some ⟨b2, o2, none⟩) n0 qc) rfl (by kernel_rfl) (by kernel_rfl) (by kernel_rfl) (fun _ _ _ h => h) (Or.inl ⟨by rfl, fun u hu => by go_simp⟩) hS ?_
          simp only [Act.put, List.setIfInBounds_toArray, List.set_cons_zero, List.set_cons_succ]
          refine wpAnyH_take (i := 9) (oi := { dst := some 63, op := Op.move (Operand.tmp 5), type := 3, pos := _, after := _, guard := none }) (v := .int .i64 j) rfl (by kernel_rfl) (by kernel_rfl) (by kernel_rfl) (fun _ _ _ h => h) (Or.inl ⟨by rfl, fun u hu => by go_simp⟩) hS ?_
          simp only [Act.put, List.setIfInBounds_toArray, List.set_cons_zero, List.set_cons_succ]
          refine wpAnyH_take (i := 10) (oi := { dst := some 64, op := Op.indexAddr 22 (Operand.tmp 62) (Operand.tmp 63), type := 0, pos := _, after := _, guard := none }) (v := .pointer (some ⟨b2, o2 + j * 2, none⟩)) rfl (by kernel_rfl) (by kernel_rfl) (by kernel_rfl) (fun _ _ _ h => h) (Or.inl ⟨by rfl, fun u hu => by go_simp⟩) hS ?_
          simp only [Act.put, List.setIfInBounds_toArray, List.set_cons_zero, List.set_cons_succ]
          refine wpAnyH_take (i := 11) (oi := { dst := some 65, op := Op.fieldAddr 47 (Operand.tmp 64) 1, type := 0, pos := _, after := _, guard := none }) (v := .pointer (some ⟨b2, o2 + j * 2 + 1, none⟩)) rfl (by kernel_rfl) (by kernel_rfl) (by kernel_rfl) (fun _ _ _ h => h) (Or.inl ⟨by rfl, fun u hu => by go_simp⟩) hS ?_
          simp only [Act.put, List.setIfInBounds_toArray, List.set_cons_zero, List.set_cons_succ]
          refine wpAnyH_take (i := 12) (oi := { dst := some 66, op := Op.load 45 (Operand.tmp 65), type := 45, pos := _, after := _, guard := none }) (v := .slice (some ⟨c2, g2, none⟩) n cc2) rfl (by kernel_rfl) (by kernel_rfl) (by kernel_rfl) (fun _ _ _ h => h) (Or.inl ⟨by rfl, fun u hu => by (have z := (hu.cell (p := ⟨b2, o2 + j * 2 + 1, none⟩) hb2).trans f1; go_simp)⟩) hS ?_
          simp only [Act.put, List.setIfInBounds_toArray, List.set_cons_zero, List.set_cons_succ]
          refine wpAnyH_take (i := 13) (oi := { dst := some 67, op := Op.move (Operand.tmp 6), type := 3, pos := _, after := _, guard := none }) (v := .int .i64 k) rfl (by kernel_rfl) (by kernel_rfl) (by kernel_rfl) (fun _ _ _ h => h) (Or.inl ⟨by rfl, fun u hu => by go_simp⟩) hS ?_
          simp only [Act.put, List.setIfInBounds_toArray, List.set_cons_zero, List.set_cons_succ]
          refine wpAnyH_take (i := 14) (oi := { dst := some 68, op := Op.indexAddr 45 (Operand.tmp 66) (Operand.tmp 67), type := 0, pos := _, after := _, guard := none }) (v := .pointer (some ⟨c2, g2 + k * 11, none⟩)) rfl (by kernel_rfl) (by kernel_rfl) (by kernel_rfl) (fun _ _ _ h => h) (Or.inl ⟨by rfl, fun u hu => by go_simp⟩) hS ?_
          simp only [Act.put, List.setIfInBounds_toArray, List.set_cons_zero, List.set_cons_succ]
          refine wpAnyH_take (i := 15) (oi := { dst := some 69, op := Op.load 52 (Operand.tmp 68), type := 52, pos := _, after := _, guard := none }) (v := .agg #[.int .i64 y.op, .int .i64 y.a, .int .i64 y.n, .string y.lib, .string y.own, .int .i64 y.quote.kind, .int .i64 y.quote.n, .string y.quote.name, .int .i64 y.quote.stamp, .int .i64 y.quote.lib, .slice ea2 y.quote.kids.length ec2]) rfl (by kernel_rfl) (by kernel_rfl) (by kernel_rfl) (fun _ _ _ h => h) (Or.inl ⟨by rfl, fun u hu => by (have z0 := (hu.cell (p := ⟨c2, g2 + k * 11, none⟩) hc4).trans IY.out.c0; have z1 := (hu.cell (p := ⟨c2, g2 + k * 11 + 1, none⟩) hc4).trans IY.out.c1; have z2 := (hu.cell (p := ⟨c2, g2 + k * 11 + 2, none⟩) hc4).trans IY.out.c2; have z3 := (hu.cell (p := ⟨c2, g2 + k * 11 + 3, none⟩) hc4).trans IY.out.c3; have z4 := (hu.cell (p := ⟨c2, g2 + k * 11 + 4, none⟩) hc4).trans IY.out.c4; have z5 := (hu.cell (p := ⟨c2, g2 + k * 11 + 5, none⟩) hc4).trans IY.out.c5; have z6 := (hu.cell (p := ⟨c2, g2 + k * 11 + 6, none⟩) hc4).trans IY.out.c6; have z7 := (hu.cell (p := ⟨c2, g2 + k * 11 + 7, none⟩) hc4).trans IY.out.c7; have z8 := (hu.cell (p := ⟨c2, g2 + k * 11 + 8, none⟩) hc4).trans IY.out.c8; have z9 := (hu.cell (p := ⟨c2, g2 + k * 11 + 9, none⟩) hc4).trans IY.out.c9; have z10 := (hu.cell (p := ⟨c2, g2 + k * 11 + 10, none⟩) hc4).trans IY.out.c10; go_simp)⟩) hS ?_
          simp only [Act.put, List.setIfInBounds_toArray, List.set_cons_zero, List.set_cons_succ]
          refine wpAnyH_ready (rs := [16, 17]) (by kernel_rfl) (by simp) (AllReadyH.cons (o := { dst := some 7, op := Op.alloc 52, type := 0, pos := _, after := _, guard := none }) rfl (fun K hK => ?_) (AllReadyH.cons (o := { dst := some 8, op := Op.alloc 52, type := 0, pos := _, after := _, guard := none }) rfl (fun K hK => ?_) AllReadyH.nil))
          · go_simp
            have hb1 : Below wr.drew.heap.size wr.drew (wr.drew.alloc (.cells #[.int .i64 0, .int .i64 0, .int .i64 0, .string ⟨#[]⟩, .string ⟨#[]⟩, .int .i64 0, .int .i64 0, .string ⟨#[]⟩, .int .i64 0, .int .i64 0, .slice none 0 0] 52)) := (Below.refl _ _).alloc (Nat.le_refl _) _
            have hN1 : Hid ((wr.drew.alloc (.cells #[.int .i64 0, .int .i64 0, .int .i64 0, .string ⟨#[]⟩, .string ⟨#[]⟩, .int .i64 0, .int .i64 0, .string ⟨#[]⟩, .int .i64 0, .int .i64 0, .slice none 0 0] 52)).heap[wr.heap.size]? = some (.cells #[.int .i64 0, .int .i64 0, .int .i64 0, .string ⟨#[]⟩, .string ⟨#[]⟩, .int .i64 0, .int .i64 0, .string ⟨#[]⟩, .int .i64 0, .int .i64 0, .slice none 0 0] 52 (0, 0))) := World.alloc_heap_new wr.drew _
            have hnb1 : w.heap.size ≤ wr.heap.size := hS.size
            have hS1 := hS.trans (hb1.mono hS.size)
            change K _ (wr.drew.alloc (.cells #[.int .i64 0, .int .i64 0, .int .i64 0, .string ⟨#[]⟩, .string ⟨#[]⟩, .int .i64 0, .int .i64 0, .string ⟨#[]⟩, .int .i64 0, .int .i64 0, .slice none 0 0] 52))
            generalize wr.drew.alloc (.cells #[.int .i64 0, .int .i64 0, .int .i64 0, .string ⟨#[]⟩, .string ⟨#[]⟩, .int .i64 0, .int .i64 0, .string ⟨#[]⟩, .int .i64 0, .int .i64 0, .slice none 0 0] 52) = W1 at hb1 hN1 hS1 ⊢
            clear hb1
            refine hK.out _ _ hS1 (fun hS => ?_)
            clear hK K
            refine wpAnyH_ready (rs := [17]) (by kernel_rfl) (by simp) (AllReadyH.cons (o := { dst := some 8, op := Op.alloc 52, type := 0, pos := _, after := _, guard := none }) rfl (fun K hK => ?_) AllReadyH.nil)
            go_simp
            have hb2 : Below W1.heap.size W1 (W1.alloc (.cells #[.int .i64 0, .int .i64 0, .int .i64 0, .string ⟨#[]⟩, .string ⟨#[]⟩, .int .i64 0, .int .i64 0, .string ⟨#[]⟩, .int .i64 0, .int .i64 0, .slice none 0 0] 52)) := (Below.refl _ _).alloc (Nat.le_refl _) _
            have hN2 : Hid ((W1.alloc (.cells #[.int .i64 0, .int .i64 0, .int .i64 0, .string ⟨#[]⟩, .string ⟨#[]⟩, .int .i64 0, .int .i64 0, .string ⟨#[]⟩, .int .i64 0, .int .i64 0, .slice none 0 0] 52)).heap[W1.heap.size]? = some (.cells #[.int .i64 0, .int .i64 0, .int .i64 0, .string ⟨#[]⟩, .string ⟨#[]⟩, .int .i64 0, .int .i64 0, .string ⟨#[]⟩, .int .i64 0, .int .i64 0, .slice none 0 0] 52 (0, 0))) := World.alloc_heap_new W1 _
            have hnb2 : w.heap.size ≤ W1.heap.size := hS.size
            have hS2 := hS.trans (hb2.mono hS.size)
            change K _ (W1.alloc (.cells #[.int .i64 0, .int .i64 0, .int .i64 0, .string ⟨#[]⟩, .string ⟨#[]⟩, .int .i64 0, .int .i64 0, .string ⟨#[]⟩, .int .i64 0, .int .i64 0, .slice none 0 0] 52))
            generalize W1.alloc (.cells #[.int .i64 0, .int .i64 0, .int .i64 0, .string ⟨#[]⟩, .string ⟨#[]⟩, .int .i64 0, .int .i64 0, .string ⟨#[]⟩, .int .i64 0, .int .i64 0, .slice none 0 0] 52) = W2 at hb2 hN2 hS2 ⊢
            have hne12 : wr.heap.size < W1.heap.size := (Array.getElem?_eq_some_iff.1 hN1.out).1
            have hN1b := hidd ((hb2.block _ (Array.getElem?_eq_some_iff.1 hN1.out).1).trans hN1.out)
            clear hN1
            clear hb2
            refine hK.out _ _ hS2 (fun hS => ?_)
            clear hK K
            refine wpAnyH_ready (rs := [18]) (by kernel_rfl) (by simp) (AllReadyH.cons (o := { dst := none, op := Op.store 52 (Operand.tmp 7) (Operand.tmp 61), type := 0, pos := _, after := _, guard := none }) rfl (fun K hK => ?_) AllReadyH.nil)
            have q0 : W2.cell? ⟨wr.heap.size, 0, none⟩ = some (.int .i64 0) := (cellO hN1b.out).trans rfl
            have q1 : W2.cell? ⟨wr.heap.size, 1, none⟩ = some (.int .i64 0) := (cellO hN1b.out).trans rfl
            have q2 : W2.cell? ⟨wr.heap.size, 2, none⟩ = some (.int .i64 0) := (cellO hN1b.out).trans rfl
            have q3 : W2.cell? ⟨wr.heap.size, 3, none⟩ = some (.string ⟨#[]⟩) := (cellO hN1b.out).trans rfl
            have q4 : W2.cell? ⟨wr.heap.size, 4, none⟩ = some (.string ⟨#[]⟩) := (cellO hN1b.out).trans rfl
            have q5 : W2.cell? ⟨wr.heap.size, 5, none⟩ = some (.int .i64 0) := (cellO hN1b.out).trans rfl
            have q6 : W2.cell? ⟨wr.heap.size, 6, none⟩ = some (.int .i64 0) := (cellO hN1b.out).trans rfl
            have q7 : W2.cell? ⟨wr.heap.size, 7, none⟩ = some (.string ⟨#[]⟩) := (cellO hN1b.out).trans rfl
            have q8 : W2.cell? ⟨wr.heap.size, 8, none⟩ = some (.int .i64 0) := (cellO hN1b.out).trans rfl
            have q9 : W2.cell? ⟨wr.heap.size, 9, none⟩ = some (.int .i64 0) := (cellO hN1b.out).trans rfl
            have q10 : W2.cell? ⟨wr.heap.size, 10, none⟩ = some (.slice none 0 0) := (cellO hN1b.out).trans rfl
            have qz : ∀ j, W2.frozen? ⟨wr.heap.size, j, none⟩ = false := by intro j; simp [World.frozen?, show W2.heap[wr.heap.size]? = _ from hN1b.out]
            go_simp
            have hh3 := hidd (fill11_heap hN1b.out (.int .i64 x.op) (.int .i64 x.a) (.int .i64 x.n) (.string x.lib) (.string x.own) (.int .i64 x.quote.kind) (.int .i64 x.quote.n) (.string x.quote.name) (.int .i64 x.quote.stamp) (.int .i64 x.quote.lib) (.slice ea x.quote.kids.length ec))
            have hk3 := fill11_keep W2 wr.heap.size (.int .i64 x.op) (.int .i64 x.a) (.int .i64 x.n) (.string x.lib) (.string x.own) (.int .i64 x.quote.kind) (.int .i64 x.quote.n) (.string x.quote.name) (.int .i64 x.quote.stamp) (.int .i64 x.quote.lib) (.slice ea x.quote.kids.length ec)
            change K _ (fill11 W2 wr.heap.size (.int .i64 x.op) (.int .i64 x.a) (.int .i64 x.n) (.string x.lib) (.string x.own) (.int .i64 x.quote.kind) (.int .i64 x.quote.n) (.string x.quote.name) (.int .i64 x.quote.stamp) (.int .i64 x.quote.lib) (.slice ea x.quote.kids.length ec))
            generalize fill11 W2 wr.heap.size (.int .i64 x.op) (.int .i64 x.a) (.int .i64 x.n) (.string x.lib) (.string x.own) (.int .i64 x.quote.kind) (.int .i64 x.quote.n) (.string x.quote.name) (.int .i64 x.quote.stamp) (.int .i64 x.quote.lib) (.slice ea x.quote.kids.length ec) = W3 at hh3 hk3 ⊢
            have hS3 : Below w.heap.size w W3 := hS.trans (hk3.toBelow hnb1 hS.size)
            have oo3 := hidd ((hk3.block W1.heap.size (Array.getElem?_eq_some_iff.1 hN2.out).1 (by simp; omega)).trans hN2.out)
            clear hN1b hN2 hk3 qz q0 q1 q2 q3 q4 q5 q6 q7 q8 q9 q10
            refine hK.out _ _ hS3 (fun hS => ?_)
            clear hK K
            refine wpAnyH_ready (rs := [19]) (by kernel_rfl) (by simp) (AllReadyH.cons (o := { dst := none, op := Op.store 52 (Operand.tmp 8) (Operand.tmp 69), type := 0, pos := _, after := _, guard := none }) rfl (fun K hK => ?_) AllReadyH.nil)
            have q0 : W3.cell? ⟨W1.heap.size, 0, none⟩ = some (.int .i64 0) := (cellO oo3.out).trans rfl
            have q1 : W3.cell? ⟨W1.heap.size, 1, none⟩ = some (.int .i64 0) := (cellO oo3.out).trans rfl
            have q2 : W3.cell? ⟨W1.heap.size, 2, none⟩ = some (.int .i64 0) := (cellO oo3.out).trans rfl
            have q3 : W3.cell? ⟨W1.heap.size, 3, none⟩ = some (.string ⟨#[]⟩) := (cellO oo3.out).trans rfl
            have q4 : W3.cell? ⟨W1.heap.size, 4, none⟩ = some (.string ⟨#[]⟩) := (cellO oo3.out).trans rfl
            have q5 : W3.cell? ⟨W1.heap.size, 5, none⟩ = some (.int .i64 0) := (cellO oo3.out).trans rfl
            have q6 : W3.cell? ⟨W1.heap.size, 6, none⟩ = some (.int .i64 0) := (cellO oo3.out).trans rfl
            have q7 : W3.cell? ⟨W1.heap.size, 7, none⟩ = some (.string ⟨#[]⟩) := (cellO oo3.out).trans rfl
            have q8 : W3.cell? ⟨W1.heap.size, 8, none⟩ = some (.int .i64 0) := (cellO oo3.out).trans rfl
            have q9 : W3.cell? ⟨W1.heap.size, 9, none⟩ = some (.int .i64 0) := (cellO oo3.out).trans rfl
            have q10 : W3.cell? ⟨W1.heap.size, 10, none⟩ = some (.slice none 0 0) := (cellO oo3.out).trans rfl
            have qz : ∀ j, W3.frozen? ⟨W1.heap.size, j, none⟩ = false := by intro j; simp [World.frozen?, show W3.heap[W1.heap.size]? = _ from oo3.out]
            go_simp
            have hh4 := hidd (fill11_heap oo3.out (.int .i64 y.op) (.int .i64 y.a) (.int .i64 y.n) (.string y.lib) (.string y.own) (.int .i64 y.quote.kind) (.int .i64 y.quote.n) (.string y.quote.name) (.int .i64 y.quote.stamp) (.int .i64 y.quote.lib) (.slice ea2 y.quote.kids.length ec2))
            have hk4 := fill11_keep W3 W1.heap.size (.int .i64 y.op) (.int .i64 y.a) (.int .i64 y.n) (.string y.lib) (.string y.own) (.int .i64 y.quote.kind) (.int .i64 y.quote.n) (.string y.quote.name) (.int .i64 y.quote.stamp) (.int .i64 y.quote.lib) (.slice ea2 y.quote.kids.length ec2)
            change K _ (fill11 W3 W1.heap.size (.int .i64 y.op) (.int .i64 y.a) (.int .i64 y.n) (.string y.lib) (.string y.own) (.int .i64 y.quote.kind) (.int .i64 y.quote.n) (.string y.quote.name) (.int .i64 y.quote.stamp) (.int .i64 y.quote.lib) (.slice ea2 y.quote.kids.length ec2))
            generalize fill11 W3 W1.heap.size (.int .i64 y.op) (.int .i64 y.a) (.int .i64 y.n) (.string y.lib) (.string y.own) (.int .i64 y.quote.kind) (.int .i64 y.quote.n) (.string y.quote.name) (.int .i64 y.quote.stamp) (.int .i64 y.quote.lib) (.slice ea2 y.quote.kids.length ec2) = W4 at hh4 hk4 ⊢
            have hS4 : Below w.heap.size w W4 := hS.trans (hk4.toBelow hnb2 hS.size)
            have oo4 := hidd ((hk4.block wr.heap.size (Array.getElem?_eq_some_iff.1 hh3.out).1 (by simp; omega)).trans hh3.out)
            clear oo3 hh3 hk4 qz q0 q1 q2 q3 q4 q5 q6 q7 q8 q9 q10
            refine hK.out _ _ hS4 (fun hS => ?_)
            clear hK K
            refine wpAnyH_done (by kernel_rfl) ?_ _
            have x0 : W4.cell? ⟨wr.heap.size, 0, none⟩ = some (.int .i64 x.op) := (cellO oo4.out).trans rfl
            have x1 : W4.cell? ⟨wr.heap.size, 1, none⟩ = some (.int .i64 x.a) := (cellO oo4.out).trans rfl
            have x2 : W4.cell? ⟨wr.heap.size, 2, none⟩ = some (.int .i64 x.n) := (cellO oo4.out).trans rfl
            have x3 : W4.cell? ⟨wr.heap.size, 3, none⟩ = some (.string x.lib) := (cellO oo4.out).trans rfl
            have x4 : W4.cell? ⟨wr.heap.size, 4, none⟩ = some (.string x.own) := (cellO oo4.out).trans rfl
            have x5 : W4.cell? ⟨wr.heap.size, 5, none⟩ = some (.int .i64 x.quote.kind) := (cellO oo4.out).trans rfl
            have x6 : W4.cell? ⟨wr.heap.size, 6, none⟩ = some (.int .i64 x.quote.n) := (cellO oo4.out).trans rfl
            have x7 : W4.cell? ⟨wr.heap.size, 7, none⟩ = some (.string x.quote.name) := (cellO oo4.out).trans rfl
            have x8 : W4.cell? ⟨wr.heap.size, 8, none⟩ = some (.int .i64 x.quote.stamp) := (cellO oo4.out).trans rfl
            have x9 : W4.cell? ⟨wr.heap.size, 9, none⟩ = some (.int .i64 x.quote.lib) := (cellO oo4.out).trans rfl
            have x10 : W4.cell? ⟨wr.heap.size, 10, none⟩ = some (.slice ea x.quote.kids.length ec) := (cellO oo4.out).trans rfl
            have y0 : W4.cell? ⟨W1.heap.size, 0, none⟩ = some (.int .i64 y.op) := (cellO hh4.out).trans rfl
            have y1 : W4.cell? ⟨W1.heap.size, 1, none⟩ = some (.int .i64 y.a) := (cellO hh4.out).trans rfl
            have y2 : W4.cell? ⟨W1.heap.size, 2, none⟩ = some (.int .i64 y.n) := (cellO hh4.out).trans rfl
            have y3 : W4.cell? ⟨W1.heap.size, 3, none⟩ = some (.string y.lib) := (cellO hh4.out).trans rfl
            have y4 : W4.cell? ⟨W1.heap.size, 4, none⟩ = some (.string y.own) := (cellO hh4.out).trans rfl
            have y5 : W4.cell? ⟨W1.heap.size, 5, none⟩ = some (.int .i64 y.quote.kind) := (cellO hh4.out).trans rfl
            have y6 : W4.cell? ⟨W1.heap.size, 6, none⟩ = some (.int .i64 y.quote.n) := (cellO hh4.out).trans rfl
            have y7 : W4.cell? ⟨W1.heap.size, 7, none⟩ = some (.string y.quote.name) := (cellO hh4.out).trans rfl
            have y8 : W4.cell? ⟨W1.heap.size, 8, none⟩ = some (.int .i64 y.quote.stamp) := (cellO hh4.out).trans rfl
            have y9 : W4.cell? ⟨W1.heap.size, 9, none⟩ = some (.int .i64 y.quote.lib) := (cellO hh4.out).trans rfl
            have y10 : W4.cell? ⟨W1.heap.size, 10, none⟩ = some (.slice ea2 y.quote.kids.length ec2) := (cellO hh4.out).trans rfl
            have HS := hidd hS
            clear hS oo4 hh4
            by_cases h0 : x.op = y.op
            case neg =>
              have h0' : (x.op != y.op) = true := by simpa using h0
              have hqf : q = false := by rw [HQP.out, HQK.out]; simp [sameI, h0]
              subst hqf
              clear h0
              go_wp2_with fail
              go_ret
              exact ⟨rfl, HS.out⟩
            by_cases h1 : x.a = y.a
            case neg =>
              have h1' : (x.a != y.a) = true := by simpa using h1
              have hqf : q = false := by rw [HQP.out, HQK.out]; simp [sameI, h1]
              subst hqf
              rw [← h0] at y0
              clear h0 h1
              go_wp2_with fail
              go_ret
              exact ⟨rfl, HS.out⟩
            by_cases h2 : x.n = y.n
            case neg =>
              have h2' : (x.n != y.n) = true := by simpa using h2
              have hqf : q = false := by rw [HQP.out, HQK.out]; simp [sameI, h2]
              subst hqf
              rw [← h0] at y0
              rw [← h1] at y1
              clear h0 h1 h2
              go_wp2_with fail
              go_ret
              exact ⟨rfl, HS.out⟩
            by_cases h3 : x.lib = y.lib
            case neg =>
              have h3' := beqS_ne h3
              have h3'' : (x.lib.toList != y.lib.toList) = true := by simp only [bne, h3', Bool.not_false]
              have hqf : q = false := by rw [HQP.out, HQK.out]; simp [sameI, h3]
              subst hqf
              rw [← h0] at y0
              rw [← h1] at y1
              rw [← h2] at y2
              clear h0 h1 h2 h3
              go_wp2_with fail
              go_ret
              exact ⟨rfl, HS.out⟩
            by_cases h4 : x.own = y.own
            case neg =>
              have h4' := beqS_ne h4
              have h4'' : (x.own.toList != y.own.toList) = true := by simp only [bne, h4', Bool.not_false]
              have hqf : q = false := by rw [HQP.out, HQK.out]; simp [sameI, h4]
              subst hqf
              rw [← h0] at y0
              rw [← h1] at y1
              rw [← h2] at y2
              rw [← h3] at y3
              clear h0 h1 h2 h3 h4
              go_wp2_with fail
              go_ret
              exact ⟨rfl, HS.out⟩
            have HSI : Hid (sameI x y = sameD x.quote y.quote) := by unfold Hid sameI; simp [h0, h1, h2, h3, h4]
            rw [← h0] at y0
            rw [← h1] at y1
            rw [← h2] at y2
            rw [← h3] at y3
            rw [← h4] at y4
            clear h0 h1 h2 h3 h4
            go_wp2_with fail
            refine (EC.out W4 HS.out).mono ?_
            rintro e v ⟨rfl, hv⟩
            have HV := hidd (HS.out.trans (hv.mono HS.out.size))
            clear hv x0 y0 x1 y1 x2 y2 x3 y3 x4 y4 x5 y5 x6 y6 x7 y7 x8 y8 x9 y9 x10 y10
            obtain ⟨qd, hqd⟩ : ∃ b, b = sameD x.quote y.quote := ⟨_, rfl⟩
            rw [← hqd]
            have HQD := hidd hqd
            clear hqd
            cases qd
            · have hqf : q = false := by rw [HQP.out, HQK.out, HSI.out, ← HQD.out]; simp
              subst hqf
              go_wp2_with fail
              go_ret
              exact ⟨rfl, HV.out⟩
            · have HQN : Hid (sameG sameI p.code r.code = sameG sameI (p.code.drop (k + 1)) (r.code.drop (k + 1))) := by unfold Hid; rw [HQK.out, HSI.out, ← HQD.out]; simp
              clear HQK
              go_wp2_with fail
              go_roundw
              case rel => exact ⟨k + 1, by omega, by go_num, HV.out, HQN.out⟩
              case measure => simp [intOf]; omega
          · go_simp
            have hb1 : Below wr.drew.heap.size wr.drew (wr.drew.alloc (.cells #[.int .i64 0, .int .i64 0, .int .i64 0, .string ⟨#[]⟩, .string ⟨#[]⟩, .int .i64 0, .int .i64 0, .string ⟨#[]⟩, .int .i64 0, .int .i64 0, .slice none 0 0] 52)) := (Below.refl _ _).alloc (Nat.le_refl _) _
            have hN1 : Hid ((wr.drew.alloc (.cells #[.int .i64 0, .int .i64 0, .int .i64 0, .string ⟨#[]⟩, .string ⟨#[]⟩, .int .i64 0, .int .i64 0, .string ⟨#[]⟩, .int .i64 0, .int .i64 0, .slice none 0 0] 52)).heap[wr.heap.size]? = some (.cells #[.int .i64 0, .int .i64 0, .int .i64 0, .string ⟨#[]⟩, .string ⟨#[]⟩, .int .i64 0, .int .i64 0, .string ⟨#[]⟩, .int .i64 0, .int .i64 0, .slice none 0 0] 52 (0, 0))) := World.alloc_heap_new wr.drew _
            have hnb1 : w.heap.size ≤ wr.heap.size := hS.size
            have hS1 := hS.trans (hb1.mono hS.size)
            change K _ (wr.drew.alloc (.cells #[.int .i64 0, .int .i64 0, .int .i64 0, .string ⟨#[]⟩, .string ⟨#[]⟩, .int .i64 0, .int .i64 0, .string ⟨#[]⟩, .int .i64 0, .int .i64 0, .slice none 0 0] 52))
            generalize wr.drew.alloc (.cells #[.int .i64 0, .int .i64 0, .int .i64 0, .string ⟨#[]⟩, .string ⟨#[]⟩, .int .i64 0, .int .i64 0, .string ⟨#[]⟩, .int .i64 0, .int .i64 0, .slice none 0 0] 52) = W1 at hb1 hN1 hS1 ⊢
            clear hb1
            refine hK.out _ _ hS1 (fun hS => ?_)
            clear hK K
            refine wpAnyH_ready (rs := [16]) (by kernel_rfl) (by simp) (AllReadyH.cons (o := { dst := some 7, op := Op.alloc 52, type := 0, pos := _, after := _, guard := none }) rfl (fun K hK => ?_) AllReadyH.nil)
            go_simp
            have hb2 : Below W1.heap.size W1 (W1.alloc (.cells #[.int .i64 0, .int .i64 0, .int .i64 0, .string ⟨#[]⟩, .string ⟨#[]⟩, .int .i64 0, .int .i64 0, .string ⟨#[]⟩, .int .i64 0, .int .i64 0, .slice none 0 0] 52)) := (Below.refl _ _).alloc (Nat.le_refl _) _
            have hN2 : Hid ((W1.alloc (.cells #[.int .i64 0, .int .i64 0, .int .i64 0, .string ⟨#[]⟩, .string ⟨#[]⟩, .int .i64 0, .int .i64 0, .string ⟨#[]⟩, .int .i64 0, .int .i64 0, .slice none 0 0] 52)).heap[W1.heap.size]? = some (.cells #[.int .i64 0, .int .i64 0, .int .i64 0, .string ⟨#[]⟩, .string ⟨#[]⟩, .int .i64 0, .int .i64 0, .string ⟨#[]⟩, .int .i64 0, .int .i64 0, .slice none 0 0] 52 (0, 0))) := World.alloc_heap_new W1 _
            have hnb2 : w.heap.size ≤ W1.heap.size := hS.size
            have hS2 := hS.trans (hb2.mono hS.size)
            change K _ (W1.alloc (.cells #[.int .i64 0, .int .i64 0, .int .i64 0, .string ⟨#[]⟩, .string ⟨#[]⟩, .int .i64 0, .int .i64 0, .string ⟨#[]⟩, .int .i64 0, .int .i64 0, .slice none 0 0] 52))
            generalize W1.alloc (.cells #[.int .i64 0, .int .i64 0, .int .i64 0, .string ⟨#[]⟩, .string ⟨#[]⟩, .int .i64 0, .int .i64 0, .string ⟨#[]⟩, .int .i64 0, .int .i64 0, .slice none 0 0] 52) = W2 at hb2 hN2 hS2 ⊢
            have hne12 : wr.heap.size < W1.heap.size := (Array.getElem?_eq_some_iff.1 hN1.out).1
            have hN1b := hidd ((hb2.block _ (Array.getElem?_eq_some_iff.1 hN1.out).1).trans hN1.out)
            clear hN1
            clear hb2
            refine hK.out _ _ hS2 (fun hS => ?_)
            clear hK K
            refine wpAnyH_ready (rs := [18]) (by kernel_rfl) (by simp) (AllReadyH.cons (o := { dst := none, op := Op.store 52 (Operand.tmp 7) (Operand.tmp 61), type := 0, pos := _, after := _, guard := none }) rfl (fun K hK => ?_) AllReadyH.nil)
            have q0 : W2.cell? ⟨W1.heap.size, 0, none⟩ = some (.int .i64 0) := (cellO hN2.out).trans rfl
            have q1 : W2.cell? ⟨W1.heap.size, 1, none⟩ = some (.int .i64 0) := (cellO hN2.out).trans rfl
            have q2 : W2.cell? ⟨W1.heap.size, 2, none⟩ = some (.int .i64 0) := (cellO hN2.out).trans rfl
            have q3 : W2.cell? ⟨W1.heap.size, 3, none⟩ = some (.string ⟨#[]⟩) := (cellO hN2.out).trans rfl
            have q4 : W2.cell? ⟨W1.heap.size, 4, none⟩ = some (.string ⟨#[]⟩) := (cellO hN2.out).trans rfl
            have q5 : W2.cell? ⟨W1.heap.size, 5, none⟩ = some (.int .i64 0) := (cellO hN2.out).trans rfl
            have q6 : W2.cell? ⟨W1.heap.size, 6, none⟩ = some (.int .i64 0) := (cellO hN2.out).trans rfl
            have q7 : W2.cell? ⟨W1.heap.size, 7, none⟩ = some (.string ⟨#[]⟩) := (cellO hN2.out).trans rfl
            have q8 : W2.cell? ⟨W1.heap.size, 8, none⟩ = some (.int .i64 0) := (cellO hN2.out).trans rfl
            have q9 : W2.cell? ⟨W1.heap.size, 9, none⟩ = some (.int .i64 0) := (cellO hN2.out).trans rfl
            have q10 : W2.cell? ⟨W1.heap.size, 10, none⟩ = some (.slice none 0 0) := (cellO hN2.out).trans rfl
            have qz : ∀ j, W2.frozen? ⟨W1.heap.size, j, none⟩ = false := by intro j; simp [World.frozen?, show W2.heap[W1.heap.size]? = _ from hN2.out]
            go_simp
            have hh3 := hidd (fill11_heap hN2.out (.int .i64 x.op) (.int .i64 x.a) (.int .i64 x.n) (.string x.lib) (.string x.own) (.int .i64 x.quote.kind) (.int .i64 x.quote.n) (.string x.quote.name) (.int .i64 x.quote.stamp) (.int .i64 x.quote.lib) (.slice ea x.quote.kids.length ec))
            have hk3 := fill11_keep W2 W1.heap.size (.int .i64 x.op) (.int .i64 x.a) (.int .i64 x.n) (.string x.lib) (.string x.own) (.int .i64 x.quote.kind) (.int .i64 x.quote.n) (.string x.quote.name) (.int .i64 x.quote.stamp) (.int .i64 x.quote.lib) (.slice ea x.quote.kids.length ec)
            change K _ (fill11 W2 W1.heap.size (.int .i64 x.op) (.int .i64 x.a) (.int .i64 x.n) (.string x.lib) (.string x.own) (.int .i64 x.quote.kind) (.int .i64 x.quote.n) (.string x.quote.name) (.int .i64 x.quote.stamp) (.int .i64 x.quote.lib) (.slice ea x.quote.kids.length ec))
            generalize fill11 W2 W1.heap.size (.int .i64 x.op) (.int .i64 x.a) (.int .i64 x.n) (.string x.lib) (.string x.own) (.int .i64 x.quote.kind) (.int .i64 x.quote.n) (.string x.quote.name) (.int .i64 x.quote.stamp) (.int .i64 x.quote.lib) (.slice ea x.quote.kids.length ec) = W3 at hh3 hk3 ⊢
            have hS3 : Below w.heap.size w W3 := hS.trans (hk3.toBelow hnb2 hS.size)
            have oo3 := hidd ((hk3.block wr.heap.size (Array.getElem?_eq_some_iff.1 hN1b.out).1 (by simp; omega)).trans hN1b.out)
            clear hN2 hN1b hk3 qz q0 q1 q2 q3 q4 q5 q6 q7 q8 q9 q10
            refine hK.out _ _ hS3 (fun hS => ?_)
            clear hK K
            refine wpAnyH_ready (rs := [19]) (by kernel_rfl) (by simp) (AllReadyH.cons (o := { dst := none, op := Op.store 52 (Operand.tmp 8) (Operand.tmp 69), type := 0, pos := _, after := _, guard := none }) rfl (fun K hK => ?_) AllReadyH.nil)
            have q0 : W3.cell? ⟨wr.heap.size, 0, none⟩ = some (.int .i64 0) := (cellO oo3.out).trans rfl
            have q1 : W3.cell? ⟨wr.heap.size, 1, none⟩ = some (.int .i64 0) := (cellO oo3.out).trans rfl
            have q2 : W3.cell? ⟨wr.heap.size, 2, none⟩ = some (.int .i64 0) := (cellO oo3.out).trans rfl
            have q3 : W3.cell? ⟨wr.heap.size, 3, none⟩ = some (.string ⟨#[]⟩) := (cellO oo3.out).trans rfl
            have q4 : W3.cell? ⟨wr.heap.size, 4, none⟩ = some (.string ⟨#[]⟩) := (cellO oo3.out).trans rfl
            have q5 : W3.cell? ⟨wr.heap.size, 5, none⟩ = some (.int .i64 0) := (cellO oo3.out).trans rfl
            have q6 : W3.cell? ⟨wr.heap.size, 6, none⟩ = some (.int .i64 0) := (cellO oo3.out).trans rfl
            have q7 : W3.cell? ⟨wr.heap.size, 7, none⟩ = some (.string ⟨#[]⟩) := (cellO oo3.out).trans rfl
            have q8 : W3.cell? ⟨wr.heap.size, 8, none⟩ = some (.int .i64 0) := (cellO oo3.out).trans rfl
            have q9 : W3.cell? ⟨wr.heap.size, 9, none⟩ = some (.int .i64 0) := (cellO oo3.out).trans rfl
            have q10 : W3.cell? ⟨wr.heap.size, 10, none⟩ = some (.slice none 0 0) := (cellO oo3.out).trans rfl
            have qz : ∀ j, W3.frozen? ⟨wr.heap.size, j, none⟩ = false := by intro j; simp [World.frozen?, show W3.heap[wr.heap.size]? = _ from oo3.out]
            go_simp
            have hh4 := hidd (fill11_heap oo3.out (.int .i64 y.op) (.int .i64 y.a) (.int .i64 y.n) (.string y.lib) (.string y.own) (.int .i64 y.quote.kind) (.int .i64 y.quote.n) (.string y.quote.name) (.int .i64 y.quote.stamp) (.int .i64 y.quote.lib) (.slice ea2 y.quote.kids.length ec2))
            have hk4 := fill11_keep W3 wr.heap.size (.int .i64 y.op) (.int .i64 y.a) (.int .i64 y.n) (.string y.lib) (.string y.own) (.int .i64 y.quote.kind) (.int .i64 y.quote.n) (.string y.quote.name) (.int .i64 y.quote.stamp) (.int .i64 y.quote.lib) (.slice ea2 y.quote.kids.length ec2)
            change K _ (fill11 W3 wr.heap.size (.int .i64 y.op) (.int .i64 y.a) (.int .i64 y.n) (.string y.lib) (.string y.own) (.int .i64 y.quote.kind) (.int .i64 y.quote.n) (.string y.quote.name) (.int .i64 y.quote.stamp) (.int .i64 y.quote.lib) (.slice ea2 y.quote.kids.length ec2))
            generalize fill11 W3 wr.heap.size (.int .i64 y.op) (.int .i64 y.a) (.int .i64 y.n) (.string y.lib) (.string y.own) (.int .i64 y.quote.kind) (.int .i64 y.quote.n) (.string y.quote.name) (.int .i64 y.quote.stamp) (.int .i64 y.quote.lib) (.slice ea2 y.quote.kids.length ec2) = W4 at hh4 hk4 ⊢
            have hS4 : Below w.heap.size w W4 := hS.trans (hk4.toBelow hnb1 hS.size)
            have oo4 := hidd ((hk4.block W1.heap.size (Array.getElem?_eq_some_iff.1 hh3.out).1 (by simp; omega)).trans hh3.out)
            clear oo3 hh3 hk4 qz q0 q1 q2 q3 q4 q5 q6 q7 q8 q9 q10
            refine hK.out _ _ hS4 (fun hS => ?_)
            clear hK K
            refine wpAnyH_done (by kernel_rfl) ?_ _
            have x0 : W4.cell? ⟨W1.heap.size, 0, none⟩ = some (.int .i64 x.op) := (cellO oo4.out).trans rfl
            have x1 : W4.cell? ⟨W1.heap.size, 1, none⟩ = some (.int .i64 x.a) := (cellO oo4.out).trans rfl
            have x2 : W4.cell? ⟨W1.heap.size, 2, none⟩ = some (.int .i64 x.n) := (cellO oo4.out).trans rfl
            have x3 : W4.cell? ⟨W1.heap.size, 3, none⟩ = some (.string x.lib) := (cellO oo4.out).trans rfl
            have x4 : W4.cell? ⟨W1.heap.size, 4, none⟩ = some (.string x.own) := (cellO oo4.out).trans rfl
            have x5 : W4.cell? ⟨W1.heap.size, 5, none⟩ = some (.int .i64 x.quote.kind) := (cellO oo4.out).trans rfl
            have x6 : W4.cell? ⟨W1.heap.size, 6, none⟩ = some (.int .i64 x.quote.n) := (cellO oo4.out).trans rfl
            have x7 : W4.cell? ⟨W1.heap.size, 7, none⟩ = some (.string x.quote.name) := (cellO oo4.out).trans rfl
            have x8 : W4.cell? ⟨W1.heap.size, 8, none⟩ = some (.int .i64 x.quote.stamp) := (cellO oo4.out).trans rfl
            have x9 : W4.cell? ⟨W1.heap.size, 9, none⟩ = some (.int .i64 x.quote.lib) := (cellO oo4.out).trans rfl
            have x10 : W4.cell? ⟨W1.heap.size, 10, none⟩ = some (.slice ea x.quote.kids.length ec) := (cellO oo4.out).trans rfl
            have y0 : W4.cell? ⟨wr.heap.size, 0, none⟩ = some (.int .i64 y.op) := (cellO hh4.out).trans rfl
            have y1 : W4.cell? ⟨wr.heap.size, 1, none⟩ = some (.int .i64 y.a) := (cellO hh4.out).trans rfl
            have y2 : W4.cell? ⟨wr.heap.size, 2, none⟩ = some (.int .i64 y.n) := (cellO hh4.out).trans rfl
            have y3 : W4.cell? ⟨wr.heap.size, 3, none⟩ = some (.string y.lib) := (cellO hh4.out).trans rfl
            have y4 : W4.cell? ⟨wr.heap.size, 4, none⟩ = some (.string y.own) := (cellO hh4.out).trans rfl
            have y5 : W4.cell? ⟨wr.heap.size, 5, none⟩ = some (.int .i64 y.quote.kind) := (cellO hh4.out).trans rfl
            have y6 : W4.cell? ⟨wr.heap.size, 6, none⟩ = some (.int .i64 y.quote.n) := (cellO hh4.out).trans rfl
            have y7 : W4.cell? ⟨wr.heap.size, 7, none⟩ = some (.string y.quote.name) := (cellO hh4.out).trans rfl
            have y8 : W4.cell? ⟨wr.heap.size, 8, none⟩ = some (.int .i64 y.quote.stamp) := (cellO hh4.out).trans rfl
            have y9 : W4.cell? ⟨wr.heap.size, 9, none⟩ = some (.int .i64 y.quote.lib) := (cellO hh4.out).trans rfl
            have y10 : W4.cell? ⟨wr.heap.size, 10, none⟩ = some (.slice ea2 y.quote.kids.length ec2) := (cellO hh4.out).trans rfl
            have HS := hidd hS
            clear hS oo4 hh4
            by_cases h0 : x.op = y.op
            case neg =>
              have h0' : (x.op != y.op) = true := by simpa using h0
              have hqf : q = false := by rw [HQP.out, HQK.out]; simp [sameI, h0]
              subst hqf
              clear h0
              go_wp2_with fail
              go_ret
              exact ⟨rfl, HS.out⟩
            by_cases h1 : x.a = y.a
            case neg =>
              have h1' : (x.a != y.a) = true := by simpa using h1
              have hqf : q = false := by rw [HQP.out, HQK.out]; simp [sameI, h1]
              subst hqf
              rw [← h0] at y0
              clear h0 h1
              go_wp2_with fail
              go_ret
              exact ⟨rfl, HS.out⟩
            by_cases h2 : x.n = y.n
            case neg =>
              have h2' : (x.n != y.n) = true := by simpa using h2
              have hqf : q = false := by rw [HQP.out, HQK.out]; simp [sameI, h2]
              subst hqf
              rw [← h0] at y0
              rw [← h1] at y1
              clear h0 h1 h2
              go_wp2_with fail
              go_ret
              exact ⟨rfl, HS.out⟩
            by_cases h3 : x.lib = y.lib
            case neg =>
              have h3' := beqS_ne h3
              have h3'' : (x.lib.toList != y.lib.toList) = true := by simp only [bne, h3', Bool.not_false]
              have hqf : q = false := by rw [HQP.out, HQK.out]; simp [sameI, h3]
              subst hqf
              rw [← h0] at y0
              rw [← h1] at y1
              rw [← h2] at y2
              clear h0 h1 h2 h3
              go_wp2_with fail
              go_ret
              exact ⟨rfl, HS.out⟩
            by_cases h4 : x.own = y.own
            case neg =>
              have h4' := beqS_ne h4
              have h4'' : (x.own.toList != y.own.toList) = true := by simp only [bne, h4', Bool.not_false]
              have hqf : q = false := by rw [HQP.out, HQK.out]; simp [sameI, h4]
              subst hqf
              rw [← h0] at y0
              rw [← h1] at y1
              rw [← h2] at y2
              rw [← h3] at y3
              clear h0 h1 h2 h3 h4
              go_wp2_with fail
              go_ret
              exact ⟨rfl, HS.out⟩
            have HSI : Hid (sameI x y = sameD x.quote y.quote) := by unfold Hid sameI; simp [h0, h1, h2, h3, h4]
            rw [← h0] at y0
            rw [← h1] at y1
            rw [← h2] at y2
            rw [← h3] at y3
            rw [← h4] at y4
            clear h0 h1 h2 h3 h4
            go_wp2_with fail
            refine (EC.out W4 HS.out).mono ?_
            rintro e v ⟨rfl, hv⟩
            have HV := hidd (HS.out.trans (hv.mono HS.out.size))
            clear hv x0 y0 x1 y1 x2 y2 x3 y3 x4 y4 x5 y5 x6 y6 x7 y7 x8 y8 x9 y9 x10 y10
            obtain ⟨qd, hqd⟩ : ∃ b, b = sameD x.quote y.quote := ⟨_, rfl⟩
            rw [← hqd]
            have HQD := hidd hqd
            clear hqd
            cases qd
            · have hqf : q = false := by rw [HQP.out, HQK.out, HSI.out, ← HQD.out]; simp
              subst hqf
              go_wp2_with fail
              go_ret
              exact ⟨rfl, HV.out⟩
            · have HQN : Hid (sameG sameI p.code r.code = sameG sameI (p.code.drop (k + 1)) (r.code.drop (k + 1))) := by unfold Hid; rw [HQK.out, HSI.out, ← HQD.out]; simp
              clear HQK
              go_wp2_with fail
              go_roundw
              case rel => exact ⟨k + 1, by omega, by go_num, HV.out, HQN.out⟩
              case measure => simp [intOf]; omega
        · obtain rfl : k = n := by omega
          have HQN : Hid (q = sameG samePr (ps.drop (j + 1)) (qs.drop (j + 1))) := by
            unfold Hid
            rw [HQP.out, HR1.out.2, sameG_end (by rw [← HNC.out]; exact Nat.le_refl _) (by rw [← HNC2.out]; exact Nat.le_refl _)]
            simp
          have HB1 := hidd HR1.out.1
          clear HQP HR1 IN
          go_wp2_with fail
          go_roundw
          case rel => exact ⟨j + 1, by omega, by go_num, HB1.out, HQN.out⟩
          case measure => simp [intOf]; omega
    · obtain rfl : j = n0 := by omega
      have hq1 : q = true := by rw [HR0.out.2, sameG_end (by rw [← HN0.out.1]; exact Nat.le_refl _) (by rw [← HN0.out.2]; exact Nat.le_refl _)]
      subst hq1
      have HB1 := hidd HR0.out.1
      clear HR0 AT
      go_wp2_with fail
      go_ret
      exact ⟨rfl, HB1.out⟩
end Go.Proofs.YtdnbingddbakaaaGreatDoor
