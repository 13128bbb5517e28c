/- Chapter 10: an instruction in an image. -/
import Derived.Test.YtdnbingddbakaaaDoorK32
import Derived.Deep.CutBlock
namespace Go.Proofs.YtdnbingddbakaaaDoor
set_option linter.unusedVariables false
set_option linter.unusedSimpArgs false
open Go.RowKit

/-- An instruction, as it stands in an image. -/
def placeI (gs : List Gl) (st : Nat) (x : In) : In :=
  if x.op = 1 ∨ x.op = 2 then ⟨x.op, 0, x.n, ⟨#[]⟩, ⟨#[]⟩, emD⟩
  else if x.op = 3 then ⟨x.op, 0, 0, ⟨#[]⟩, ⟨#[]⟩, bareQ x.quote⟩
  else if x.op = 5 ∨ x.op = 12 ∨ x.op = 13 then ⟨x.op, (((idxG gs (x.lib, x.own)).getD 0 : Nat) : Int), 0, ⟨#[]⟩, ⟨#[]⟩, emD⟩
  else if x.op = 6 then ⟨x.op, 0, 0, ⟨#[]⟩, x.own, emD⟩
  else if x.op = 7 then ⟨x.op, (st : Int) + x.a, 0, ⟨#[]⟩, ⟨#[]⟩, emD⟩
  else if x.op = 4 ∨ x.op = 11 ∨ x.op = 8 ∨ x.op = 9 ∨ x.op = 10 then ⟨x.op, x.a, 0, ⟨#[]⟩, ⟨#[]⟩, emD⟩
  else ⟨x.op, 0, 0, ⟨#[]⟩, ⟨#[]⟩, emD⟩
/-- What an instruction being placed has in memory. -/
structure PI (N1 N2 : Nat) (cs : Array Value) (w W : World) : Prop where
  bl : Below w.heap.size w W
  n1 : W.heap[N1]? = some (.cells #[.int .i64 0, .int .i64 0, .int .i64 0, .string ⟨#[]⟩, .string ⟨#[]⟩, .int .i64 0, .int .i64 0, .string ⟨#[]⟩, .int .i64 0, .int .i64 0, .slice none 0 0] 51 (0, 0))
  n2 : W.heap[N2]? = some (.cells cs 51 (0, 0))
  l1 : w.heap.size ≤ N1
  l2 : w.heap.size ≤ N2
  ne : N1 ≠ N2
theorem PI.call {N1 N2 cs w W W'} (h : PI N1 N2 cs w W) (hb : Below W.heap.size W W') : PI N1 N2 cs w W' :=
  ⟨h.bl.trans (hb.mono h.bl.size), (hb.block _ (Array.getElem?_eq_some_iff.1 h.n1).1).trans h.n1, (hb.block _ (Array.getElem?_eq_some_iff.1 h.n2).1).trans h.n2, h.l1, h.l2, h.ne⟩
theorem PI.set {N1 N2 cs w W} (h : PI N1 N2 cs w W) (q : Nat) (v : Value) : PI N1 N2 (cs.setIfInBounds q v) w (W.setCell ⟨N2, q, none⟩ v) :=
  ⟨h.bl.setCell (p := ⟨N2, q, none⟩) h.l2 v, (Below.heap_setCell _ _ _ _ h.ne).trans h.n1, heap_setCell_same W N2 q cs 51 v h.n2, h.l1, h.l2, h.ne⟩
theorem ret35 {ts : Array Value} {W : World} {N : Nat} {x0 x1 x2 x3 x4 x5 x6 x7 x8 x9 x10 : Value} (h : W.heap[N]? = some (.cells #[x0, x1, x2, x3, x4, x5, x6, x7, x8, x9, x10] 51 (0, 0))) (h4 : ts[6]? = some (.pointer (some ⟨N, 0, none⟩))) :
    (results Tryd.f35 ts).run Tryd.prog W = .ok (.agg #[x0, x1, x2, x3, x4, x5, x6, x7, x8, x9, x10]) W := by
  have cc : ∀ q, W.cell? ⟨N, q, none⟩ = #[x0, x1, x2, x3, x4, x5, x6, x7, x8, x9, x10][q]? := fun q => by simp [World.cell?, h]
  have q0 := cc 0
  have q1 := cc 1
  have q2 := cc 2
  have q3 := cc 3
  have q4 := cc 4
  have q5 := cc 5
  have q6 := cc 6
  have q7 := cc 7
  have q8 := cc 8
  have q9 := cc 9
  have q10 := cc 10
  simp at q0 q1 q2 q3 q4 q5 q6 q7 q8 q9 q10
  simp [results, Tryd.results35, go_sem, h4, q0, q1, q2, q3, q4, q5, q6, q7, q8, q9, q10]
theorem pi_start (w : World) (op : Int) : PI w.heap.size (w.heap.size + 1) #[.int .i64 op, .int .i64 0, .int .i64 0, .string ⟨#[]⟩, .string ⟨#[]⟩, .int .i64 0, .int .i64 0, .string ⟨#[]⟩, .int .i64 0, .int .i64 0, .slice none 0 0] w ((w.alloc (.cells #[.int .i64 0, .int .i64 0, .int .i64 0, .string ⟨#[]⟩, .string ⟨#[]⟩, .int .i64 0, .int .i64 0, .string ⟨#[]⟩, .int .i64 0, .int .i64 0, .slice none 0 0] 51)).alloc (.cells #[.int .i64 op, .int .i64 0, .int .i64 0, .string ⟨#[]⟩, .string ⟨#[]⟩, .int .i64 0, .int .i64 0, .string ⟨#[]⟩, .int .i64 0, .int .i64 0, .slice none 0 0] 51)) := by
  have h1 := World.alloc_heap_new w (.cells #[.int .i64 0, .int .i64 0, .int .i64 0, .string ⟨#[]⟩, .string ⟨#[]⟩, .int .i64 0, .int .i64 0, .string ⟨#[]⟩, .int .i64 0, .int .i64 0, .slice none 0 0] 51)
  have h2 := World.alloc_heap_new (w.alloc (.cells #[.int .i64 0, .int .i64 0, .int .i64 0, .string ⟨#[]⟩, .string ⟨#[]⟩, .int .i64 0, .int .i64 0, .string ⟨#[]⟩, .int .i64 0, .int .i64 0, .slice none 0 0] 51)) (.cells #[.int .i64 op, .int .i64 0, .int .i64 0, .string ⟨#[]⟩, .string ⟨#[]⟩, .int .i64 0, .int .i64 0, .string ⟨#[]⟩, .int .i64 0, .int .i64 0, .slice none 0 0] 51)
  refine ⟨((Below.refl _ _).alloc (Nat.le_refl _) _).alloc (by simp) _, ?_, by simpa using h2, Nat.le_refl _, by omega, by omega⟩
  rw [Below.heap_alloc _ _ _ (by simp)]
  exact h1
/-- What is told of an instruction placed. -/
def ToldP (X : In) (w : World) (e : Ending) (w' : World) : Prop :=
  ∃ qa qc, e = .returned (iv X qa qc) ∧ Below w.heap.size w w' ∧ X.quote.kids.length ≤ qc ∧ ∃ f, Dc (New w w') w' f qa X.quote.kids
set_option maxRecDepth 100000 in
set_option maxHeartbeats 6400000 in
theorem placed_any (B t m : Nat) (gs : List Gl) (bv : Value) (x : In) (b o st : Nat) (qa : Option Addr) (qc : Nat) (w : World) (hil : IL B w b o x qa qc) (hb : b < B) (hT : TB B t m gs bv w)
    (hop : 1 ≤ x.op ∧ x.op ≤ 15) (h3 : x.op = 3 → smQ x.quote) (h6 : x.op = 6 → x.own.size ≤ 1000) (h7 : x.op = 7 → 0 ≤ x.a ∧ x.a ≤ 1000) (hst : st ≤ 1000000) :
    Calls Tryd.prog 35 #[.pointer (some ⟨t, 0, none⟩), .pointer (some ⟨b, o, none⟩), .int .i64 st] w (ToldP (placeI gs st x) w) := by
  obtain ⟨X, hX⟩ : ∃ X, X = placeI gs st x := ⟨_, rfl⟩
  rw [← hX]
  have hBw : B ≤ w.heap.size := Nat.le_trans hT.bt (Nat.le_of_lt (Array.getElem?_eq_some_iff.1 hT.tb).1)
  have hbw : b < w.heap.size := Nat.lt_of_lt_of_le hb hBw
  have HX := hidd hX
  have HIL := hidd hil
  have HT := hidd hT
  have HOP := hidd hop
  have H3 := hidd h3
  have H6 := hidd h6
  have H7 := hidd h7
  have c0 := hil.c0
  have PS := hidd (pi_start w x.op)
  clear hX hil hT hop h3 h6 h7
  unfold ToldP
  go_enter Tryd.func35, Tryd.ntmps35
  go_upto_region 2 with fail
  obtain ⟨N1, hN1⟩ : ∃ n, n = w.heap.size := ⟨_, rfl⟩
  obtain ⟨N2, hN2⟩ : ∃ n, n = w.heap.size + 1 := ⟨_, rfl⟩
  rw [← hN2, ← hN1] at PS
  have HN := hidd (And.intro hN1 hN2)
  generalize (w.alloc (.cells #[.int .i64 0, .int .i64 0, .int .i64 0, .string ⟨#[]⟩, .string ⟨#[]⟩, .int .i64 0, .int .i64 0, .string ⟨#[]⟩, .int .i64 0, .int .i64 0, .slice none 0 0] 51)).alloc (.cells #[.int .i64 x.op, .int .i64 0, .int .i64 0, .string ⟨#[]⟩, .string ⟨#[]⟩, .int .i64 0, .int .i64 0, .string ⟨#[]⟩, .int .i64 0, .int .i64 0, .slice none 0 0] 51) = V at PS ⊢
  rw [← hN2, ← hN1]
  clear hN1 hN2
  have d0 := (PS.out.bl.cell (p := ⟨b, o, none⟩) hbw).trans c0
  go_upto_block 0 with fail
  go_cut [8] from 9 to 72 (fun s8 wx => ∃ qa qc f, PI N1 N2 (ic X (.slice qa X.quote.kids.length qc)) w wx ∧ X.quote.kids.length ≤ qc ∧ Dc (fun k => N1 < k ∧ N2 < k ∧ k < wx.heap.size) wx f qa X.quote.kids)
  case first =>
    obtain ⟨xp, hxp⟩ : ∃ v, v = x.op := ⟨_, rfl⟩
    have hop : xp = 1 ∨ xp = 2 ∨ xp = 3 ∨ xp = 4 ∨ xp = 5 ∨ xp = 6 ∨ xp = 7 ∨ xp = 8 ∨ xp = 9 ∨ xp = 10 ∨ xp = 11 ∨ xp = 12 ∨ xp = 13 ∨ xp = 14 ∨ xp = 15 := by have := HOP.out; omega
    rw [← hxp] at d0 PS ⊢
    have HXP := hidd hxp
    clear hxp c0 HOP
    rcases hop with rfl | rfl | rfl | rfl | rfl | rfl | rfl | rfl | rfl | rfl | rfl | rfl | rfl | rfl | rfl
    · have hX := HX.out
      unfold placeI at hX
      rw [← HXP.out] at hX
      simp at hX
      subst hX
      have d1 := (PS.out.bl.cell (p := ⟨b, o + 2, none⟩) hbw).trans HIL.out.c2
      have p1 : V.cell? ⟨N2, 2, none⟩ = some (.int .i64 0) := (cellO PS.out.n2).trans rfl
      have pz := looseO (q := 2) PS.out.n2
      have END := hidd (PS.out.set 2 (.int .i64 x.n))
      clear HX HXP
      go_wp2_with fail
      go_meet
      case rel => exact ⟨none, 0, 0, END.out, Nat.le_refl _, Dc.nil _ _ _ _⟩
    · have hX := HX.out
      unfold placeI at hX
      rw [← HXP.out] at hX
      simp at hX
      subst hX
      have d1 := (PS.out.bl.cell (p := ⟨b, o + 2, none⟩) hbw).trans HIL.out.c2
      have p1 : V.cell? ⟨N2, 2, none⟩ = some (.int .i64 0) := (cellO PS.out.n2).trans rfl
      have pz := looseO (q := 2) PS.out.n2
      have END := hidd (PS.out.set 2 (.int .i64 x.n))
      clear HX HXP
      go_wp2_with fail
      go_meet
      case rel => exact ⟨none, 0, 0, END.out, Nat.le_refl _, Dc.nil _ _ _ _⟩
    · have hX := HX.out
      unfold placeI at hX
      rw [← HXP.out] at hX
      simp at hX
      subst hX
      have d5 := (PS.out.bl.cell (p := ⟨b, o + 5, none⟩) hbw).trans HIL.out.c5
      have d6 := (PS.out.bl.cell (p := ⟨b, o + 6, none⟩) hbw).trans HIL.out.c6
      have d7 := (PS.out.bl.cell (p := ⟨b, o + 7, none⟩) hbw).trans HIL.out.c7
      have d8 := (PS.out.bl.cell (p := ⟨b, o + 8, none⟩) hbw).trans HIL.out.c8
      have d9 := (PS.out.bl.cell (p := ⟨b, o + 9, none⟩) hbw).trans HIL.out.c9
      have d10 := (PS.out.bl.cell (p := ⟨b, o + 10, none⟩) hbw).trans HIL.out.c10
      obtain ⟨kf, hkf⟩ := HIL.out.lk
      have BR0 := Bare_any kf x.quote qa qc V (Dc.stay (fun k hk => PS.out.bl.block k (Nat.lt_of_lt_of_le hk hBw)) (fun k hk => Nat.lt_of_lt_of_le (Nat.lt_of_lt_of_le hk hBw) PS.out.bl.size) _ _ _ hkf) (H3.out HXP.out.symm)
      unfold dv at BR0
      have BR := hidd BR0
      clear HX HXP BR0 hkf
      go_wp2_with fail
      refine BR.out.mono ?_
      rintro e W1 ⟨s1, ra, rc, rf, rfl, hrc, hrd⟩
      generalize bareQ x.quote = Q at *
      unfold dv
      have P1 := hidd (PS.out.call s1)
      have L1 := (Array.getElem?_eq_some_iff.1 PS.out.n1).1
      have L2 := (Array.getElem?_eq_some_iff.1 PS.out.n2).1
      have p5 : W1.cell? ⟨N2, 5, none⟩ = some (.int .i64 0) := (cellO P1.out.n2).trans rfl
      have p6 : W1.cell? ⟨N2, 6, none⟩ = some (.int .i64 0) := (cellO P1.out.n2).trans rfl
      have p7 : W1.cell? ⟨N2, 7, none⟩ = some (.string ⟨#[]⟩) := (cellO P1.out.n2).trans rfl
      have p8 : W1.cell? ⟨N2, 8, none⟩ = some (.int .i64 0) := (cellO P1.out.n2).trans rfl
      have p9 : W1.cell? ⟨N2, 9, none⟩ = some (.int .i64 0) := (cellO P1.out.n2).trans rfl
      have p10 : W1.cell? ⟨N2, 10, none⟩ = some (.slice none 0 0) := (cellO P1.out.n2).trans rfl
      have z5 := looseO (q := 5) P1.out.n2
      have z6 := looseO (q := 6) P1.out.n2
      have z7 := looseO (q := 7) P1.out.n2
      have z8 := looseO (q := 8) P1.out.n2
      have z9 := looseO (q := 9) P1.out.n2
      have z10 := looseO (q := 10) P1.out.n2
      have END := hidd ((((((P1.out.set 5 (.int .i64 Q.kind)).set 6 (.int .i64 Q.n)).set 7 (.string Q.name)).set 8 (.int .i64 Q.stamp)).set 9 (.int .i64 Q.lib)).set 10 (.slice ra Q.kids.length rc))
      have HRC := hidd hrc
      have HRD := hidd hrd
      clear BR s1 hrc hrd d5 d6 d7 d8 d9 d10
      go_wp2_with fail
      go_meet
      case rel => exact ⟨ra, rc, rf, END.out, HRC.out, Dc.stay (fun k hk => by
        have hk1 : k ≠ N2 := by have := hk.1; omega
        have hs : ∀ (U : World) (q : Nat) (v : Value), (U.setCell ⟨N2, q, none⟩ v).heap[k]? = U.heap[k]? := fun U q v => Below.heap_setCell _ _ _ _ hk1
        simp only [hs]) (fun k hk => ⟨by have := hk.1; omega, by have := hk.1; omega, by have := hk.2; simp [World.setCell]; exact this⟩) _ _ _ HRD.out⟩
    · have hX := HX.out
      unfold placeI at hX
      rw [← HXP.out] at hX
      simp at hX
      subst hX
      have d1 := (PS.out.bl.cell (p := ⟨b, o + 1, none⟩) hbw).trans HIL.out.c1
      have p1 : V.cell? ⟨N2, 1, none⟩ = some (.int .i64 0) := (cellO PS.out.n2).trans rfl
      have pz := looseO (q := 1) PS.out.n2
      have END := hidd (PS.out.set 1 (.int .i64 x.a))
      clear HX HXP
      go_wp2_with fail
      go_meet
      case rel => exact ⟨none, 0, 0, END.out, Nat.le_refl _, Dc.nil _ _ _ _⟩
    · have hX := HX.out
      unfold placeI at hX
      rw [← HXP.out] at hX
      simp at hX
      subst hX
      have C3 := hidd HIL.out.c3
      have C4 := hidd HIL.out.c4
      have LK : Hid (∀ u, Below w.heap.size w u → _) := hidd (fun u hu => (HT.out.mp.kept (w' := u) (hu.block _ HT.out.mp.lt)).at (x.lib, x.own) ⟨HIL.out.l3, HIL.out.l4⟩)
      clear HX HXP
      go_upto_region 11 with fail
      refine wp_region_held_drew (S := fun u => Below w.heap.size w u) (by kernel_rfl) PS.out.bl.drew (fun hS => ?_)
      refine wpAnyH_take (i := 0) (oi := { dst := some 37, op := Op.move (Operand.tmp 0), type := 67, pos := _, after := _, guard := none }) (v := .pointer (some ⟨t, 0, none⟩)) rfl (by kernel_rfl) (by kernel_rfl) (by kernel_rfl) (fun _ _ _ h => h) (Or.inl ⟨by rfl, fun u hu => by go_simp⟩) hS ?_
      simp only [Act.put, List.setIfInBounds_toArray, List.set_cons_zero, List.set_cons_succ]
      refine wpAnyH_take (i := 1) (oi := { dst := some 38, op := Op.nilCheck (Operand.tmp 37), type := 0, pos := _, after := _, guard := none }) (v := .pointer (some ⟨t, 0, none⟩)) rfl (by kernel_rfl) (by kernel_rfl) (by kernel_rfl) (fun _ _ _ h => h) (Or.inl ⟨by rfl, fun u hu => by go_simp⟩) hS ?_
      simp only [Act.put, List.setIfInBounds_toArray, List.set_cons_zero, List.set_cons_succ]
      refine wpAnyH_take (i := 2) (oi := { dst := some 39, op := Op.fieldAddr 55 (Operand.tmp 38) 1, type := 0, pos := _, after := _, guard := none }) (v := .pointer (some ⟨t, 1, none⟩)) rfl (by kernel_rfl) (by kernel_rfl) (by kernel_rfl) (fun _ _ _ h => h) (Or.inl ⟨by rfl, fun u hu => by go_simp⟩) hS ?_
      simp only [Act.put, List.setIfInBounds_toArray, List.set_cons_zero, List.set_cons_succ]
      refine wpAnyH_take (i := 3) (oi := { dst := some 40, op := Op.load 53 (Operand.tmp 39), type := 53, pos := _, after := _, guard := none }) (v := .map (some m)) rfl (by kernel_rfl) (by kernel_rfl) (by kernel_rfl) (fun _ _ _ h => h) (Or.inl ⟨by rfl, fun u hu => by (have z : u.cell? ⟨t, 1, none⟩ = some (.map (some m)) := (cellO ((hu.block _ (Array.getElem?_eq_some_iff.1 HT.out.tb).1).trans HT.out.tb)).trans rfl; go_simp)⟩) hS ?_
      simp only [Act.put, List.setIfInBounds_toArray, List.set_cons_zero, List.set_cons_succ]
      refine wpAnyH_take (i := 4) (oi := { dst := some 41, op := Op.move (Operand.tmp 1), type := 72, pos := _, after := _, guard := none }) (v := .pointer (some ⟨b, o, none⟩)) rfl (by kernel_rfl) (by kernel_rfl) (by kernel_rfl) (fun _ _ _ h => h) (Or.inl ⟨by rfl, fun u hu => by go_simp⟩) hS ?_
      simp only [Act.put, List.setIfInBounds_toArray, List.set_cons_zero, List.set_cons_succ]
      refine wpAnyH_ready (rs := [5]) (by kernel_rfl) (by simp) (AllReadyH.cons (o := { dst := some 42, op := Op.call { callee := Callee.value (Operand.func 31), args := #[Operand.tmp 41], argTypes := #[72] }, type := 75, pos := _, after := _, guard := none }) rfl (fun K hK => ?_) AllReadyH.nil)
      go_simp
      refine (globalOf_any b o (x.lib, x.own) _ (Nat.lt_of_lt_of_le hbw hS.size) ((hS.cell (p := ⟨b, o + 3, none⟩) hbw).trans C3.out) ((hS.cell (p := ⟨b, o + 4, none⟩) hbw).trans C4.out)).mono ?_
      rintro e W1 ⟨rfl, hb1⟩
      have hS1 := hS.trans (hb1.mono hS.size)
      have PV1 := hidd ((PS.out.call (Below.drew (Below.refl _ _))).call hb1)
      clear hb1
      show K _ W1
      refine hK.out _ _ hS1 (fun hS => ?_)
      clear hK K
      refine wpAnyH_take (i := 6) (oi := { dst := some 43, op := Op.lookup 53 (Operand.tmp 40) (Operand.tmp 42) false, type := 3, pos := _, after := _, guard := none }) (v := .int .i64 (((idxG gs (x.lib, x.own)).getD 0 : Nat) : Int)) rfl (by kernel_rfl) (by kernel_rfl) (by kernel_rfl) (fun _ _ _ h => h) (Or.inl ⟨by rfl, fun u hu => by (have z := LK.out u hu; go_simp)⟩) hS ?_
      simp only [Act.put, List.setIfInBounds_toArray, List.set_cons_zero, List.set_cons_succ]
      refine wpAnyH_take (i := 7) (oi := { dst := some 44, op := Op.fieldAddr 51 (Operand.tmp 7) 1, type := 0, pos := _, after := _, guard := none }) (v := .pointer (some ⟨N2, 1, none⟩)) rfl (by kernel_rfl) (by kernel_rfl) (by kernel_rfl) (fun _ _ _ h => h) (Or.inl ⟨by rfl, fun u hu => by go_simp⟩) hS ?_
      simp only [Act.put, List.setIfInBounds_toArray, List.set_cons_zero, List.set_cons_succ]
      refine wpAnyH_ready (rs := [8]) (by kernel_rfl) (by simp) (AllReadyH.cons (o := { dst := none, op := Op.store 3 (Operand.tmp 44) (Operand.tmp 43), type := 0, pos := _, after := _, guard := none }) rfl (fun K hK => ?_) AllReadyH.nil)
      have y1 : W1.cell? ⟨N2, 1, none⟩ = some (.int .i64 0) := (cellO PV1.out.n2).trans rfl
      have yz := looseO (q := 1) PV1.out.n2
      go_simp
      refine hK.out _ _ (hS.setCell (p := ⟨N2, 1, none⟩) PS.out.l2 _) (fun hS => ?_)
      clear hK K y1 yz
      refine wpAnyH_done (by kernel_rfl) ?_ _
      go_wp2_with fail
      go_meet
      case rel => exact ⟨none, 0, 0, PV1.out.set 1 (.int .i64 (((idxG gs (x.lib, x.own)).getD 0 : Nat) : Int)), Nat.le_refl _, Dc.nil _ _ _ _⟩
    · have hX := HX.out
      unfold placeI at hX
      rw [← HXP.out] at hX
      simp at hX
      subst hX
      have d1 := (PS.out.bl.cell (p := ⟨b, o + 4, none⟩) hbw).trans HIL.out.c4
      have CL := hidd (Clone_any x.own V (Nat.le_trans (H6.out HXP.out.symm) (by decide)))
      clear HX HXP
      go_wp2_with fail
      refine CL.out.mono ?_
      rintro e W1 ⟨rfl, s1⟩
      have P1 := hidd (PS.out.call s1)
      have p1 : W1.cell? ⟨N2, 4, none⟩ = some (.string ⟨#[]⟩) := (cellO P1.out.n2).trans rfl
      have pz := looseO (q := 4) P1.out.n2
      have END := hidd (P1.out.set 4 (.string x.own))
      clear CL s1 d1
      go_wp2_with fail
      go_meet
      case rel => exact ⟨none, 0, 0, END.out, Nat.le_refl _, Dc.nil _ _ _ _⟩
    · have hX := HX.out
      unfold placeI at hX
      rw [← HXP.out] at hX
      simp at hX
      subst hX
      have ha7 := H7.out HXP.out.symm
      have d1 := (PS.out.bl.cell (p := ⟨b, o + 1, none⟩) hbw).trans HIL.out.c1
      have p1 : V.cell? ⟨N2, 1, none⟩ = some (.int .i64 0) := (cellO PS.out.n2).trans rfl
      have pz := looseO (q := 1) PS.out.n2
      have END := hidd (PS.out.set 1 (.int .i64 ((st : Int) + x.a)))
      clear HX HXP
      go_wp2_with fail
      go_meet
      case rel => exact ⟨none, 0, 0, END.out, Nat.le_refl _, Dc.nil _ _ _ _⟩
    · have hX := HX.out
      unfold placeI at hX
      rw [← HXP.out] at hX
      simp at hX
      subst hX
      have d1 := (PS.out.bl.cell (p := ⟨b, o + 1, none⟩) hbw).trans HIL.out.c1
      have p1 : V.cell? ⟨N2, 1, none⟩ = some (.int .i64 0) := (cellO PS.out.n2).trans rfl
      have pz := looseO (q := 1) PS.out.n2
      have END := hidd (PS.out.set 1 (.int .i64 x.a))
      clear HX HXP
      go_wp2_with fail
      go_meet
      case rel => exact ⟨none, 0, 0, END.out, Nat.le_refl _, Dc.nil _ _ _ _⟩
    · have hX := HX.out
      unfold placeI at hX
      rw [← HXP.out] at hX
      simp at hX
      subst hX
      have d1 := (PS.out.bl.cell (p := ⟨b, o + 1, none⟩) hbw).trans HIL.out.c1
      have p1 : V.cell? ⟨N2, 1, none⟩ = some (.int .i64 0) := (cellO PS.out.n2).trans rfl
      have pz := looseO (q := 1) PS.out.n2
      have END := hidd (PS.out.set 1 (.int .i64 x.a))
      clear HX HXP
      go_wp2_with fail
      go_meet
      case rel => exact ⟨none, 0, 0, END.out, Nat.le_refl _, Dc.nil _ _ _ _⟩
    · have hX := HX.out
      unfold placeI at hX
      rw [← HXP.out] at hX
      simp at hX
      subst hX
      have d1 := (PS.out.bl.cell (p := ⟨b, o + 1, none⟩) hbw).trans HIL.out.c1
      have p1 : V.cell? ⟨N2, 1, none⟩ = some (.int .i64 0) := (cellO PS.out.n2).trans rfl
      have pz := looseO (q := 1) PS.out.n2
      have END := hidd (PS.out.set 1 (.int .i64 x.a))
      clear HX HXP
      go_wp2_with fail
      go_meet
      case rel => exact ⟨none, 0, 0, END.out, Nat.le_refl _, Dc.nil _ _ _ _⟩
    · have hX := HX.out
      unfold placeI at hX
      rw [← HXP.out] at hX
      simp at hX
      subst hX
      have d1 := (PS.out.bl.cell (p := ⟨b, o + 1, none⟩) hbw).trans HIL.out.c1
      have p1 : V.cell? ⟨N2, 1, none⟩ = some (.int .i64 0) := (cellO PS.out.n2).trans rfl
      have pz := looseO (q := 1) PS.out.n2
      have END := hidd (PS.out.set 1 (.int .i64 x.a))
      clear HX HXP
      go_wp2_with fail
      go_meet
      case rel => exact ⟨none, 0, 0, END.out, Nat.le_refl _, Dc.nil _ _ _ _⟩
    · have hX := HX.out
      unfold placeI at hX
      rw [← HXP.out] at hX
      simp at hX
      subst hX
      have C3 := hidd HIL.out.c3
      have C4 := hidd HIL.out.c4
      have LK : Hid (∀ u, Below w.heap.size w u → _) := hidd (fun u hu => (HT.out.mp.kept (w' := u) (hu.block _ HT.out.mp.lt)).at (x.lib, x.own) ⟨HIL.out.l3, HIL.out.l4⟩)
      clear HX HXP
      go_upto_region 11 with fail
      refine wp_region_held_drew (S := fun u => Below w.heap.size w u) (by kernel_rfl) PS.out.bl.drew (fun hS => ?_)
      refine wpAnyH_take (i := 0) (oi := { dst := some 37, op := Op.move (Operand.tmp 0), type := 67, pos := _, after := _, guard := none }) (v := .pointer (some ⟨t, 0, none⟩)) rfl (by kernel_rfl) (by kernel_rfl) (by kernel_rfl) (fun _ _ _ h => h) (Or.inl ⟨by rfl, fun u hu => by go_simp⟩) hS ?_
      simp only [Act.put, List.setIfInBounds_toArray, List.set_cons_zero, List.set_cons_succ]
      refine wpAnyH_take (i := 1) (oi := { dst := some 38, op := Op.nilCheck (Operand.tmp 37), type := 0, pos := _, after := _, guard := none }) (v := .pointer (some ⟨t, 0, none⟩)) rfl (by kernel_rfl) (by kernel_rfl) (by kernel_rfl) (fun _ _ _ h => h) (Or.inl ⟨by rfl, fun u hu => by go_simp⟩) hS ?_
      simp only [Act.put, List.setIfInBounds_toArray, List.set_cons_zero, List.set_cons_succ]
      refine wpAnyH_take (i := 2) (oi := { dst := some 39, op := Op.fieldAddr 55 (Operand.tmp 38) 1, type := 0, pos := _, after := _, guard := none }) (v := .pointer (some ⟨t, 1, none⟩)) rfl (by kernel_rfl) (by kernel_rfl) (by kernel_rfl) (fun _ _ _ h => h) (Or.inl ⟨by rfl, fun u hu => by go_simp⟩) hS ?_
      simp only [Act.put, List.setIfInBounds_toArray, List.set_cons_zero, List.set_cons_succ]
      refine wpAnyH_take (i := 3) (oi := { dst := some 40, op := Op.load 53 (Operand.tmp 39), type := 53, pos := _, after := _, guard := none }) (v := .map (some m)) rfl (by kernel_rfl) (by kernel_rfl) (by kernel_rfl) (fun _ _ _ h => h) (Or.inl ⟨by rfl, fun u hu => by (have z : u.cell? ⟨t, 1, none⟩ = some (.map (some m)) := (cellO ((hu.block _ (Array.getElem?_eq_some_iff.1 HT.out.tb).1).trans HT.out.tb)).trans rfl; go_simp)⟩) hS ?_
      simp only [Act.put, List.setIfInBounds_toArray, List.set_cons_zero, List.set_cons_succ]
      refine wpAnyH_take (i := 4) (oi := { dst := some 41, op := Op.move (Operand.tmp 1), type := 72, pos := _, after := _, guard := none }) (v := .pointer (some ⟨b, o, none⟩)) rfl (by kernel_rfl) (by kernel_rfl) (by kernel_rfl) (fun _ _ _ h => h) (Or.inl ⟨by rfl, fun u hu => by go_simp⟩) hS ?_
      simp only [Act.put, List.setIfInBounds_toArray, List.set_cons_zero, List.set_cons_succ]
      refine wpAnyH_ready (rs := [5]) (by kernel_rfl) (by simp) (AllReadyH.cons (o := { dst := some 42, op := Op.call { callee := Callee.value (Operand.func 31), args := #[Operand.tmp 41], argTypes := #[72] }, type := 75, pos := _, after := _, guard := none }) rfl (fun K hK => ?_) AllReadyH.nil)
      go_simp
      refine (globalOf_any b o (x.lib, x.own) _ (Nat.lt_of_lt_of_le hbw hS.size) ((hS.cell (p := ⟨b, o + 3, none⟩) hbw).trans C3.out) ((hS.cell (p := ⟨b, o + 4, none⟩) hbw).trans C4.out)).mono ?_
      rintro e W1 ⟨rfl, hb1⟩
      have hS1 := hS.trans (hb1.mono hS.size)
      have PV1 := hidd ((PS.out.call (Below.drew (Below.refl _ _))).call hb1)
      clear hb1
      show K _ W1
      refine hK.out _ _ hS1 (fun hS => ?_)
      clear hK K
      refine wpAnyH_take (i := 6) (oi := { dst := some 43, op := Op.lookup 53 (Operand.tmp 40) (Operand.tmp 42) false, type := 3, pos := _, after := _, guard := none }) (v := .int .i64 (((idxG gs (x.lib, x.own)).getD 0 : Nat) : Int)) rfl (by kernel_rfl) (by kernel_rfl) (by kernel_rfl) (fun _ _ _ h => h) (Or.inl ⟨by rfl, fun u hu => by (have z := LK.out u hu; go_simp)⟩) hS ?_
      simp only [Act.put, List.setIfInBounds_toArray, List.set_cons_zero, List.set_cons_succ]
      refine wpAnyH_take (i := 7) (oi := { dst := some 44, op := Op.fieldAddr 51 (Operand.tmp 7) 1, type := 0, pos := _, after := _, guard := none }) (v := .pointer (some ⟨N2, 1, none⟩)) rfl (by kernel_rfl) (by kernel_rfl) (by kernel_rfl) (fun _ _ _ h => h) (Or.inl ⟨by rfl, fun u hu => by go_simp⟩) hS ?_
      simp only [Act.put, List.setIfInBounds_toArray, List.set_cons_zero, List.set_cons_succ]
      refine wpAnyH_ready (rs := [8]) (by kernel_rfl) (by simp) (AllReadyH.cons (o := { dst := none, op := Op.store 3 (Operand.tmp 44) (Operand.tmp 43), type := 0, pos := _, after := _, guard := none }) rfl (fun K hK => ?_) AllReadyH.nil)
      have y1 : W1.cell? ⟨N2, 1, none⟩ = some (.int .i64 0) := (cellO PV1.out.n2).trans rfl
      have yz := looseO (q := 1) PV1.out.n2
      go_simp
      refine hK.out _ _ (hS.setCell (p := ⟨N2, 1, none⟩) PS.out.l2 _) (fun hS => ?_)
      clear hK K y1 yz
      refine wpAnyH_done (by kernel_rfl) ?_ _
      go_wp2_with fail
      go_meet
      case rel => exact ⟨none, 0, 0, PV1.out.set 1 (.int .i64 (((idxG gs (x.lib, x.own)).getD 0 : Nat) : Int)), Nat.le_refl _, Dc.nil _ _ _ _⟩
    · have hX := HX.out
      unfold placeI at hX
      rw [← HXP.out] at hX
      simp at hX
      subst hX
      have C3 := hidd HIL.out.c3
      have C4 := hidd HIL.out.c4
      have LK : Hid (∀ u, Below w.heap.size w u → _) := hidd (fun u hu => (HT.out.mp.kept (w' := u) (hu.block _ HT.out.mp.lt)).at (x.lib, x.own) ⟨HIL.out.l3, HIL.out.l4⟩)
      clear HX HXP
      go_upto_region 11 with fail
      refine wp_region_held_drew (S := fun u => Below w.heap.size w u) (by kernel_rfl) PS.out.bl.drew (fun hS => ?_)
      refine wpAnyH_take (i := 0) (oi := { dst := some 37, op := Op.move (Operand.tmp 0), type := 67, pos := _, after := _, guard := none }) (v := .pointer (some ⟨t, 0, none⟩)) rfl (by kernel_rfl) (by kernel_rfl) (by kernel_rfl) (fun _ _ _ h => h) (Or.inl ⟨by rfl, fun u hu => by go_simp⟩) hS ?_
      simp only [Act.put, List.setIfInBounds_toArray, List.set_cons_zero, List.set_cons_succ]
      refine wpAnyH_take (i := 1) (oi := { dst := some 38, op := Op.nilCheck (Operand.tmp 37), type := 0, pos := _, after := _, guard := none }) (v := .pointer (some ⟨t, 0, none⟩)) rfl (by kernel_rfl) (by kernel_rfl) (by kernel_rfl) (fun _ _ _ h => h) (Or.inl ⟨by rfl, fun u hu => by go_simp⟩) hS ?_
      simp only [Act.put, List.setIfInBounds_toArray, List.set_cons_zero, List.set_cons_succ]
      refine wpAnyH_take (i := 2) (oi := { dst := some 39, op := Op.fieldAddr 55 (Operand.tmp 38) 1, type := 0, pos := _, after := _, guard := none }) (v := .pointer (some ⟨t, 1, none⟩)) rfl (by kernel_rfl) (by kernel_rfl) (by kernel_rfl) (fun _ _ _ h => h) (Or.inl ⟨by rfl, fun u hu => by go_simp⟩) hS ?_
      simp only [Act.put, List.setIfInBounds_toArray, List.set_cons_zero, List.set_cons_succ]
      refine wpAnyH_take (i := 3) (oi := { dst := some 40, op := Op.load 53 (Operand.tmp 39), type := 53, pos := _, after := _, guard := none }) (v := .map (some m)) rfl (by kernel_rfl) (by kernel_rfl) (by kernel_rfl) (fun _ _ _ h => h) (Or.inl ⟨by rfl, fun u hu => by (have z : u.cell? ⟨t, 1, none⟩ = some (.map (some m)) := (cellO ((hu.block _ (Array.getElem?_eq_some_iff.1 HT.out.tb).1).trans HT.out.tb)).trans rfl; go_simp)⟩) hS ?_
      simp only [Act.put, List.setIfInBounds_toArray, List.set_cons_zero, List.set_cons_succ]
      refine wpAnyH_take (i := 4) (oi := { dst := some 41, op := Op.move (Operand.tmp 1), type := 72, pos := _, after := _, guard := none }) (v := .pointer (some ⟨b, o, none⟩)) rfl (by kernel_rfl) (by kernel_rfl) (by kernel_rfl) (fun _ _ _ h => h) (Or.inl ⟨by rfl, fun u hu => by go_simp⟩) hS ?_
      simp only [Act.put, List.setIfInBounds_toArray, List.set_cons_zero, List.set_cons_succ]
      refine wpAnyH_ready (rs := [5]) (by kernel_rfl) (by simp) (AllReadyH.cons (o := { dst := some 42, op := Op.call { callee := Callee.value (Operand.func 31), args := #[Operand.tmp 41], argTypes := #[72] }, type := 75, pos := _, after := _, guard := none }) rfl (fun K hK => ?_) AllReadyH.nil)
      go_simp
      refine (globalOf_any b o (x.lib, x.own) _ (Nat.lt_of_lt_of_le hbw hS.size) ((hS.cell (p := ⟨b, o + 3, none⟩) hbw).trans C3.out) ((hS.cell (p := ⟨b, o + 4, none⟩) hbw).trans C4.out)).mono ?_
      rintro e W1 ⟨rfl, hb1⟩
      have hS1 := hS.trans (hb1.mono hS.size)
      have PV1 := hidd ((PS.out.call (Below.drew (Below.refl _ _))).call hb1)
      clear hb1
      show K _ W1
      refine hK.out _ _ hS1 (fun hS => ?_)
      clear hK K
      refine wpAnyH_take (i := 6) (oi := { dst := some 43, op := Op.lookup 53 (Operand.tmp 40) (Operand.tmp 42) false, type := 3, pos := _, after := _, guard := none }) (v := .int .i64 (((idxG gs (x.lib, x.own)).getD 0 : Nat) : Int)) rfl (by kernel_rfl) (by kernel_rfl) (by kernel_rfl) (fun _ _ _ h => h) (Or.inl ⟨by rfl, fun u hu => by (have z := LK.out u hu; go_simp)⟩) hS ?_
      simp only [Act.put, List.setIfInBounds_toArray, List.set_cons_zero, List.set_cons_succ]
      refine wpAnyH_take (i := 7) (oi := { dst := some 44, op := Op.fieldAddr 51 (Operand.tmp 7) 1, type := 0, pos := _, after := _, guard := none }) (v := .pointer (some ⟨N2, 1, none⟩)) rfl (by kernel_rfl) (by kernel_rfl) (by kernel_rfl) (fun _ _ _ h => h) (Or.inl ⟨by rfl, fun u hu => by go_simp⟩) hS ?_
      simp only [Act.put, List.setIfInBounds_toArray, List.set_cons_zero, List.set_cons_succ]
      refine wpAnyH_ready (rs := [8]) (by kernel_rfl) (by simp) (AllReadyH.cons (o := { dst := none, op := Op.store 3 (Operand.tmp 44) (Operand.tmp 43), type := 0, pos := _, after := _, guard := none }) rfl (fun K hK => ?_) AllReadyH.nil)
      have y1 : W1.cell? ⟨N2, 1, none⟩ = some (.int .i64 0) := (cellO PV1.out.n2).trans rfl
      have yz := looseO (q := 1) PV1.out.n2
      go_simp
      refine hK.out _ _ (hS.setCell (p := ⟨N2, 1, none⟩) PS.out.l2 _) (fun hS => ?_)
      clear hK K y1 yz
      refine wpAnyH_done (by kernel_rfl) ?_ _
      go_wp2_with fail
      go_meet
      case rel => exact ⟨none, 0, 0, PV1.out.set 1 (.int .i64 (((idxG gs (x.lib, x.own)).getD 0 : Nat) : Int)), Nat.le_refl _, Dc.nil _ _ _ _⟩
    · have hX := HX.out
      unfold placeI at hX
      rw [← HXP.out] at hX
      simp at hX
      subst hX
      clear HX HXP
      go_wp2_with fail
      go_meet
      case rel => exact ⟨none, 0, 0, PS.out, Nat.le_refl _, Dc.nil _ _ _ _⟩
    · have hX := HX.out
      unfold placeI at hX
      rw [← HXP.out] at hX
      simp at hX
      subst hX
      clear HX HXP
      go_wp2_with fail
      go_meet
      case rel => exact ⟨none, 0, 0, PS.out, Nat.le_refl _, Dc.nil _ _ _ _⟩
  case rest =>
  obtain ⟨qa, qc, f, PP, hq, hd⟩ := hcut
  have PP := hidd PP
  have HQ := hidd hq
  have HD := hidd hd
  unfold ic at PP
  clear hq hd PS d0 c0
  have e0 : wc.cell? ⟨N2, 0, none⟩ = some (.int .i64 X.op) := (cellO PP.out.n2).trans rfl
  have e1 : wc.cell? ⟨N2, 1, none⟩ = some (.int .i64 X.a) := (cellO PP.out.n2).trans rfl
  have e2 : wc.cell? ⟨N2, 2, none⟩ = some (.int .i64 X.n) := (cellO PP.out.n2).trans rfl
  have e3 : wc.cell? ⟨N2, 3, none⟩ = some (.string X.lib) := (cellO PP.out.n2).trans rfl
  have e4 : wc.cell? ⟨N2, 4, none⟩ = some (.string X.own) := (cellO PP.out.n2).trans rfl
  have e5 : wc.cell? ⟨N2, 5, none⟩ = some (.int .i64 X.quote.kind) := (cellO PP.out.n2).trans rfl
  have e6 : wc.cell? ⟨N2, 6, none⟩ = some (.int .i64 X.quote.n) := (cellO PP.out.n2).trans rfl
  have e7 : wc.cell? ⟨N2, 7, none⟩ = some (.string X.quote.name) := (cellO PP.out.n2).trans rfl
  have e8 : wc.cell? ⟨N2, 8, none⟩ = some (.int .i64 X.quote.stamp) := (cellO PP.out.n2).trans rfl
  have e9 : wc.cell? ⟨N2, 9, none⟩ = some (.int .i64 X.quote.lib) := (cellO PP.out.n2).trans rfl
  have e10 : wc.cell? ⟨N2, 10, none⟩ = some (.slice qa X.quote.kids.length qc) := (cellO PP.out.n2).trans rfl
  have r0 : wc.cell? ⟨N1, 0, none⟩ = some (.int .i64 0) := (cellO PP.out.n1).trans rfl
  have r1 : wc.cell? ⟨N1, 1, none⟩ = some (.int .i64 0) := (cellO PP.out.n1).trans rfl
  have r2 : wc.cell? ⟨N1, 2, none⟩ = some (.int .i64 0) := (cellO PP.out.n1).trans rfl
  have r3 : wc.cell? ⟨N1, 3, none⟩ = some (.string ⟨#[]⟩) := (cellO PP.out.n1).trans rfl
  have r4 : wc.cell? ⟨N1, 4, none⟩ = some (.string ⟨#[]⟩) := (cellO PP.out.n1).trans rfl
  have r5 : wc.cell? ⟨N1, 5, none⟩ = some (.int .i64 0) := (cellO PP.out.n1).trans rfl
  have r6 : wc.cell? ⟨N1, 6, none⟩ = some (.int .i64 0) := (cellO PP.out.n1).trans rfl
  have r7 : wc.cell? ⟨N1, 7, none⟩ = some (.string ⟨#[]⟩) := (cellO PP.out.n1).trans rfl
  have r8 : wc.cell? ⟨N1, 8, none⟩ = some (.int .i64 0) := (cellO PP.out.n1).trans rfl
  have r9 : wc.cell? ⟨N1, 9, none⟩ = some (.int .i64 0) := (cellO PP.out.n1).trans rfl
  have r10 : wc.cell? ⟨N1, 10, none⟩ = some (.slice none 0 0) := (cellO PP.out.n1).trans rfl
  have rz : ∀ q, wc.frozen? ⟨N1, q, none⟩ = false := fun q => looseO PP.out.n1
  have END := hidd (fill11_heap PP.out.n1 (.int .i64 X.op) (.int .i64 X.a) (.int .i64 X.n) (.string X.lib) (.string X.own) (.int .i64 X.quote.kind) (.int .i64 X.quote.n) (.string X.quote.name) (.int .i64 X.quote.stamp) (.int .i64 X.quote.lib) (.slice qa X.quote.kids.length qc))
  have FKP := hidd (fill11_keep wc N1 (.int .i64 X.op) (.int .i64 X.a) (.int .i64 X.n) (.string X.lib) (.string X.own) (.int .i64 X.quote.kind) (.int .i64 X.quote.n) (.string X.quote.name) (.int .i64 X.quote.stamp) (.int .i64 X.quote.lib) (.slice qa X.quote.kids.length qc))
  clear HX HIL H3 H6 H7 HOP HT
  go_wp2_with fail
  refine bodyPost_ret (ret35 END.out rfl) rfl ⟨qa, qc, rfl, ?_, HQ.out, f, ?_⟩
  · exact PP.out.bl.trans (FKP.out.toBelow PP.out.l1 PP.out.bl.size)
  · exact Dc.stay (fun k hk => FKP.out.block k hk.2.2 (by have := hk.1; simp; omega)) (fun k hk => ⟨by have := PP.out.l1; omega, Nat.lt_of_lt_of_le hk.2.2 FKP.out.size⟩) f _ _ HD.out
end Go.Proofs.YtdnbingddbakaaaDoor
