/- Chapter 5's laws: MacroStamps, walked. -/
import Derived.Test.YtgeedaabdonjcaeGreatDoorK40
import Derived.Test.YtgeedaabdonjcaeGreatDoorK44
namespace Go.Proofs.YtgeedaabdonjcaeGreatDoor
set_option linter.unusedVariables false
set_option linter.unusedSimpArgs false
open Go.RowKit Go.Maps Go.WideMaps

/-- The law's two boxes. -/
structure SW (w : World) (M F : Array Value) (W : World) : Prop where
  old : Below w.heap.size w W
  b0 : W.heap[w.heap.size]? = some (.cells M 25 (0, 0))
  b1 : W.heap[w.heap.size + 1]? = some (.cells F 28 (0, 0))
theorem SW.below {w W W' : World} {M F : Array Value} (h : SW w M F W) (hb : Below W.heap.size W W') : SW w M F W' :=
  ⟨h.old.trans (hb.mono h.old.size), (hb.block _ (Array.getElem?_eq_some_iff.1 h.b0).1).trans h.b0, (hb.block _ (Array.getElem?_eq_some_iff.1 h.b1).1).trans h.b1⟩
theorem SW.start (w : World) (M F : Array Value) : SW w M F ((w.alloc (.cells M 25)).alloc (.cells F 28)) := by
  refine ⟨((Below.refl _ _).alloc (Nat.le_refl _) _).alloc (by simp) _, ?_, ?_⟩
  · exact (Below.heap_alloc _ _ _ (by simp)).trans (World.alloc_heap_new w _)
  · have := World.alloc_heap_new (w.alloc (.cells M 25)) (.cells F 28)
    simpa using this
theorem SW.cell0 {w W : World} {M F : Array Value} (h : SW w M F W) (q : Nat) : W.cell? ⟨w.heap.size, q, none⟩ = M[q]? := by simp [World.cell?, h.b0]
theorem SW.cell1 {w W : World} {M F : Array Value} (h : SW w M F W) (q : Nat) : W.cell? ⟨w.heap.size + 1, q, none⟩ = F[q]? := by simp [World.cell?, h.b1]
theorem Strs.lift {w w' : World} {a : Option Addr} {l : List ByteArray} (h : Strs w.heap.size w a l) (hb : Below w.heap.size w w') : Strs w'.heap.size w' a l := h.stay (fun k hk => hb.block k hk) hb.size

set_option maxRecDepth 100000 in
set_option maxHeartbeats 6400000 in
theorem MacroStamps_walk (li : List ByteArray) (ru : List (Dat × Dat)) (la ra : Option Addr) (lc rc g : Nat) (d : Dat) (fa : Option Addr) (fc gd : Nat) (s t lb : Int) (w : World)
    (hs : Strs w.heap.size w la li) (hr : Rn w g ra ru) (hf : Dn w gd fa d.kids) (hfc : d.kids.length ≤ fc) (hsr : smR ru) (hsm : smD d) :
    Calls Tryz.prog 3 #[mv li ru la ra lc rc, dv d fa fc, .int .i64 s, .int .i64 t, .int .i64 lb] w fun e w' => e = .returned (.bool true) ∧ Below w.heap.size w w' := by
  have H0 := hidd (SW.start w #[.slice la li.length lc, .slice ra ru.length rc] #[.int .i64 d.kind, .int .i64 d.n, .string d.name, .int .i64 d.stamp, .int .i64 d.lib, .slice fa d.kids.length fc])
  have WO : Hid (∀ (x : Int) W, Below w.heap.size w W → Calls Tryz.prog 10 #[dv d fa fc, .int .i64 x] W fun e w' => e = .returned (.bool (noSt x d)) ∧ Below W.heap.size W w') := fun x W hb => without_any W.heap.size x _ d fa fc W (Dn.lift hf hb).lc.1 (Nat.le_refl _)
  have UO : Hid (∀ (x : Int) W, Below w.heap.size w W → Calls Tryz.prog 11 #[mv li ru la ra lc rc, dv d fa fc, .int .i64 x, .int .i64 lb] W (ToldU (useM li ru d x lb) W)) := fun x W hb => Use_here g gd li ru la ra lc rc d fa fc x lb W (hs.lift hb) (hr.lift hb) (Dn.lift hf hb) hfc hsr hsm
  obtain ⟨r1, y1, hu1⟩ : ∃ r y, useM li ru d s lb = (r, y) := ⟨_, _, rfl⟩
  obtain ⟨r2, y2, hu2⟩ : ∃ r y, useM li ru d t lb = (r, y) := ⟨_, _, rfl⟩
  have US : Hid (noSt s d = true → y1 = y2 ∧ reSt s t r1 = r2) := fun h => by
    have := use_stamps li ru d s t lb h
    rw [hu1, hu2] at this
    exact this
  have FW : Hid (fewD r1) := by
    have := fewD_use li ru d s lb
    rw [hu1] at this
    exact this
  have UA : Hid (∀ W, Below w.heap.size w W → Calls Tryz.prog 11 #[mv li ru la ra lc rc, dv d fa fc, .int .i64 s, .int .i64 lb] W (ToldU (r1, y1) W)) := fun W hb => by have := UO.out s W hb; rwa [hu1] at this
  have UB : Hid (∀ W, Below w.heap.size w W → Calls Tryz.prog 11 #[mv li ru la ra lc rc, dv d fa fc, .int .i64 t, .int .i64 lb] W (ToldU (r2, y2) W)) := fun W hb => by have := UO.out t W hb; rwa [hu2] at this
  clear hu1 hu2 UO
  unfold mv dv at WO UA UB
  clear hs hr hf hsr hsm hfc
  unfold mv dv
  go_enter Tryz.func3, Tryz.ntmps3
  go_wp2_with fail
  refine (alive_any _).mono ?_
  rintro e v0 ⟨rfl, hb⟩
  have F0 := hidd (H0.out.below hb)
  clear hb H0
  have m0 := F0.out.cell0 0
  have m1 := F0.out.cell0 1
  have e0 := F0.out.cell1 0
  have e1 := F0.out.cell1 1
  have e2 := F0.out.cell1 2
  have e3 := F0.out.cell1 3
  have e4 := F0.out.cell1 4
  have e5 := F0.out.cell1 5
  simp at m0 m1 e0 e1 e2 e3 e4 e5
  by_cases hst : s = t
  · have hst' : (s == t) = true := by simpa using hst
    go_wp2_with fail
    go_ret
    exact ⟨rfl, F0.out.old⟩
  · have hst' : (s == t) = false := by simpa using hst
    clear hst
    go_wp2_with fail
    refine (WO.out s _ F0.out.old).mono ?_
    rintro e v1 ⟨rfl, hb⟩
    have F1 := hidd (F0.out.below hb)
    clear hb F0 m0 m1 e0 e1 e2 e3 e4 e5
    have m0 := F1.out.cell0 0
    have m1 := F1.out.cell0 1
    have e0 := F1.out.cell1 0
    have e1 := F1.out.cell1 1
    have e2 := F1.out.cell1 2
    have e3 := F1.out.cell1 3
    have e4 := F1.out.cell1 4
    have e5 := F1.out.cell1 5
    simp at m0 m1 e0 e1 e2 e3 e4 e5
    cases hn1 : noSt s d with
    | false =>
      go_wp2_with fail
      go_ret
      exact ⟨rfl, F1.out.old⟩
    | true =>
      have NS := hidd hn1
      clear hn1
      go_wp2_with fail
      refine (WO.out t _ F1.out.old).mono ?_
      rintro e v2 ⟨rfl, hb⟩
      have F2 := hidd (F1.out.below hb)
      clear hb F1 m0 m1 e0 e1 e2 e3 e4 e5
      have m0 := F2.out.cell0 0
      have m1 := F2.out.cell0 1
      have e0 := F2.out.cell1 0
      have e1 := F2.out.cell1 1
      have e2 := F2.out.cell1 2
      have e3 := F2.out.cell1 3
      have e4 := F2.out.cell1 4
      have e5 := F2.out.cell1 5
      simp at m0 m1 e0 e1 e2 e3 e4 e5
      cases hn2 : noSt t d with
      | false =>
        go_wp2_with fail
        go_ret
        exact ⟨rfl, F2.out.old⟩
      | true =>
        clear hn2
        go_wp2_with fail
        obtain ⟨rfl, hre⟩ := US.out NS.out
        have RE := hidd hre
        clear hre US NS WO
        refine (UA.out _ F2.out.old).mono ?_
        rintro e v3 ⟨hb, a1, c1, f1, rfl, hc1, hd1⟩
        have F3 := hidd (F2.out.below hb)
        have D1 := hidd (Dn.of hd1)
        clear hb hc1 hd1 F2 UA m0 m1 e0 e1 e2 e3 e4 e5
        simp only at D1
        have ba : Below v3.heap.size v3 (v3.alloc (.cells #[.int .i64 r1.kind, .int .i64 r1.n, .string r1.name, .int .i64 r1.stamp, .int .i64 r1.lib, .slice a1 r1.kids.length c1] 28)) := (Below.refl _ _).alloc (Nat.le_refl _) _
        have F4 := hidd (F3.out.below ba)
        have N1 := hidd (Nod.made v3 r1 (.slice a1 r1.kids.length c1))
        have D1b := hidd (Dn.lift D1.out ba)
        clear ba D1
        have m0 := F4.out.cell0 0
        have m1 := F4.out.cell0 1
        have e0 := F4.out.cell1 0
        have e1 := F4.out.cell1 1
        have e2 := F4.out.cell1 2
        have e3 := F4.out.cell1 3
        have e4 := F4.out.cell1 4
        have e5 := F4.out.cell1 5
        simp at m0 m1 e0 e1 e2 e3 e4 e5
        unfold dv
        simp only
        go_wp2_with fail
        refine (UB.out _ F4.out.old).mono ?_
        rintro e v4 ⟨hb, a2, c2, f2, rfl, hc2, hd2⟩
        have F5 := hidd (F4.out.below hb)
        have D2 := hidd (Dn.of hd2)
        have N1b := hidd (N1.out.after hb)
        have D1c := hidd (Dn.lift D1b.out hb)
        clear hb hc2 hd2 F3 F4 UB m0 m1 e0 e1 e2 e3 e4 e5 N1 D1b
        simp only at D2
        have ba : Below v4.heap.size v4 (v4.alloc (.cells #[.int .i64 r2.kind, .int .i64 r2.n, .string r2.name, .int .i64 r2.stamp, .int .i64 r2.lib, .slice a2 r2.kids.length c2] 28)) := (Below.refl _ _).alloc (Nat.le_refl _) _
        have GW := hidd (F5.out.below ba).old
        have N2 := hidd (Nod.made v4 r2 (.slice a2 r2.kids.length c2))
        have N1c := hidd (N1b.out.after ba)
        have E1 := hidd (Dn.lift D1c.out ba)
        have E2 := hidd (Dn.lift D2.out ba)
        clear ba F5 N1b D1c D2
        unfold dv
        simp only
        go_upto_region 7 with fail
        generalize v4.alloc (.cells #[.int .i64 r2.kind, .int .i64 r2.n, .string r2.name, .int .i64 r2.stamp, .int .i64 r2.lib, .slice a2 r2.kids.length c2] 28) = W0 at GW N2 N1c E1 E2 ⊢
        generalize v4.heap.size = M2 at N2
        generalize v3.heap.size = M1 at N1c
        obtain ⟨x, x0, x1, x2, x3, x4, x5, xz⟩ := N1c.out
        obtain ⟨q, q0, q1, q2, q3, q4, q5, qz⟩ := N2.out
        have RS1 : Hid (∀ W, Below W0.heap.size W0 W → Calls Tryz.prog 13 #[dv r1 a1 c1, .int .i64 s, .int .i64 t] W (ToldO r2 W)) := fun W hb => by have := restamped_any s t f1 r1 a1 c1 W (Dn.lift E1.out hb) FW.out; rwa [RE.out] at this
        unfold dv at RS1
        clear N1c N2
        refine wp_region_held_drew (S := fun u => Below W0.heap.size W0 u) (by kernel_rfl) (Below.drew (Below.refl _ _)) (fun hS => ?_)
        refine wpAnyH_take (i := 0) (oi := { dst := some 48, op := Op.move (Operand.tmp 12), type := 31, pos := _, after := _, guard := none }) (v := .int .i64 y1) rfl (by kernel_rfl) (by kernel_rfl) (by kernel_rfl) (fun _ _ _ h => h) (Or.inl ⟨by rfl, fun u hu => by go_simp⟩) hS ?_
        simp only [Act.put, List.setIfInBounds_toArray, List.set_cons_zero, List.set_cons_succ]
        refine wpAnyH_take (i := 1) (oi := { dst := some 49, op := Op.move (Operand.tmp 14), type := 31, pos := _, after := _, guard := none }) (v := .int .i64 y1) rfl (by kernel_rfl) (by kernel_rfl) (by kernel_rfl) (fun _ _ _ h => h) (Or.inl ⟨by rfl, fun u hu => by go_simp⟩) hS ?_
        simp only [Act.put, List.setIfInBounds_toArray, List.set_cons_zero, List.set_cons_succ]
        refine wpAnyH_take (i := 2) (oi := { dst := some 50, op := Op.binOp BinOp.eql 31 (Operand.tmp 48) (Operand.tmp 49) 31, type := 4, pos := _, after := _, guard := none }) (v := .bool true) rfl (by kernel_rfl) (by kernel_rfl) (by kernel_rfl) (fun _ _ _ h => h) (Or.inl ⟨by rfl, fun u hu => by go_simp⟩) hS ?_
        simp only [Act.put, List.setIfInBounds_toArray, List.set_cons_zero, List.set_cons_succ]
        refine wpAnyH_take (i := 3) (oi := { dst := some 51, op := Op.move (Operand.tmp 50), type := 4, pos := _, after := _, guard := none }) (v := .bool true) rfl (by kernel_rfl) (by kernel_rfl) (by kernel_rfl) (fun _ _ _ h => h) (Or.inl ⟨by rfl, fun u hu => by go_simp⟩) hS ?_
        simp only [Act.put, List.setIfInBounds_toArray, List.set_cons_zero, List.set_cons_succ]
        refine wpAnyH_take (i := 4) (oi := { dst := some 52, op := Op.load 28 (Operand.tmp 11), type := 28, pos := _, after := _, guard := some (3, true) }) (v := .agg #[.int .i64 r1.kind, .int .i64 r1.n, .string r1.name, .int .i64 r1.stamp, .int .i64 r1.lib, .slice a1 r1.kids.length c1]) rfl (by kernel_rfl) (by kernel_rfl) (by kernel_rfl) (fun _ _ _ h => h) (Or.inl ⟨by rfl, fun u hu => by (have z0 := (hu.cell (p := ⟨M1, 0, none⟩) x).trans x0; have z1 := (hu.cell (p := ⟨M1, 1, none⟩) x).trans x1; have z2 := (hu.cell (p := ⟨M1, 2, none⟩) x).trans x2; have z3 := (hu.cell (p := ⟨M1, 3, none⟩) x).trans x3; have z4 := (hu.cell (p := ⟨M1, 4, none⟩) x).trans x4; have z5 := (hu.cell (p := ⟨M1, 5, none⟩) x).trans x5; go_simp)⟩) hS ?_
        simp only [Act.put, List.setIfInBounds_toArray, List.set_cons_zero, List.set_cons_succ]
        refine wpAnyH_take (i := 5) (oi := { dst := some 53, op := Op.move (Operand.tmp 2), type := 3, pos := _, after := _, guard := some (3, true) }) (v := .int .i64 s) rfl (by kernel_rfl) (by kernel_rfl) (by kernel_rfl) (fun _ _ _ h => h) (Or.inl ⟨by rfl, fun u hu => by go_simp⟩) hS ?_
        simp only [Act.put, List.setIfInBounds_toArray, List.set_cons_zero, List.set_cons_succ]
        refine wpAnyH_take (i := 6) (oi := { dst := some 54, op := Op.move (Operand.tmp 3), type := 3, pos := _, after := _, guard := some (3, true) }) (v := .int .i64 t) rfl (by kernel_rfl) (by kernel_rfl) (by kernel_rfl) (fun _ _ _ h => h) (Or.inl ⟨by rfl, fun u hu => by go_simp⟩) hS ?_
        simp only [Act.put, List.setIfInBounds_toArray, List.set_cons_zero, List.set_cons_succ]
        refine wpAnyH_take (i := 8) (oi := { dst := some 56, op := Op.load 28 (Operand.tmp 13), type := 28, pos := _, after := _, guard := some (3, true) }) (v := .agg #[.int .i64 r2.kind, .int .i64 r2.n, .string r2.name, .int .i64 r2.stamp, .int .i64 r2.lib, .slice a2 r2.kids.length c2]) rfl (by kernel_rfl) (by kernel_rfl) (by kernel_rfl) (fun _ _ _ h => h) (Or.inl ⟨by rfl, fun u hu => by (have z0 := (hu.cell (p := ⟨M2, 0, none⟩) q).trans q0; have z1 := (hu.cell (p := ⟨M2, 1, none⟩) q).trans q1; have z2 := (hu.cell (p := ⟨M2, 2, none⟩) q).trans q2; have z3 := (hu.cell (p := ⟨M2, 3, none⟩) q).trans q3; have z4 := (hu.cell (p := ⟨M2, 4, none⟩) q).trans q4; have z5 := (hu.cell (p := ⟨M2, 5, none⟩) q).trans q5; go_simp)⟩) hS ?_
        simp only [Act.put, List.setIfInBounds_toArray, List.set_cons_zero, List.set_cons_succ]
        refine wpAnyH_ready (rs := [7]) (by kernel_rfl) (by simp) (AllReadyH.cons (o := { dst := some 55, op := Op.call { callee := Callee.value (Operand.func 13), args := #[Operand.tmp 52, Operand.tmp 53, Operand.tmp 54], argTypes := #[28, 3, 3] }, type := 28, pos := _, after := _, guard := some (3, true) }) rfl (fun K hK => ?_) AllReadyH.nil)
        go_simp
        refine (RS1.out W0.drew hS).mono ?_
        rintro e W1 ⟨hb1, xa1, xc1, xf1, rfl, hc1, hd1⟩
        have RR_1 : Hid (Dn W1 xf1 xa1 r2.kids) := Dn.of hd1
        have hS1 := hS.trans (hb1.mono hS.size)
        clear hb1 hc1 hd1
        unfold dv
        show K _ W1
        refine hK.out _ _ hS1 (fun hS => ?_)
        clear hK K
        refine wpAnyH_ready (rs := [9]) (by kernel_rfl) (by simp) (AllReadyH.cons (o := { dst := some 57, op := Op.call { callee := Callee.value (Operand.func 12), args := #[Operand.tmp 55, Operand.tmp 56], argTypes := #[28, 28] }, type := 4, pos := _, after := _, guard := some (3, true) }) rfl (fun K hK => ?_) AllReadyH.nil)
        go_simp
        refine Calls.mono (Equal_here _ _ r2 r2 xa1 a2 xc1 c2 W1 RR_1.out (Dn.lift E2.out hS) rfl) ?_
        rintro e W2 ⟨rfl, hb2⟩
        have RR_2 : Hid (Dn W2 xf1 xa1 r2.kids) := Dn.lift RR_1.out hb2
        have hS2 := hS.trans (hb2.mono hS.size)
        clear hb2
        try unfold dv
        show K _ W2
        refine hK.out _ _ hS2 (fun hS => ?_)
        clear hK K
        refine wpAnyH_take (i := 10) (oi := { dst := some 58, op := Op.pick (Operand.tmp 51) (Operand.tmp 57) (Operand.const (Value.bool false)), type := 4, pos := _, after := _, guard := none }) (v := .bool true) rfl (by kernel_rfl) (by kernel_rfl) (by kernel_rfl) (fun _ _ _ h => h) (Or.inl ⟨by rfl, fun u hu => by go_simp⟩) hS ?_
        simp only [Act.put, List.setIfInBounds_toArray, List.set_cons_zero, List.set_cons_succ]
        refine wpAnyH_take (i := 11) (oi := { dst := some 10, op := Op.assign (Operand.tmp 58), type := 4, pos := _, after := _, guard := none }) (v := .bool true) rfl (by kernel_rfl) (by kernel_rfl) (by kernel_rfl) (fun _ _ _ h => h) (Or.inl ⟨by rfl, fun u hu => by go_simp⟩) hS ?_
        simp only [Act.put, List.setIfInBounds_toArray, List.set_cons_zero, List.set_cons_succ]
        refine wpAnyH_done (by kernel_rfl) ?_ _
        go_wp2_with fail
        go_ret
        exact ⟨rfl, GW.out.trans (hS.mono GW.out.size)⟩
end Go.Proofs.YtgeedaabdonjcaeGreatDoor
