/- Chapter 5's laws: MacroFirst, walked. -/
import Derived.Test.YtgeedaabdonjcaeGreatDoorK47
namespace Go.Proofs.YtgeedaabdonjcaeGreatDoor
set_option linter.unusedVariables false
set_option linter.unusedSimpArgs false
open Go.RowKit Go.Maps Go.WideMaps

/-- The law's three boxes. -/
structure SW3 (w : World) (M N F : Array Value) (W : World) : Prop where
  old : Below w.heap.size w W
  b0 : W.heap[w.heap.size]? = some (.cells M 25 (0, 0))
  b1 : W.heap[w.heap.size + 1]? = some (.cells N 25 (0, 0))
  b2 : W.heap[w.heap.size + 2]? = some (.cells F 28 (0, 0))
theorem SW3.lt {w W : World} {M N F : Array Value} (h : SW3 w M N F W) : w.heap.size + 2 < W.heap.size := (Array.getElem?_eq_some_iff.1 h.b2).1
theorem SW3.below {w W W' : World} {M N F : Array Value} (h : SW3 w M N F W) {B : Nat} (hb : Below B W W') (hB : w.heap.size + 3 ≤ B) : SW3 w M N F W' :=
  ⟨h.old.trans (hb.mono (by omega)), (hb.block _ (by omega)).trans h.b0, (hb.block _ (by omega)).trans h.b1, (hb.block _ (by omega)).trans h.b2⟩
theorem SW3.after {w W W' : World} {M N F : Array Value} (h : SW3 w M N F W) (hb : Below W.heap.size W W') : SW3 w M N F W' := h.below hb h.lt
theorem SW3.start (w : World) (M N F : Array Value) : SW3 w M N F (((w.alloc (.cells M 25)).alloc (.cells N 25)).alloc (.cells F 28)) := by
  refine ⟨(((Below.refl _ _).alloc (Nat.le_refl _) _).alloc (by simp) _).alloc (by simp; omega) _, ?_, ?_, ?_⟩
  · exact (Below.heap_alloc _ _ _ (by simp; omega)).trans ((Below.heap_alloc _ _ _ (by simp)).trans (World.alloc_heap_new w _))
  · refine (Below.heap_alloc _ _ _ (by simp)).trans ?_
    have := World.alloc_heap_new (w.alloc (.cells M 25)) (.cells N 25)
    simpa using this
  · have := World.alloc_heap_new ((w.alloc (.cells M 25)).alloc (.cells N 25)) (.cells F 28)
    simpa using this
theorem SW3.cell0 {w W : World} {M N F : Array Value} (h : SW3 w M N F W) (q : Nat) : W.cell? ⟨w.heap.size, q, none⟩ = M[q]? := by simp [World.cell?, h.b0]
theorem SW3.cell1 {w W : World} {M N F : Array Value} (h : SW3 w M N F W) (q : Nat) : W.cell? ⟨w.heap.size + 1, q, none⟩ = N[q]? := by simp [World.cell?, h.b1]
theorem SW3.cell2 {w W : World} {M N F : Array Value} (h : SW3 w M N F W) (q : Nat) : W.cell? ⟨w.heap.size + 2, q, none⟩ = F[q]? := by simp [World.cell?, h.b2]

set_option maxRecDepth 100000 in
set_option maxHeartbeats 12800000 in
theorem MacroFirst_walk (li lj : List ByteArray) (ru rv : List (Dat × Dat)) (la ra ja qa : Option Addr) (lc rc jc qc g g2 : Nat) (d : Dat) (fa : Option Addr) (fc gd : Nat) (w : World)
    (hs : Strs w.heap.size w la li) (hr : Rn w g ra ru) (hr2 : Rn w g2 qa rv) (hf : Dn w gd fa d.kids) (hfc : d.kids.length ≤ fc) (hsr : smR ru) (hsr2 : smR rv) (hsm : smD d) (hlen : (ru.length + rv.length) * 144 ≤ 140737488355328) :
    Calls Tryz.prog 4 #[mv li ru la ra lc rc, mv lj rv ja qa jc qc, dv d fa fc] w fun e w' => e = .returned (.bool true) ∧ Below w.heap.size w w' := by
  have H0 := hidd (SW3.start w #[.slice la li.length lc, .slice ra ru.length rc] #[.slice ja lj.length jc, .slice qa rv.length qc] #[.int .i64 d.kind, .int .i64 d.n, .string d.name, .int .i64 d.stamp, .int .i64 d.lib, .slice fa d.kids.length fc])
  have UA : Hid (∀ W, Below w.heap.size w W → Calls Tryz.prog 11 #[mv li ru la ra lc rc, dv d fa fc, .int .i64 1, .int .i64 1] W (ToldU (useM li ru d 1 1) W)) := fun W hb => Use_here g gd li ru la ra lc rc d fa fc 1 1 W (hs.lift hb) (hr.lift hb) (Dn.lift hf hb) hfc hsr hsm
  have UC : Hid (∀ W, Below w.heap.size w W → Calls Tryz.prog 11 #[mv li rv la qa lc qc, dv d fa fc, .int .i64 1, .int .i64 1] W (ToldU (useM li rv d 1 1) W)) := fun W hb => Use_here g2 gd li rv la qa lc qc d fa fc 1 1 W (hs.lift hb) (hr2.lift hb) (Dn.lift hf hb) hfc hsr2 hsm
  have ALL : Hid (Strs w.heap.size w la li ∧ Rn w g ra ru ∧ Rn w g2 qa rv ∧ Dn w gd fa d.kids ∧ d.kids.length ≤ fc ∧ smR ru ∧ smR rv ∧ smD d) := ⟨hs, hr, hr2, hf, hfc, hsr, hsr2, hsm⟩
  have hli := hs.1
  have hru := hr.1
  have hrv := hr2.1
  clear hs hr hr2 hf hfc hsr hsr2 hsm
  unfold mv dv at UA UC
  unfold mv dv
  go_enter Tryz.func4, Tryz.ntmps4
  go_wp2_with fail
  refine (alive_any _).mono ?_
  rintro e v0 ⟨rfl, hb⟩
  have F0 := hidd (H0.out.after hb)
  clear hb H0
  have m0 := F0.out.cell0 0
  have m1 := F0.out.cell0 1
  have n0 := F0.out.cell1 0
  have n1 := F0.out.cell1 1
  have e0 := F0.out.cell2 0
  have e1 := F0.out.cell2 1
  have e2 := F0.out.cell2 2
  have e3 := F0.out.cell2 3
  have e4 := F0.out.cell2 4
  have e5 := F0.out.cell2 5
  simp at m0 m1 n0 n1 e0 e1 e2 e3 e4 e5
  go_upto_region 3 with fail
  clear m0 m1 n0 n1 e0 e1 e2 e3 e4 e5
  generalize v0 = W0 at F0 ⊢
  go_cut [7] from 16 to 25 (fun s7 wx => ∃ N a c F, s7 = .pointer (some ⟨N, 0, none⟩) ∧ Hid (wx.cell? ⟨N, 0, none⟩ = some (.slice la li.length lc) ∧ wx.cell? ⟨N, 1, none⟩ = some (.slice a (ru ++ rv).length c) ∧ Rn wx F a (ru ++ rv) ∧ N < wx.heap.size ∧ W0.heap.size ≤ N ∧ Below W0.heap.size W0 wx))
  case first =>
    have hW := F0.out.lt
    have m0 := F0.out.cell0 0
    have m1 := F0.out.cell0 1
    have n0 := F0.out.cell1 0
    have n1 := F0.out.cell1 1
    have e0 := F0.out.cell2 0
    have e1 := F0.out.cell2 1
    have e2 := F0.out.cell2 2
    have e3 := F0.out.cell2 3
    have e4 := F0.out.cell2 4
    have e5 := F0.out.cell2 5
    simp at m0 m1 n0 n1 e0 e1 e2 e3 e4 e5
    have KR_0 := hidd (KR.start W0.heap.size W0.drew)
    have hsz : w.heap.size ≤ W0.heap.size := by omega
    refine wp_region_held_drew (S := fun u => Below W0.heap.size W0 u) (by kernel_rfl) (Below.drew (Below.refl _ _)) (fun hS => ?_)
    refine wpAnyH_take (i := 0) (oi := { dst := some 16, op := Op.fieldAddr 25 (Operand.tmp 3) 0, type := 0, pos := _, after := _, guard := none }) (v := .pointer (some ⟨w.heap.size, 0, none⟩)) rfl (by kernel_rfl) (by kernel_rfl) (by kernel_rfl) (fun _ _ _ h => h) (Or.inl ⟨by rfl, fun u hu => by go_simp⟩) hS ?_
    simp only [Act.put, List.setIfInBounds_toArray, List.set_cons_zero, List.set_cons_succ]
    refine wpAnyH_take (i := 1) (oi := { dst := some 17, op := Op.load 22 (Operand.tmp 16), type := 22, pos := _, after := _, guard := none }) (v := .slice la li.length lc) rfl (by kernel_rfl) (by kernel_rfl) (by kernel_rfl) (fun _ _ _ h => h) (Or.inl ⟨by rfl, fun u hu => by (have z := (hu.cell (p := ⟨w.heap.size, 0, none⟩) (by show w.heap.size < W0.heap.size; omega)).trans m0; go_simp)⟩) hS ?_
    simp only [Act.put, List.setIfInBounds_toArray, List.set_cons_zero, List.set_cons_succ]
    refine wpAnyH_take (i := 3) (oi := { dst := some 19, op := Op.fieldAddr 25 (Operand.tmp 3) 1, type := 0, pos := _, after := _, guard := none }) (v := .pointer (some ⟨w.heap.size, 1, none⟩)) rfl (by kernel_rfl) (by kernel_rfl) (by kernel_rfl) (fun _ _ _ h => h) (Or.inl ⟨by rfl, fun u hu => by go_simp⟩) hS ?_
    simp only [Act.put, List.setIfInBounds_toArray, List.set_cons_zero, List.set_cons_succ]
    refine wpAnyH_take (i := 4) (oi := { dst := some 20, op := Op.load 23 (Operand.tmp 19), type := 23, pos := _, after := _, guard := none }) (v := .slice ra ru.length rc) rfl (by kernel_rfl) (by kernel_rfl) (by kernel_rfl) (fun _ _ _ h => h) (Or.inl ⟨by rfl, fun u hu => by (have z := (hu.cell (p := ⟨w.heap.size, 1, none⟩) (by show w.heap.size < W0.heap.size; omega)).trans m1; go_simp)⟩) hS ?_
    simp only [Act.put, List.setIfInBounds_toArray, List.set_cons_zero, List.set_cons_succ]
    refine wpAnyH_take (i := 6) (oi := { dst := some 22, op := Op.fieldAddr 25 (Operand.tmp 4) 1, type := 0, pos := _, after := _, guard := none }) (v := .pointer (some ⟨w.heap.size + 1, 1, none⟩)) rfl (by kernel_rfl) (by kernel_rfl) (by kernel_rfl) (fun _ _ _ h => h) (Or.inl ⟨by rfl, fun u hu => by go_simp⟩) hS ?_
    simp only [Act.put, List.setIfInBounds_toArray, List.set_cons_zero, List.set_cons_succ]
    refine wpAnyH_take (i := 7) (oi := { dst := some 23, op := Op.load 23 (Operand.tmp 22), type := 23, pos := _, after := _, guard := none }) (v := .slice qa rv.length qc) rfl (by kernel_rfl) (by kernel_rfl) (by kernel_rfl) (fun _ _ _ h => h) (Or.inl ⟨by rfl, fun u hu => by (have z := (hu.cell (p := ⟨w.heap.size + 1, 1, none⟩) (by show w.heap.size + 1 < W0.heap.size; omega)).trans n1; go_simp)⟩) hS ?_
    simp only [Act.put, List.setIfInBounds_toArray, List.set_cons_zero, List.set_cons_succ]
    refine wpAnyH_ready (rs := [2, 10]) (by kernel_rfl) (by simp) (AllReadyH.cons (o := { dst := some 18, op := Op.buildSlice 23 0 #[], type := 23, pos := _, after := _, guard := none }) rfl (fun K hK => ?_) (AllReadyH.cons (o := { dst := some 7, op := Op.alloc 25, type := 0, pos := _, after := _, guard := none }) rfl (fun K hK => ?_) AllReadyH.nil))
    · go_simp
      have hk1 := KR_0.out.fresh hS.size
      have hS1 : Below W0.heap.size W0 (W0.drew.alloc (.cells #[] 43)) := hS.alloc hS.size _
      change K _ (W0.drew.alloc (.cells #[] 43))
      change KR _ _ (.slice (some ⟨W0.heap.size, 0, none⟩) 0 0) _ _ at hk1
      generalize W0.drew.alloc (.cells #[] 43) = W1 at hk1 hS1 ⊢
      have KR_1 := hidd hk1
      clear hk1 KR_0
      refine hK.out _ _ hS1 (fun hS => ?_)
      clear hK K
      refine wpAnyH_ready (rs := [5, 10]) (by kernel_rfl) (by simp) (AllReadyH.cons (o := { dst := some 21, op := Op.call { callee := Callee.builtin Builtin.append, args := #[Operand.tmp 18, Operand.tmp 20], argTypes := #[23, 23] }, type := 23, pos := _, after := _, guard := none }) rfl (fun K hK => ?_) (AllReadyH.cons (o := { dst := some 7, op := Op.alloc 25, type := 0, pos := _, after := _, guard := none }) rfl (fun K hK => ?_) AllReadyH.nil))
      · refine step_rules rfl (.tmp 18) (.tmp 20) rfl rfl KR_1.out w g ra rc ru rfl ALL.out.2.1 (F0.out.old.trans (hS.mono hsz)) hsz hS.size (by simp; omega) ?_
        intro v2' W2 fs2 hf2 hk2 hb2
        have hS2 := hS.trans hb2
        obtain ⟨sa2, sc2, hv2, _⟩ := hk2.row.slice
        have hln2 : ([] ++ fs2).length = ru.length := by have z2 := congrArg List.length hf2; simp at z2 ⊢; omega
        rw [hln2] at hv2
        clear hln2
        subst hv2
        have KR_2 := hidd hk2
        have FS2 := hidd hf2
        have hfl2 : fs2.length = ru.length := by rw [← hf2, List.length_map]
        clear hk2 hb2 hf2 KR_1
        show K _ W2
        refine hK.out _ _ hS2 (fun hS => ?_)
        clear hK K
        refine wpAnyH_ready (rs := [8, 10]) (by kernel_rfl) (by simp) (AllReadyH.cons (o := { dst := some 24, op := Op.call { callee := Callee.builtin Builtin.append, args := #[Operand.tmp 21, Operand.tmp 23], argTypes := #[23, 23] }, type := 23, pos := _, after := _, guard := none }) rfl (fun K hK => ?_) (AllReadyH.cons (o := { dst := some 7, op := Op.alloc 25, type := 0, pos := _, after := _, guard := none }) rfl (fun K hK => ?_) AllReadyH.nil))
        · refine step_rules rfl (.tmp 21) (.tmp 23) rfl rfl KR_2.out w g2 qa qc rv rfl ALL.out.2.2.1 (F0.out.old.trans (hS.mono hsz)) hsz hS.size (by simp; omega) ?_
          intro v3' W3 fs3 hf3 hk3 hb3
          have hS3 := hS.trans hb3
          obtain ⟨sa3, sc3, hv3, _⟩ := hk3.row.slice
          have hln3 : (([] ++ fs2) ++ fs3).length = ru.length + rv.length := by have z2 := congrArg List.length FS2.out; have z3 := congrArg List.length hf3; simp at z2 z3 ⊢; omega
          rw [hln3] at hv3
          clear hln3
          subst hv3
          have KR_3 := hidd hk3
          have FS3 := hidd hf3
          have hfl3 : fs3.length = rv.length := by rw [← hf3, List.length_map]
          clear hk3 hb3 hf3 KR_2
          show K _ W3
          refine hK.out _ _ hS3 (fun hS => ?_)
          clear hK K
          refine wpAnyH_take (i := 9) (oi := { dst := some 25, op := Op.build 25 #[(0, Operand.tmp 17), (1, Operand.tmp 24)], type := 25, pos := _, after := _, guard := none }) (v := .agg #[.slice la li.length lc, .slice sa3 (ru.length + rv.length) sc3]) rfl (by kernel_rfl) (by kernel_rfl) (by kernel_rfl) (fun _ _ _ h => h) (Or.inl ⟨by rfl, fun u hu => by go_simp⟩) hS ?_
          simp only [Act.put, List.setIfInBounds_toArray, List.set_cons_zero, List.set_cons_succ]
          refine wpAnyH_ready (rs := [10]) (by kernel_rfl) (by simp) (AllReadyH.cons (o := { dst := some 7, op := Op.alloc 25, type := 0, pos := _, after := _, guard := none }) rfl (fun K hK => ?_) AllReadyH.nil)
          go_simp
          have hk4 := KR_3.out.alloc hS.size
          have hS4 : Below W0.heap.size W0 (W3.alloc (.cells #[.slice none 0 0, .slice none 0 0] 25)) := hS.alloc hS.size _
          change K _ (W3.alloc (.cells #[.slice none 0 0, .slice none 0 0] 25))
          change KR _ (some W3.heap.size) _ _ _ at hk4
          generalize W3.alloc (.cells #[.slice none 0 0, .slice none 0 0] 25) = W4 at hk4 hS4 ⊢
          have KR_4 := hidd hk4
          clear hk4 KR_3
          refine hK.out _ _ hS4 (fun hS => ?_)
          clear hK K
          refine wpAnyH_ready (rs := [11]) (by kernel_rfl) (by simp) (AllReadyH.cons (o := { dst := none, op := Op.store 25 (Operand.tmp 7) (Operand.tmp 25), type := 0, pos := _, after := _, guard := none }) rfl (fun K hK => ?_) AllReadyH.nil)
          obtain ⟨kb, _, _⟩ := KR_4.out.box _ rfl
          have c0 : W4.cell? ⟨W3.heap.size, 0, none⟩ = some (.slice none 0 0) := by simp [World.cell?, kb]
          have c1 : W4.cell? ⟨W3.heap.size, 1, none⟩ = some (.slice none 0 0) := by simp [World.cell?, kb]
          have cz : ∀ q, W4.frozen? ⟨W3.heap.size, q, none⟩ = false := fun q => by simp [World.frozen?, kb]
          go_simp
          obtain ⟨hrow, hbl, k0, k1, hkl⟩ := KR_4.out.fill (.slice la li.length lc) (.slice sa3 (ru.length + rv.length) sc3) hS.size
          have hKB := (KR_4.out.box _ rfl).2.1
          have hS5 := hS.trans hbl
          change K _ (fillK W4 (W3.heap.size) (.slice la li.length lc) (.slice sa3 (ru.length + rv.length) sc3))
          generalize fillK W4 (W3.heap.size) (.slice la li.length lc) (.slice sa3 (ru.length + rv.length) sc3) = W5 at hrow hbl k0 k1 hkl hS5 ⊢
          have hmp : ((([] ++ fs2) ++ fs3)).map RE.rule = ru ++ rv := by rw [List.map_append, List.map_append, FS2.out, FS3.out]; rfl
          have hfn : ((([] ++ fs2) ++ fs3)).length = (ru ++ rv).length := by rw [← hmp, List.length_map]
          obtain ⟨aa, cc, FF, hvv, _, hrn⟩ := hrow.rn (by rw [hfn, List.length_append]; omega)
          rw [hmp] at hvv hrn
          rw [hvv] at k1
          have END : Hid (W5.cell? ⟨W3.heap.size, 0, none⟩ = some (.slice la li.length lc) ∧ W5.cell? ⟨W3.heap.size, 1, none⟩ = some (.slice aa (ru ++ rv).length cc) ∧ Rn W5 FF aa (ru ++ rv) ∧ W3.heap.size < W5.heap.size ∧ W0.heap.size ≤ W3.heap.size ∧ Below W0.heap.size W0 W5) := ⟨k0, k1, hrn, hkl, hKB, hS5⟩
          clear hrow hbl k0 k1 hkl hmp hvv hrn kb c0 c1 cz hKB hfn
          refine hK.out _ _ hS5 (fun hS => ?_)
          clear hK K
          refine wpAnyH_done (by kernel_rfl) ?_ _
          go_wp2_with fail
          go_meet
          case rel => exact ⟨_, _, _, _, rfl, END.out⟩
        · go_simp
          have hk3 := KR_2.out.alloc hS.size
          have hS3 : Below W0.heap.size W0 (W2.alloc (.cells #[.slice none 0 0, .slice none 0 0] 25)) := hS.alloc hS.size _
          change K _ (W2.alloc (.cells #[.slice none 0 0, .slice none 0 0] 25))
          change KR _ (some W2.heap.size) _ _ _ at hk3
          generalize W2.alloc (.cells #[.slice none 0 0, .slice none 0 0] 25) = W3 at hk3 hS3 ⊢
          have KR_3 := hidd hk3
          clear hk3 KR_2
          refine hK.out _ _ hS3 (fun hS => ?_)
          clear hK K
          refine wpAnyH_ready (rs := [8]) (by kernel_rfl) (by simp) (AllReadyH.cons (o := { dst := some 24, op := Op.call { callee := Callee.builtin Builtin.append, args := #[Operand.tmp 21, Operand.tmp 23], argTypes := #[23, 23] }, type := 23, pos := _, after := _, guard := none }) rfl (fun K hK => ?_) AllReadyH.nil)
          refine step_rules rfl (.tmp 21) (.tmp 23) rfl rfl KR_3.out w g2 qa qc rv rfl ALL.out.2.2.1 (F0.out.old.trans (hS.mono hsz)) hsz hS.size (by simp; omega) ?_
          intro v4' W4 fs4 hf4 hk4 hb4
          have hS4 := hS.trans hb4
          obtain ⟨sa4, sc4, hv4, _⟩ := hk4.row.slice
          have hln4 : (([] ++ fs2) ++ fs4).length = ru.length + rv.length := by have z2 := congrArg List.length FS2.out; have z4 := congrArg List.length hf4; simp at z2 z4 ⊢; omega
          rw [hln4] at hv4
          clear hln4
          subst hv4
          have KR_4 := hidd hk4
          have FS4 := hidd hf4
          have hfl4 : fs4.length = rv.length := by rw [← hf4, List.length_map]
          clear hk4 hb4 hf4 KR_3
          show K _ W4
          refine hK.out _ _ hS4 (fun hS => ?_)
          clear hK K
          refine wpAnyH_take (i := 9) (oi := { dst := some 25, op := Op.build 25 #[(0, Operand.tmp 17), (1, Operand.tmp 24)], type := 25, pos := _, after := _, guard := none }) (v := .agg #[.slice la li.length lc, .slice sa4 (ru.length + rv.length) sc4]) rfl (by kernel_rfl) (by kernel_rfl) (by kernel_rfl) (fun _ _ _ h => h) (Or.inl ⟨by rfl, fun u hu => by go_simp⟩) hS ?_
          simp only [Act.put, List.setIfInBounds_toArray, List.set_cons_zero, List.set_cons_succ]
          refine wpAnyH_ready (rs := [11]) (by kernel_rfl) (by simp) (AllReadyH.cons (o := { dst := none, op := Op.store 25 (Operand.tmp 7) (Operand.tmp 25), type := 0, pos := _, after := _, guard := none }) rfl (fun K hK => ?_) AllReadyH.nil)
          obtain ⟨kb, _, _⟩ := KR_4.out.box _ rfl
          have c0 : W4.cell? ⟨W2.heap.size, 0, none⟩ = some (.slice none 0 0) := by simp [World.cell?, kb]
          have c1 : W4.cell? ⟨W2.heap.size, 1, none⟩ = some (.slice none 0 0) := by simp [World.cell?, kb]
          have cz : ∀ q, W4.frozen? ⟨W2.heap.size, q, none⟩ = false := fun q => by simp [World.frozen?, kb]
          go_simp
          obtain ⟨hrow, hbl, k0, k1, hkl⟩ := KR_4.out.fill (.slice la li.length lc) (.slice sa4 (ru.length + rv.length) sc4) hS.size
          have hKB := (KR_4.out.box _ rfl).2.1
          have hS5 := hS.trans hbl
          change K _ (fillK W4 (W2.heap.size) (.slice la li.length lc) (.slice sa4 (ru.length + rv.length) sc4))
          generalize fillK W4 (W2.heap.size) (.slice la li.length lc) (.slice sa4 (ru.length + rv.length) sc4) = W5 at hrow hbl k0 k1 hkl hS5 ⊢
          have hmp : ((([] ++ fs2) ++ fs4)).map RE.rule = ru ++ rv := by rw [List.map_append, List.map_append, FS2.out, FS4.out]; rfl
          have hfn : ((([] ++ fs2) ++ fs4)).length = (ru ++ rv).length := by rw [← hmp, List.length_map]
          obtain ⟨aa, cc, FF, hvv, _, hrn⟩ := hrow.rn (by rw [hfn, List.length_append]; omega)
          rw [hmp] at hvv hrn
          rw [hvv] at k1
          have END : Hid (W5.cell? ⟨W2.heap.size, 0, none⟩ = some (.slice la li.length lc) ∧ W5.cell? ⟨W2.heap.size, 1, none⟩ = some (.slice aa (ru ++ rv).length cc) ∧ Rn W5 FF aa (ru ++ rv) ∧ W2.heap.size < W5.heap.size ∧ W0.heap.size ≤ W2.heap.size ∧ Below W0.heap.size W0 W5) := ⟨k0, k1, hrn, hkl, hKB, hS5⟩
          clear hrow hbl k0 k1 hkl hmp hvv hrn kb c0 c1 cz hKB hfn
          refine hK.out _ _ hS5 (fun hS => ?_)
          clear hK K
          refine wpAnyH_done (by kernel_rfl) ?_ _
          go_wp2_with fail
          go_meet
          case rel => exact ⟨_, _, _, _, rfl, END.out⟩
      · go_simp
        have hk2 := KR_1.out.alloc hS.size
        have hS2 : Below W0.heap.size W0 (W1.alloc (.cells #[.slice none 0 0, .slice none 0 0] 25)) := hS.alloc hS.size _
        change K _ (W1.alloc (.cells #[.slice none 0 0, .slice none 0 0] 25))
        change KR _ (some W1.heap.size) _ _ _ at hk2
        generalize W1.alloc (.cells #[.slice none 0 0, .slice none 0 0] 25) = W2 at hk2 hS2 ⊢
        have KR_2 := hidd hk2
        clear hk2 KR_1
        refine hK.out _ _ hS2 (fun hS => ?_)
        clear hK K
        refine wpAnyH_ready (rs := [5]) (by kernel_rfl) (by simp) (AllReadyH.cons (o := { dst := some 21, op := Op.call { callee := Callee.builtin Builtin.append, args := #[Operand.tmp 18, Operand.tmp 20], argTypes := #[23, 23] }, type := 23, pos := _, after := _, guard := none }) rfl (fun K hK => ?_) AllReadyH.nil)
        refine step_rules rfl (.tmp 18) (.tmp 20) rfl rfl KR_2.out w g ra rc ru rfl ALL.out.2.1 (F0.out.old.trans (hS.mono hsz)) hsz hS.size (by simp; omega) ?_
        intro v3' W3 fs3 hf3 hk3 hb3
        have hS3 := hS.trans hb3
        obtain ⟨sa3, sc3, hv3, _⟩ := hk3.row.slice
        have hln3 : ([] ++ fs3).length = ru.length := by have z3 := congrArg List.length hf3; simp at z3 ⊢; omega
        rw [hln3] at hv3
        clear hln3
        subst hv3
        have KR_3 := hidd hk3
        have FS3 := hidd hf3
        have hfl3 : fs3.length = ru.length := by rw [← hf3, List.length_map]
        clear hk3 hb3 hf3 KR_2
        show K _ W3
        refine hK.out _ _ hS3 (fun hS => ?_)
        clear hK K
        refine wpAnyH_ready (rs := [8]) (by kernel_rfl) (by simp) (AllReadyH.cons (o := { dst := some 24, op := Op.call { callee := Callee.builtin Builtin.append, args := #[Operand.tmp 21, Operand.tmp 23], argTypes := #[23, 23] }, type := 23, pos := _, after := _, guard := none }) rfl (fun K hK => ?_) AllReadyH.nil)
        refine step_rules rfl (.tmp 21) (.tmp 23) rfl rfl KR_3.out w g2 qa qc rv rfl ALL.out.2.2.1 (F0.out.old.trans (hS.mono hsz)) hsz hS.size (by simp; omega) ?_
        intro v4' W4 fs4 hf4 hk4 hb4
        have hS4 := hS.trans hb4
        obtain ⟨sa4, sc4, hv4, _⟩ := hk4.row.slice
        have hln4 : (([] ++ fs3) ++ fs4).length = ru.length + rv.length := by have z3 := congrArg List.length FS3.out; have z4 := congrArg List.length hf4; simp at z3 z4 ⊢; omega
        rw [hln4] at hv4
        clear hln4
        subst hv4
        have KR_4 := hidd hk4
        have FS4 := hidd hf4
        have hfl4 : fs4.length = rv.length := by rw [← hf4, List.length_map]
        clear hk4 hb4 hf4 KR_3
        show K _ W4
        refine hK.out _ _ hS4 (fun hS => ?_)
        clear hK K
        refine wpAnyH_take (i := 9) (oi := { dst := some 25, op := Op.build 25 #[(0, Operand.tmp 17), (1, Operand.tmp 24)], type := 25, pos := _, after := _, guard := none }) (v := .agg #[.slice la li.length lc, .slice sa4 (ru.length + rv.length) sc4]) rfl (by kernel_rfl) (by kernel_rfl) (by kernel_rfl) (fun _ _ _ h => h) (Or.inl ⟨by rfl, fun u hu => by go_simp⟩) hS ?_
        simp only [Act.put, List.setIfInBounds_toArray, List.set_cons_zero, List.set_cons_succ]
        refine wpAnyH_ready (rs := [11]) (by kernel_rfl) (by simp) (AllReadyH.cons (o := { dst := none, op := Op.store 25 (Operand.tmp 7) (Operand.tmp 25), type := 0, pos := _, after := _, guard := none }) rfl (fun K hK => ?_) AllReadyH.nil)
        obtain ⟨kb, _, _⟩ := KR_4.out.box _ rfl
        have c0 : W4.cell? ⟨W1.heap.size, 0, none⟩ = some (.slice none 0 0) := by simp [World.cell?, kb]
        have c1 : W4.cell? ⟨W1.heap.size, 1, none⟩ = some (.slice none 0 0) := by simp [World.cell?, kb]
        have cz : ∀ q, W4.frozen? ⟨W1.heap.size, q, none⟩ = false := fun q => by simp [World.frozen?, kb]
        go_simp
        obtain ⟨hrow, hbl, k0, k1, hkl⟩ := KR_4.out.fill (.slice la li.length lc) (.slice sa4 (ru.length + rv.length) sc4) hS.size
        have hKB := (KR_4.out.box _ rfl).2.1
        have hS5 := hS.trans hbl
        change K _ (fillK W4 (W1.heap.size) (.slice la li.length lc) (.slice sa4 (ru.length + rv.length) sc4))
        generalize fillK W4 (W1.heap.size) (.slice la li.length lc) (.slice sa4 (ru.length + rv.length) sc4) = W5 at hrow hbl k0 k1 hkl hS5 ⊢
        have hmp : ((([] ++ fs3) ++ fs4)).map RE.rule = ru ++ rv := by rw [List.map_append, List.map_append, FS3.out, FS4.out]; rfl
        have hfn : ((([] ++ fs3) ++ fs4)).length = (ru ++ rv).length := by rw [← hmp, List.length_map]
        obtain ⟨aa, cc, FF, hvv, _, hrn⟩ := hrow.rn (by rw [hfn, List.length_append]; omega)
        rw [hmp] at hvv hrn
        rw [hvv] at k1
        have END : Hid (W5.cell? ⟨W1.heap.size, 0, none⟩ = some (.slice la li.length lc) ∧ W5.cell? ⟨W1.heap.size, 1, none⟩ = some (.slice aa (ru ++ rv).length cc) ∧ Rn W5 FF aa (ru ++ rv) ∧ W1.heap.size < W5.heap.size ∧ W0.heap.size ≤ W1.heap.size ∧ Below W0.heap.size W0 W5) := ⟨k0, k1, hrn, hkl, hKB, hS5⟩
        clear hrow hbl k0 k1 hkl hmp hvv hrn kb c0 c1 cz hKB hfn
        refine hK.out _ _ hS5 (fun hS => ?_)
        clear hK K
        refine wpAnyH_done (by kernel_rfl) ?_ _
        go_wp2_with fail
        go_meet
        case rel => exact ⟨_, _, _, _, rfl, END.out⟩
    · go_simp
      have hk1 := KR_0.out.alloc hS.size
      have hS1 : Below W0.heap.size W0 (W0.drew.alloc (.cells #[.slice none 0 0, .slice none 0 0] 25)) := hS.alloc hS.size _
      change K _ (W0.drew.alloc (.cells #[.slice none 0 0, .slice none 0 0] 25))
      change KR _ (some W0.heap.size) _ _ _ at hk1
      generalize W0.drew.alloc (.cells #[.slice none 0 0, .slice none 0 0] 25) = W1 at hk1 hS1 ⊢
      have KR_1 := hidd hk1
      clear hk1 KR_0
      refine hK.out _ _ hS1 (fun hS => ?_)
      clear hK K
      refine wpAnyH_ready (rs := [2]) (by kernel_rfl) (by simp) (AllReadyH.cons (o := { dst := some 18, op := Op.buildSlice 23 0 #[], type := 23, pos := _, after := _, guard := none }) rfl (fun K hK => ?_) AllReadyH.nil)
      go_simp
      have hk2 := KR_1.out.fresh hS.size
      have hS2 : Below W0.heap.size W0 (W1.alloc (.cells #[] 43)) := hS.alloc hS.size _
      change K _ (W1.alloc (.cells #[] 43))
      change KR _ _ (.slice (some ⟨W1.heap.size, 0, none⟩) 0 0) _ _ at hk2
      generalize W1.alloc (.cells #[] 43) = W2 at hk2 hS2 ⊢
      have KR_2 := hidd hk2
      clear hk2 KR_1
      refine hK.out _ _ hS2 (fun hS => ?_)
      clear hK K
      refine wpAnyH_ready (rs := [5]) (by kernel_rfl) (by simp) (AllReadyH.cons (o := { dst := some 21, op := Op.call { callee := Callee.builtin Builtin.append, args := #[Operand.tmp 18, Operand.tmp 20], argTypes := #[23, 23] }, type := 23, pos := _, after := _, guard := none }) rfl (fun K hK => ?_) AllReadyH.nil)
      refine step_rules rfl (.tmp 18) (.tmp 20) rfl rfl KR_2.out w g ra rc ru rfl ALL.out.2.1 (F0.out.old.trans (hS.mono hsz)) hsz hS.size (by simp; omega) ?_
      intro v3' W3 fs3 hf3 hk3 hb3
      have hS3 := hS.trans hb3
      obtain ⟨sa3, sc3, hv3, _⟩ := hk3.row.slice
      have hln3 : ([] ++ fs3).length = ru.length := by have z3 := congrArg List.length hf3; simp at z3 ⊢; omega
      rw [hln3] at hv3
      clear hln3
      subst hv3
      have KR_3 := hidd hk3
      have FS3 := hidd hf3
      have hfl3 : fs3.length = ru.length := by rw [← hf3, List.length_map]
      clear hk3 hb3 hf3 KR_2
      show K _ W3
      refine hK.out _ _ hS3 (fun hS => ?_)
      clear hK K
      refine wpAnyH_ready (rs := [8]) (by kernel_rfl) (by simp) (AllReadyH.cons (o := { dst := some 24, op := Op.call { callee := Callee.builtin Builtin.append, args := #[Operand.tmp 21, Operand.tmp 23], argTypes := #[23, 23] }, type := 23, pos := _, after := _, guard := none }) rfl (fun K hK => ?_) AllReadyH.nil)
      refine step_rules rfl (.tmp 21) (.tmp 23) rfl rfl KR_3.out w g2 qa qc rv rfl ALL.out.2.2.1 (F0.out.old.trans (hS.mono hsz)) hsz hS.size (by simp; omega) ?_
      intro v4' W4 fs4 hf4 hk4 hb4
      have hS4 := hS.trans hb4
      obtain ⟨sa4, sc4, hv4, _⟩ := hk4.row.slice
      have hln4 : (([] ++ fs3) ++ fs4).length = ru.length + rv.length := by have z3 := congrArg List.length FS3.out; have z4 := congrArg List.length hf4; simp at z3 z4 ⊢; omega
      rw [hln4] at hv4
      clear hln4
      subst hv4
      have KR_4 := hidd hk4
      have FS4 := hidd hf4
      have hfl4 : fs4.length = rv.length := by rw [← hf4, List.length_map]
      clear hk4 hb4 hf4 KR_3
      show K _ W4
      refine hK.out _ _ hS4 (fun hS => ?_)
      clear hK K
      refine wpAnyH_take (i := 9) (oi := { dst := some 25, op := Op.build 25 #[(0, Operand.tmp 17), (1, Operand.tmp 24)], type := 25, pos := _, after := _, guard := none }) (v := .agg #[.slice la li.length lc, .slice sa4 (ru.length + rv.length) sc4]) rfl (by kernel_rfl) (by kernel_rfl) (by kernel_rfl) (fun _ _ _ h => h) (Or.inl ⟨by rfl, fun u hu => by go_simp⟩) hS ?_
      simp only [Act.put, List.setIfInBounds_toArray, List.set_cons_zero, List.set_cons_succ]
      refine wpAnyH_ready (rs := [11]) (by kernel_rfl) (by simp) (AllReadyH.cons (o := { dst := none, op := Op.store 25 (Operand.tmp 7) (Operand.tmp 25), type := 0, pos := _, after := _, guard := none }) rfl (fun K hK => ?_) AllReadyH.nil)
      obtain ⟨kb, _, _⟩ := KR_4.out.box _ rfl
      have c0 : W4.cell? ⟨W0.heap.size, 0, none⟩ = some (.slice none 0 0) := by simp [World.cell?, kb]
      have c1 : W4.cell? ⟨W0.heap.size, 1, none⟩ = some (.slice none 0 0) := by simp [World.cell?, kb]
      have cz : ∀ q, W4.frozen? ⟨W0.heap.size, q, none⟩ = false := fun q => by simp [World.frozen?, kb]
      go_simp
      obtain ⟨hrow, hbl, k0, k1, hkl⟩ := KR_4.out.fill (.slice la li.length lc) (.slice sa4 (ru.length + rv.length) sc4) hS.size
      have hKB := (KR_4.out.box _ rfl).2.1
      have hS5 := hS.trans hbl
      change K _ (fillK W4 (W0.heap.size) (.slice la li.length lc) (.slice sa4 (ru.length + rv.length) sc4))
      generalize fillK W4 (W0.heap.size) (.slice la li.length lc) (.slice sa4 (ru.length + rv.length) sc4) = W5 at hrow hbl k0 k1 hkl hS5 ⊢
      have hmp : ((([] ++ fs3) ++ fs4)).map RE.rule = ru ++ rv := by rw [List.map_append, List.map_append, FS3.out, FS4.out]; rfl
      have hfn : ((([] ++ fs3) ++ fs4)).length = (ru ++ rv).length := by rw [← hmp, List.length_map]
      obtain ⟨aa, cc, FF, hvv, _, hrn⟩ := hrow.rn (by rw [hfn, List.length_append]; omega)
      rw [hmp] at hvv hrn
      rw [hvv] at k1
      have END : Hid (W5.cell? ⟨W0.heap.size, 0, none⟩ = some (.slice la li.length lc) ∧ W5.cell? ⟨W0.heap.size, 1, none⟩ = some (.slice aa (ru ++ rv).length cc) ∧ Rn W5 FF aa (ru ++ rv) ∧ W0.heap.size < W5.heap.size ∧ W0.heap.size ≤ W0.heap.size ∧ Below W0.heap.size W0 W5) := ⟨k0, k1, hrn, hkl, hKB, hS5⟩
      clear hrow hbl k0 k1 hkl hmp hvv hrn kb c0 c1 cz hKB hfn
      refine hK.out _ _ hS5 (fun hS => ?_)
      clear hK K
      refine wpAnyH_done (by kernel_rfl) ?_ _
      go_wp2_with fail
      go_meet
      case rel => exact ⟨_, _, _, _, rfl, END.out⟩
  case rest =>
    obtain ⟨N, aa, cc, FF, rfl, HC⟩ := hcut
    obtain ⟨k0, k1, hrn, hNl, hNW, hbW⟩ := HC.out
    have F2 := hidd (F0.out.after hbW)
    have WA : Hid (∀ W, Below wc.heap.size wc W → Calls Tryz.prog 14 #[.agg #[.slice la li.length lc, .slice aa (ru ++ rv).length cc]] W fun e w' => e = .returned (fv (wrongM li (ru ++ rv))) ∧ Below W.heap.size W w') := fun W hb => WrongM_any W.heap.size FF li (ru ++ rv) la aa lc cc W (ALL.out.1.lift (F2.out.old.trans (hb.mono F2.out.old.size))) (hrn.lift hb) (Nat.le_refl _)
    have UB : Hid (∀ W, Below wc.heap.size wc W → Calls Tryz.prog 11 #[.agg #[.slice la li.length lc, .slice aa (ru ++ rv).length cc], .agg #[.int .i64 d.kind, .int .i64 d.n, .string d.name, .int .i64 d.stamp, .int .i64 d.lib, .slice fa d.kids.length fc], .int .i64 1, .int .i64 1] W (ToldU (useM li (ru ++ rv) d 1 1) W)) := fun W hb => by
      have hbw : Below w.heap.size w W := F2.out.old.trans (hb.mono F2.out.old.size)
      have h5 := Use_here FF gd li (ru ++ rv) la aa lc cc d fa fc 1 1 W (ALL.out.1.lift hbw) (hrn.lift hb) (Dn.lift ALL.out.2.2.2.1 hbw) ALL.out.2.2.2.2.1 (fun p t hm => (List.mem_append.1 hm).elim (ALL.out.2.2.2.2.2.1 p t) (ALL.out.2.2.2.2.2.2.1 p t)) ALL.out.2.2.2.2.2.2.2
      unfold mv dv at h5
      exact h5
    have KC : Hid (wc.cell? ⟨N, 0, none⟩ = some (.slice la li.length lc) ∧ wc.cell? ⟨N, 1, none⟩ = some (.slice aa (ru ++ rv).length cc) ∧ N < wc.heap.size) := ⟨k0, k1, hNl⟩
    have HRL : Hid ((ru ++ rv).length ≤ 9223372036854775807) := hrn.1
    clear hrn hbW HC F0 hNW hNl
    obtain ⟨al, hal⟩ : ∃ al, (ru ++ rv).length = al := ⟨_, rfl⟩
    rw [hal] at k1 WA UB KC HRL
    clear hal
    obtain ⟨y1, y2, hw⟩ : ∃ y1 y2, wrongM li (ru ++ rv) = (y1, y2) := ⟨_, _, rfl⟩
    have WM := hidd hw
    rw [hw] at WA
    clear hw
    unfold fv at WA
    simp only at WA
    have hal2 : (al : Int) ≤ 9223372036854775807 := by have := HRL.out; omega
    go_wp2_with fail
    refine (WA.out _ (Below.refl _ _)).mono ?_
    rintro e v1 ⟨rfl, hb⟩
    have F3 := hidd (F2.out.after hb)
    have HW1 := hidd hb
    have hfld := field_fault y1 y2 v1
    clear hb F2 WA k0 k1
    by_cases hy : y1 = 0
    case neg =>
      have hy' : (y1 == 0) = false := by simpa using hy
      go_wp2_with fail
      go_ret
      exact ⟨rfl, F3.out.old⟩
    subst hy
    have m0 := F3.out.cell0 0
    have m1 := F3.out.cell0 1
    have n0 := F3.out.cell1 0
    have n1 := F3.out.cell1 1
    have e0 := F3.out.cell2 0
    have e1 := F3.out.cell2 1
    have e2 := F3.out.cell2 2
    have e3 := F3.out.cell2 3
    have e4 := F3.out.cell2 4
    have e5 := F3.out.cell2 5
    simp at m0 m1 n0 n1 e0 e1 e2 e3 e4 e5
    go_wp2_with fail
    obtain ⟨u1, z1, hu1⟩ : ∃ r y, useM li ru d 1 1 = (r, y) := ⟨_, _, rfl⟩
    obtain ⟨u2, z2, hu2⟩ : ∃ r y, useM li (ru ++ rv) d 1 1 = (r, y) := ⟨_, _, rfl⟩
    obtain ⟨u3, z3, hu3⟩ : ∃ r y, useM li rv d 1 1 = (r, y) := ⟨_, _, rfl⟩
    have FR : Hid ((u2, z2) = if z1 = 6 then (u3, z3) else (u1, z1)) := by
      have h5 := use_first li ru rv d 1 1 (by rw [WM.out])
      rw [hu1, hu2, hu3] at h5
      exact h5
    rw [hu1] at UA
    rw [hu2] at UB
    rw [hu3] at UC
    clear hu1 hu2 hu3
    refine (UA.out _ F3.out.old).mono ?_
    rintro e v2 ⟨hb, a1, c1, f1, rfl, hc1, hd1⟩
    have F4 := hidd (F3.out.after hb)
    have HW2 := hidd (HW1.out.trans (hb.mono HW1.out.size))
    have D1 := hidd (Dn.of hd1)
    clear hb hc1 hd1 F3 UA HW1 m0 m1 n0 n1 e0 e1 e2 e3 e4 e5 hfld
    simp only at D1
    have ba : Below v2.heap.size v2 (v2.alloc (.cells #[.int .i64 u1.kind, .int .i64 u1.n, .string u1.name, .int .i64 u1.stamp, .int .i64 u1.lib, .slice a1 u1.kids.length c1] 28)) := (Below.refl _ _).alloc (Nat.le_refl _) _
    have F5 := hidd (F4.out.after ba)
    have N1 := hidd (Nod.made v2 u1 (.slice a1 u1.kids.length c1))
    have HW3 := hidd (HW2.out.trans (ba.mono HW2.out.size))
    have D1b := hidd (Dn.lift D1.out ba)
    clear ba D1 HW2 F4
    have m0 := F5.out.cell0 0
    have m1 := F5.out.cell0 1
    have n0 := F5.out.cell1 0
    have n1 := F5.out.cell1 1
    have e0 := F5.out.cell2 0
    have e1 := F5.out.cell2 1
    have e2 := F5.out.cell2 2
    have e3 := F5.out.cell2 3
    have e4 := F5.out.cell2 4
    have e5 := F5.out.cell2 5
    simp at m0 m1 n0 n1 e0 e1 e2 e3 e4 e5
    have k0 := (HW3.out.cell (p := ⟨N, 0, none⟩) KC.out.2.2).trans KC.out.1
    have k1 := (HW3.out.cell (p := ⟨N, 1, none⟩) KC.out.2.2).trans KC.out.2.1
    unfold dv
    simp only
    go_wp2_with fail
    refine (UB.out _ HW3.out).mono ?_
    rintro e v3 ⟨hb, a2, c2, f2, rfl, hc2, hd2⟩
    have F6 := hidd (F5.out.after hb)
    have D2 := hidd (Dn.of hd2)
    have N1b := hidd (N1.out.after hb)
    have D1c := hidd (Dn.lift D1b.out hb)
    clear hb hc2 hd2 F5 UB m0 m1 n0 n1 e0 e1 e2 e3 e4 e5 N1 D1b k0 k1 HW3
    simp only at D2
    have ba : Below v3.heap.size v3 (v3.alloc (.cells #[.int .i64 u2.kind, .int .i64 u2.n, .string u2.name, .int .i64 u2.stamp, .int .i64 u2.lib, .slice a2 u2.kids.length c2] 28)) := (Below.refl _ _).alloc (Nat.le_refl _) _
    have F7 := hidd (F6.out.after ba)
    have N2 := hidd (Nod.made v3 u2 (.slice a2 u2.kids.length c2))
    have N1c := hidd (N1b.out.after ba)
    have E1 := hidd (Dn.lift D1c.out ba)
    have E2 := hidd (Dn.lift D2.out ba)
    clear ba F6 N1b D1c D2
    unfold dv
    simp only
    have m0 := F7.out.cell0 0
    have m1 := F7.out.cell0 1
    have n0 := F7.out.cell1 0
    have n1 := F7.out.cell1 1
    have e0 := F7.out.cell2 0
    have e1 := F7.out.cell2 1
    have e2 := F7.out.cell2 2
    have e3 := F7.out.cell2 3
    have e4 := F7.out.cell2 4
    have e5 := F7.out.cell2 5
    simp at m0 m1 n0 n1 e0 e1 e2 e3 e4 e5
    by_cases h6 : z1 = 6
    · have hr6 := FR.out
      rw [if_pos h6] at hr6
      obtain ⟨rfl, rfl⟩ : u2 = u3 ∧ z2 = z3 := by simpa using hr6
      subst h6
      clear hr6 FR E1 N1c
      go_wp2_with fail
      refine (UC.out _ F7.out.old).mono ?_
      rintro e v4 ⟨hb, a3, c3, f3, rfl, hc3, hd3⟩
      have F8 := hidd (F7.out.after hb)
      have D3 := hidd (Dn.of hd3)
      have N2b := hidd (N2.out.after hb)
      have E2b := hidd (Dn.lift E2.out hb)
      clear hb hc3 hd3 F7 UC m0 m1 n0 n1 e0 e1 e2 e3 e4 e5 N2 E2
      simp only at D3
      have ba : Below v4.heap.size v4 (v4.alloc (.cells #[.int .i64 u2.kind, .int .i64 u2.n, .string u2.name, .int .i64 u2.stamp, .int .i64 u2.lib, .slice a3 u2.kids.length c3] 28)) := (Below.refl _ _).alloc (Nat.le_refl _) _
      have GW := hidd (F8.out.after ba).old
      have N3 := hidd (Nod.made v4 u2 (.slice a3 u2.kids.length c3))
      have N2c := hidd (N2b.out.after ba)
      have E2c := hidd (Dn.lift E2b.out ba)
      have E3 := hidd (Dn.lift D3.out ba)
      clear ba F8 N2b E2b D3
      unfold dv
      simp only
      obtain ⟨x9, x0, x1, x2, x3, x4, x5, xz⟩ := N2c.out
      obtain ⟨q9, q0, q1, q2, q3, q4, q5, qz⟩ := N3.out
      go_wp2_with fail
      refine (Equal_here _ _ u2 u2 a2 a3 c2 c3 _ E2c.out E3.out rfl).mono ?_
      rintro e v5 ⟨rfl, hb⟩
      clear x0 x1 x2 x3 x4 x5 q0 q1 q2 q3 q4 q5 N2c N3
      have GV := hidd (GW.out.trans (hb.mono GW.out.size))
      clear hb
      go_wp2_with fail
      go_ret
      exact ⟨rfl, GV.out⟩
    · have hr6 := FR.out
      rw [if_neg h6] at hr6
      obtain ⟨rfl, rfl⟩ : u2 = u1 ∧ z2 = z1 := by simpa using hr6
      have h6' : (z2 == 6) = false := by simpa using h6
      clear hr6 FR h6
      obtain ⟨x9, x0, x1, x2, x3, x4, x5, xz⟩ := N1c.out
      obtain ⟨q9, q0, q1, q2, q3, q4, q5, qz⟩ := N2.out
      have GW := hidd F7.out.old
      clear m0 m1 n0 n1 e0 e1 e2 e3 e4 e5
      go_wp2_with fail
      refine (Equal_here _ _ u2 u2 a1 a2 c1 c2 _ E1.out E2.out rfl).mono ?_
      rintro e v5 ⟨rfl, hb⟩
      clear x0 x1 x2 x3 x4 x5 q0 q1 q2 q3 q4 q5 N1c N2
      have GV := hidd (GW.out.trans (hb.mono GW.out.size))
      clear hb
      go_wp2_with fail
      go_ret
      exact ⟨rfl, GV.out⟩
end Go.Proofs.YtgeedaabdonjcaeGreatDoor
