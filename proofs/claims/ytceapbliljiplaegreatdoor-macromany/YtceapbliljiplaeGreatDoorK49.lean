/- Chapter 5's laws: MacroMany, walked. -/
import Derived.Test.YtceapbliljiplaeGreatDoorK48
namespace Go.Proofs.YtceapbliljiplaeGreatDoor
set_option linter.unusedVariables false
set_option linter.unusedSimpArgs false
open Go.RowKit Go.Maps Go.WideMaps

/-- The law's two boxes. -/
structure MNW (w : World) (sp lb : Int) (W : World) : Prop where
  old : Below w.heap.size w W
  c0 : W.cell? ⟨w.heap.size, 0, none⟩ = some (.int .i64 sp)
  c1 : W.cell? ⟨w.heap.size + 1, 0, none⟩ = some (.int .i64 lb)
theorem MNW.lt {w W : World} {sp lb : Int} (h : MNW w sp lb W) : w.heap.size + 1 < W.heap.size := World.block_lt_of_cell? W ⟨w.heap.size + 1, 0, none⟩ h.c1
theorem MNW.below {w W W' : World} {sp lb : Int} (h : MNW w sp lb W) (hb : Below W.heap.size W W') : MNW w sp lb W' :=
  ⟨h.old.trans (hb.mono h.old.size), (hb.cell (p := ⟨w.heap.size, 0, none⟩) (by have := h.lt; show w.heap.size < W.heap.size; omega)).trans h.c0, (hb.cell (p := ⟨w.heap.size + 1, 0, none⟩) h.lt).trans h.c1⟩
theorem MNW.start (w : World) (sp lb : Int) : MNW w sp lb ((w.alloc (.cells #[.int .i64 sp] 3)).alloc (.cells #[.int .i64 lb] 3)) := by
  refine ⟨((Below.refl _ _).alloc (Nat.le_refl _) _).alloc (by simp) _, ?_, ?_⟩
  · go_simp
  · simp

/-- What a round keeps: all that was there before, and the box of its part. -/
structure SS (v3 : World) (M : Nat) (d : Dat) (sl : Value) (u : World) : Prop where
  old : Below v3.heap.size v3 u
  box : Nod M d sl u
theorem SS.size {v3 : World} {M : Nat} {d : Dat} {sl : Value} {u : World} (h : SS v3 M d sl u) : u.heap.size ≤ u.heap.size := Nat.le_refl _
theorem SS.trans {v3 : World} {M : Nat} {d : Dat} {sl : Value} {u u' : World} (h : SS v3 M d sl u) (hb : Below u.heap.size u u') : SS v3 M d sl u' := ⟨h.old.trans (hb.mono h.old.size), h.box.after hb⟩
theorem RowD.one (v : World) (d : Dat) (hd0 : d.kids = []) (hn : d.name.size ≤ maxLen) : RowD v.heap.size (.slice (some ⟨v.heap.size, 0, none⟩) 1 1) [(d, none, 0)] (v.alloc (.cells #[.int .i64 d.kind, .int .i64 d.n, .string d.name, .int .i64 d.stamp, .int .i64 d.lib, .slice none d.kids.length 0] 28)) := by
  refine ⟨⟨by simp [flat], Or.inr ⟨v.heap.size, 1, _, rfl, Nat.le_refl _, World.alloc_heap_new v _, Nat.le_refl _, by decide, rfl, by simp [flat]⟩⟩, ?_⟩
  intro e he
  simp at he
  subst he
  exact ⟨hn, by simp [hd0], 0, hd0⟩
theorem Dc.row {ok : Nat → Prop} {w : World} {N F : Nat} (es : List (Dat × Option Addr × Nat)) (hN : w.heap[N]? = some (.cells (flat es).toArray 28 (0, 0))) (hok : ok N) (hl : es.length ≤ 9223372036854775807) (h : ∀ e ∈ es, e.1.name.size ≤ maxLen ∧ e.1.kids.length ≤ e.2.2 ∧ Dc ok w F e.2.1 e.1.kids) : Dc ok w (F + 1) (some ⟨N, 0, none⟩) (es.map (·.1)) := by
  refine ⟨by simpa using hl, Or.inr ⟨N, 0, rfl, hok, fun i d hd => ?_⟩⟩
  rw [List.getElem?_map] at hd
  obtain ⟨e, he, rfl⟩ := Option.map_eq_some_iff.1 hd
  have hm := h e (List.mem_of_getElem? he)
  have hf := flat_atD e es i he
  have hc : ∀ q, w.cell? ⟨N, q, none⟩ = (flat es)[q]? := fun q => by simp [World.cell?, hN]
  refine ⟨e.2.1, e.2.2, ?_, ?_, ?_, ?_, ?_, ?_, hm.1, hm.2.1, hm.2.2⟩
  all_goals rw [Nat.zero_add, hc]
  · exact hf 0 (by decide)
  · exact hf 1 (by decide)
  · exact hf 2 (by decide)
  · exact hf 3 (by decide)
  · exact hf 4 (by decide)
  · exact hf 5 (by decide)

/-- A rule set of one rule is made. -/
theorem mac_made (v : World) (p t : Dat) (pa ta : Option Addr) (pc tc fp ft : Nat) (hp : Dn v fp pa p.kids) (ht : Dn v ft ta t.kids) (h1 : p.name.size ≤ maxLen) (h2 : t.name.size ≤ maxLen) (h3 : p.kids.length ≤ pc) (h4 : t.kids.length ≤ tc) :
    Below v.heap.size v ((v.alloc (.cells (two p t pa ta pc tc) 43)).alloc (.cells #[.slice none 0 0, .slice (some ⟨v.heap.size, 0, none⟩) 1 1] 25)) ∧
    Rn ((v.alloc (.cells (two p t pa ta pc tc) 43)).alloc (.cells #[.slice none 0 0, .slice (some ⟨v.heap.size, 0, none⟩) 1 1] 25)) (fp + ft) (some ⟨v.heap.size, 0, none⟩) [(p, t)] ∧
    ((v.alloc (.cells (two p t pa ta pc tc) 43)).alloc (.cells #[.slice none 0 0, .slice (some ⟨v.heap.size, 0, none⟩) 1 1] 25)).heap[v.heap.size + 1]? = some (.cells #[.slice none 0 0, .slice (some ⟨v.heap.size, 0, none⟩) 1 1] 25 (0, 0)) := by
  have hb : Below v.heap.size v ((v.alloc (.cells (two p t pa ta pc tc) 43)).alloc (.cells #[.slice none 0 0, .slice (some ⟨v.heap.size, 0, none⟩) 1 1] 25)) := ((Below.refl _ _).alloc (Nat.le_refl _) _).alloc (by simp) _
  refine ⟨hb, Rn.one ?_ (hp.lift hb) (ht.lift hb) h1 h2 h3 h4, ?_⟩
  · exact (Below.heap_alloc _ _ _ (by simp)).trans (World.alloc_heap_new v _)
  · have := World.alloc_heap_new (v.alloc (.cells (two p t pa ta pc tc) 43)) (.cells #[.slice none 0 0, .slice (some ⟨v.heap.size, 0, none⟩) 1 1] 25)
    simpa using this

set_option maxRecDepth 100000 in
set_option maxHeartbeats 12800000 in
theorem MacroMany_walk (l : List Dat) (a : Option Addr) (cap fd : Nat) (sp lb : Int) (w : World) (hd : Dn w fd a l) (hcap : l.length ≤ cap) (hsm : smL l) (hbt : l.length * 72 ≤ reachBytes) :
    Calls Tryz.prog 7 #[.slice a l.length cap, .int .i64 sp, .int .i64 lb] w fun e w' => e = .returned (.bool true) ∧ Below w.heap.size w w' := by
  have O1 : Hid (∀ W, Calls Tryz.prog 18 #[.string ⟨#[40, 109, 32, 120, 32, 46, 46, 46, 41]⟩] W (ToldO pE W)) := fun W => one_any _ _ (by decide) readPE W
  have O2 : Hid (∀ W, Calls Tryz.prog 18 #[.string ⟨#[40, 108, 105, 115, 116, 32, 40, 103, 32, 120, 41, 32, 46, 46, 46, 41]⟩] W (ToldO tM W)) := fun W => one_any _ _ (by decide) readTM W
  obtain ⟨r, y, hu⟩ : ∃ r y, useM [] manyR (listD (symD mS :: l)) sp lb = (r, y) := ⟨_, _, rfl⟩
  have Y : Hid (y = 4 ∨ (y = 0 ∧ r = bareD (listD (around sp lb l)) ∧ l.length ≤ 1999)) := by
    have hq := use_many l (symD mS) sp lb
    rw [hu] at hq
    split at hq
    · cases hq; exact .inl rfl
    · rename_i hm
      cases hq
      refine .inr ⟨rfl, rfl, ?_⟩
      simp only [Bool.or_eq_true, not_or, muchB, decide_eq_true_eq, sizeD_list] at hm
      have h2 := hm.1.1
      rw [sizeL] at h2
      have h3 := sizeL_many l
      have h4 := sizeD_pos (symD mS)
      omega
  have U := hidd hu
  have HD := hidd hd
  have BT := hidd hbt
  have SML := hidd hsm
  clear hu hd hsm hbt
  have H0 := hidd (MNW.start w sp lb)
  go_enter Tryz.func7, Tryz.ntmps7
  go_wp2_with fail
  refine (alive_any _).mono ?_
  rintro e v0 ⟨rfl, hb⟩
  have F0 := hidd (H0.out.below hb)
  clear hb H0
  go_wp2_with fail
  refine (O1.out _).mono ?_
  rintro e v1 ⟨hb, pa, pc, pf, rfl, hc, hdd⟩
  have F1 := hidd (F0.out.below hb)
  have P1 : Hid (pE.kids.length ≤ pc ∧ Dn v1 pf pa pE.kids) := ⟨hc, Dn.of hdd⟩
  clear hb hc hdd F0 O1
  unfold dv
  go_wp2_with fail
  refine (O2.out _).mono ?_
  rintro e v2 ⟨hb, ta, tc, tf, rfl, hc, hdd⟩
  have F2 := hidd (F1.out.below hb)
  have GX := mac_made v2 pE tM pa ta pc tc pf tf (P1.out.2.lift hb) (Dn.of hdd) (by decide) (by decide) P1.out.1 hc
  unfold two at GX
  have F3 := hidd (F2.out.below GX.1)
  have RL := hidd GX.2.1
  have MB := hidd GX.2.2
  clear hb hc hdd F1 P1 GX F2 O2
  unfold dv
  go_upto_region 4 with fail
  generalize ((v2.alloc (.cells #[.int .i64 pE.kind, .int .i64 pE.n, .string pE.name, .int .i64 pE.stamp, .int .i64 pE.lib, .slice pa pE.kids.length pc, .int .i64 tM.kind, .int .i64 tM.n, .string tM.name, .int .i64 tM.stamp, .int .i64 tM.lib, .slice ta tM.kids.length tc] 43)).alloc (.cells #[.slice none 0 0, .slice (some ⟨v2.heap.size, 0, none⟩) 1 1] 25)) = W0 at F3 RL MB ⊢
  generalize v2.heap.size + 1 = mb at MB ⊢
  generalize v2.heap.size = rb at RL MB ⊢
  go_cut [8, 9] from 21 to 32 (fun s8 s9 wx => ∃ N a c f, s8 = .pointer (some ⟨N, 0, none⟩) ∧ s9 = .int .i64 y ∧ Nod N r (.slice a r.kids.length c) wx ∧ r.kids.length ≤ c ∧ Dn wx f a r.kids ∧ Below W0.heap.size W0 wx)
  case first =>
    have hmb : mb < W0.heap.size := (Array.getElem?_eq_some_iff.1 MB.out).1
    have m0 : W0.cell? ⟨mb, 0, none⟩ = some (.slice none 0 0) := by simp [World.cell?, MB.out]
    have m1 : W0.cell? ⟨mb, 1, none⟩ = some (.slice (some ⟨rb, 0, none⟩) 1 1) := by simp [World.cell?, MB.out]
    have k0 := F3.out.c0
    have k1 := F3.out.c1
    have kl := F3.out.lt
    have DD : Hid (Dn W0 fd a l) := Dn.lift HD.out F3.out.old
    refine wp_region_held_drew (S := fun u => Below W0.heap.size W0 u) (by kernel_rfl) (Below.drew (Below.refl _ _)) (fun hS => ?_)
    refine wpAnyH_take (i := 0) (oi := { dst := some 22, op := Op.load 25 (Operand.tmp 7), type := 25, pos := _, after := _, guard := none }) (v := .agg #[.slice none 0 0, .slice (some ⟨rb, 0, none⟩) 1 1]) rfl (by kernel_rfl) (by kernel_rfl) (by kernel_rfl) (fun _ _ _ h => h) (Or.inl ⟨by rfl, fun u hu => by (have z0 := (hu.cell (p := ⟨mb, 0, none⟩) hmb).trans m0; have z1 := (hu.cell (p := ⟨mb, 1, none⟩) hmb).trans m1; go_simp)⟩) hS ?_
    simp only [Act.put, List.setIfInBounds_toArray, List.set_cons_zero, List.set_cons_succ]
    refine wpAnyH_take (i := 3) (oi := { dst := some 25, op := Op.move (Operand.tmp 0), type := 26, pos := _, after := _, guard := none }) (v := .slice a l.length cap) rfl (by kernel_rfl) (by kernel_rfl) (by kernel_rfl) (fun _ _ _ h => h) (Or.inl ⟨by rfl, fun u hu => by go_simp⟩) hS ?_
    simp only [Act.put, List.setIfInBounds_toArray, List.set_cons_zero, List.set_cons_succ]
    refine wpAnyH_take (i := 6) (oi := { dst := some 28, op := Op.load 3 (Operand.tmp 4), type := 3, pos := _, after := _, guard := none }) (v := .int .i64 sp) rfl (by kernel_rfl) (by kernel_rfl) (by kernel_rfl) (fun _ _ _ h => h) (Or.inl ⟨by rfl, fun u hu => by (have z0 := (hu.cell (p := ⟨w.heap.size, 0, none⟩) (by show w.heap.size < W0.heap.size; omega)).trans k0; go_simp)⟩) hS ?_
    simp only [Act.put, List.setIfInBounds_toArray, List.set_cons_zero, List.set_cons_succ]
    refine wpAnyH_take (i := 7) (oi := { dst := some 29, op := Op.load 3 (Operand.tmp 5), type := 3, pos := _, after := _, guard := none }) (v := .int .i64 lb) rfl (by kernel_rfl) (by kernel_rfl) (by kernel_rfl) (fun _ _ _ h => h) (Or.inl ⟨by rfl, fun u hu => by (have z0 := (hu.cell (p := ⟨w.heap.size + 1, 0, none⟩) kl).trans k1; go_simp)⟩) hS ?_
    simp only [Act.put, List.setIfInBounds_toArray, List.set_cons_zero, List.set_cons_succ]
    refine wpAnyH_ready (rs := [1, 12]) (by kernel_rfl) (by simp) (AllReadyH.cons (o := { dst := some 23, op := Op.call { callee := Callee.value (Operand.func 21), args := #[Operand.const (Value.string { data := #[109] })], argTypes := #[9] }, type := 28, pos := _, after := _, guard := none }) rfl (fun K hK => ?_) (AllReadyH.cons (o := { dst := some 8, op := Op.alloc 28, type := 0, pos := _, after := _, guard := none }) rfl (fun K hK => ?_) AllReadyH.nil))
    · go_simp
      refine Calls.mono (Sym_any mS W0.drew) ?_
      rintro e W1 ⟨rfl, hb1⟩
      have hS1 := hS.trans (hb1.mono hS.size)
      clear hb1
      try unfold dv
      show K _ W1
      refine hK.out _ _ hS1 (fun hS => ?_)
      clear hK K
      refine wpAnyH_ready (rs := [2, 12]) (by kernel_rfl) (by simp) (AllReadyH.cons (o := { dst := some 24, op := Op.buildSlice 26 1 #[(0, Operand.tmp 23)], type := 26, pos := _, after := _, guard := none }) rfl (fun K hK => ?_) (AllReadyH.cons (o := { dst := some 8, op := Op.alloc 28, type := 0, pos := _, after := _, guard := none }) rfl (fun K hK => ?_) AllReadyH.nil))
      · go_simp
        have hb2 : Below W1.heap.size W1 (W1.alloc (.cells #[.int .i64 (symD mS).kind, .int .i64 (symD mS).n, .string (symD mS).name, .int .i64 (symD mS).stamp, .int .i64 (symD mS).lib, .slice none (symD mS).kids.length 0] 28)) := (Below.refl _ _).alloc (Nat.le_refl _) _
        have hN2 : (W1.alloc (.cells #[.int .i64 (symD mS).kind, .int .i64 (symD mS).n, .string (symD mS).name, .int .i64 (symD mS).stamp, .int .i64 (symD mS).lib, .slice none (symD mS).kids.length 0] 28)).heap[W1.heap.size]? = some (.cells #[.int .i64 (symD mS).kind, .int .i64 (symD mS).n, .string (symD mS).name, .int .i64 (symD mS).stamp, .int .i64 (symD mS).lib, .slice none (symD mS).kids.length 0] 28 (0, 0)) ∧ W0.heap.size ≤ W1.heap.size := ⟨World.alloc_heap_new W1 _, hS.size⟩
        have hS2 := hS.trans (hb2.mono hS.size)
        change K _ (W1.alloc (.cells #[.int .i64 (symD mS).kind, .int .i64 (symD mS).n, .string (symD mS).name, .int .i64 (symD mS).stamp, .int .i64 (symD mS).lib, .slice none (symD mS).kids.length 0] 28))
        generalize W1.alloc (.cells #[.int .i64 (symD mS).kind, .int .i64 (symD mS).n, .string (symD mS).name, .int .i64 (symD mS).stamp, .int .i64 (symD mS).lib, .slice none (symD mS).kids.length 0] 28) = W2 at hb2 hN2 hS2 ⊢
        have BL_2 : Hid (W2.heap[W1.heap.size]? = some (.cells #[.int .i64 (symD mS).kind, .int .i64 (symD mS).n, .string (symD mS).name, .int .i64 (symD mS).stamp, .int .i64 (symD mS).lib, .slice none (symD mS).kids.length 0] 28 (0, 0)) ∧ W0.heap.size ≤ W1.heap.size) := hN2
        clear hb2 hN2
        refine hK.out _ _ hS2 (fun hS => ?_)
        clear hK K
        refine wpAnyH_ready (rs := [4, 12]) (by kernel_rfl) (by simp) (AllReadyH.cons (o := { dst := some 26, op := Op.call { callee := Callee.builtin Builtin.append, args := #[Operand.tmp 24, Operand.tmp 25], argTypes := #[26, 26] }, type := 26, pos := _, after := _, guard := none }) rfl (fun K hK => ?_) (AllReadyH.cons (o := { dst := some 8, op := Op.alloc 28, type := 0, pos := _, after := _, guard := none }) rfl (fun K hK => ?_) AllReadyH.nil))
        · refine step_before (W0 := W0) (F := fd) (d := symD mS) (N := W1.heap.size) rfl (.tmp 24) (.tmp 25) rfl rfl rfl (by exact BL_2.out.1) rfl (by decide) BL_2.out.2 hS DD.out BT.out ?_
          intro g3 gc3 gf3 W3 hc3 hd3 hg3
          have hS3 : Below W0.heap.size W0 W3 := hS.grown hg3 hS.size (fun k hk => by have := Option.some.inj hk; have := BL_2.out.2; omega)
          have LL_3 : Hid (l.length + 1 ≤ gc3 ∧ Dn W3 gf3 (some ⟨g3, 0, none⟩) (symD mS :: l)) := ⟨hc3, hd3⟩
          clear hc3 hd3 hg3
          show K _ W3
          refine hK.out _ _ hS3 (fun hS => ?_)
          clear hK K
          refine wpAnyH_ready (rs := [5, 12]) (by kernel_rfl) (by simp) (AllReadyH.cons (o := { dst := some 27, op := Op.call { callee := Callee.value (Operand.func 19), args := #[Operand.tmp 26], argTypes := #[26] }, type := 28, pos := _, after := _, guard := none }) rfl (fun K hK => ?_) (AllReadyH.cons (o := { dst := some 8, op := Op.alloc 28, type := 0, pos := _, after := _, guard := none }) rfl (fun K hK => ?_) AllReadyH.nil))
          · go_simp
            refine Calls.mono (List_any (symD mS :: l) (some ⟨g3, 0, none⟩) gc3 W3) ?_
            rintro e W4 ⟨rfl, hb4⟩
            have LL_4 : Hid (l.length + 1 ≤ gc3 ∧ Dn W4 gf3 (some ⟨g3, 0, none⟩) (symD mS :: l)) := ⟨LL_3.out.1, LL_3.out.2.lift hb4⟩
            have hS4 := hS.trans (hb4.mono hS.size)
            clear hb4
            try unfold dv
            show K _ W4
            refine hK.out _ _ hS4 (fun hS => ?_)
            clear hK K
            refine wpAnyH_ready (rs := [8, 12]) (by kernel_rfl) (by simp) (AllReadyH.cons (o := { dst := some 30, op := Op.call { callee := Callee.value (Operand.func 11), args := #[Operand.tmp 22, Operand.tmp 27, Operand.tmp 28, Operand.tmp 29], argTypes := #[25, 28, 3, 3] }, type := 32, pos := _, after := _, guard := none }) rfl (fun K hK => ?_) (AllReadyH.cons (o := { dst := some 8, op := Op.alloc 28, type := 0, pos := _, after := _, guard := none }) rfl (fun K hK => ?_) AllReadyH.nil))
            · go_simp
              have US5 := Use_here _ _ [] manyR none (some ⟨rb, 0, none⟩) 0 1 (listD (symD mS :: l)) (some ⟨g3, 0, none⟩) gc3 sp lb W4 (Strs.none _ _ _) (RL.out.lift hS) LL_4.out.2 LL_4.out.1 smMany (smD_list (by intro x hx; rcases List.mem_cons.1 hx with rfl | hx; exact smD_sym (by decide); exact smL_mem _ SML.out _ hx))
              rw [U.out] at US5
              refine Calls.mono US5 ?_
              clear US5
              rintro e W5 ⟨hb5, ra5, rc5, rf5, rfl, hc5, hd5⟩
              have LL_5 : Hid (l.length + 1 ≤ gc3 ∧ Dn W5 gf3 (some ⟨g3, 0, none⟩) (symD mS :: l)) := ⟨LL_4.out.1, LL_4.out.2.lift hb5⟩
              have RE_5 : Hid (r.kids.length ≤ rc5 ∧ Dn W5 rf5 ra5 r.kids) := ⟨hc5, Dn.of hd5⟩
              have hS5 := hS.trans (hb5.mono hS.size)
              clear hb5 hc5 hd5
              unfold dv
              show K _ W5
              refine hK.out _ _ hS5 (fun hS => ?_)
              clear hK K
              refine wpAnyH_take (i := 9) (oi := { dst := some 21, op := Op.move (Operand.tmp 30), type := 32, pos := _, after := _, guard := none }) (v := .tuple #[.agg #[.int .i64 r.kind, .int .i64 r.n, .string r.name, .int .i64 r.stamp, .int .i64 r.lib, .slice ra5 r.kids.length rc5], .int .i64 y]) rfl (by kernel_rfl) (by kernel_rfl) (by kernel_rfl) (fun _ _ _ h => h) (Or.inl ⟨by rfl, fun u hu => by go_simp⟩) hS ?_
              simp only [Act.put, List.setIfInBounds_toArray, List.set_cons_zero, List.set_cons_succ]
              refine wpAnyH_take (i := 10) (oi := { dst := some 31, op := Op.extract (Operand.tmp 21) 0, type := 28, pos := _, after := _, guard := none }) (v := .agg #[.int .i64 r.kind, .int .i64 r.n, .string r.name, .int .i64 r.stamp, .int .i64 r.lib, .slice ra5 r.kids.length rc5]) rfl (by kernel_rfl) (by kernel_rfl) (by kernel_rfl) (fun _ _ _ h => h) (Or.inl ⟨by rfl, fun u hu => by go_simp⟩) hS ?_
              simp only [Act.put, List.setIfInBounds_toArray, List.set_cons_zero, List.set_cons_succ]
              refine wpAnyH_take (i := 11) (oi := { dst := some 32, op := Op.extract (Operand.tmp 21) 1, type := 31, pos := _, after := _, guard := none }) (v := .int .i64 y) rfl (by kernel_rfl) (by kernel_rfl) (by kernel_rfl) (fun _ _ _ h => h) (Or.inl ⟨by rfl, fun u hu => by go_simp⟩) hS ?_
              simp only [Act.put, List.setIfInBounds_toArray, List.set_cons_zero, List.set_cons_succ]
              refine wpAnyH_ready (rs := [12]) (by kernel_rfl) (by simp) (AllReadyH.cons (o := { dst := some 8, op := Op.alloc 28, type := 0, pos := _, after := _, guard := none }) rfl (fun K hK => ?_) AllReadyH.nil)
              go_simp
              have hb6 : Below W5.heap.size W5 (W5.alloc (.cells #[.int .i64 0, .int .i64 0, .string ⟨#[]⟩, .int .i64 0, .int .i64 0, .slice none 0 0] 28)) := (Below.refl _ _).alloc (Nat.le_refl _) _
              have hN6 : Nod W5.heap.size ⟨0, 0, ⟨#[]⟩, 0, 0, []⟩ (.slice none 0 0) (W5.alloc (.cells #[.int .i64 0, .int .i64 0, .string ⟨#[]⟩, .int .i64 0, .int .i64 0, .slice none 0 0] 28)) := Nod.made W5 ⟨0, 0, ⟨#[]⟩, 0, 0, []⟩ (.slice none 0 0)
              have hnb6 : W0.heap.size ≤ W5.heap.size := hS.size
              have hS6 := hS.trans (hb6.mono hS.size)
              change K _ (W5.alloc (.cells #[.int .i64 0, .int .i64 0, .string ⟨#[]⟩, .int .i64 0, .int .i64 0, .slice none 0 0] 28))
              generalize W5.alloc (.cells #[.int .i64 0, .int .i64 0, .string ⟨#[]⟩, .int .i64 0, .int .i64 0, .slice none 0 0] 28) = W6 at hb6 hN6 hS6 ⊢
              have RE_6 : Hid (r.kids.length ≤ rc5 ∧ DnX W6 W5.heap.size rf5 ra5 r.kids) := ⟨RE_5.out.1, RE_5.out.2.x hb6⟩
              have LL_6 : Hid (l.length + 1 ≤ gc3 ∧ Dn W6 gf3 (some ⟨g3, 0, none⟩) (symD mS :: l)) := ⟨LL_5.out.1, LL_5.out.2.lift hb6⟩
              have NO_6 : Hid (Nod W5.heap.size ⟨0, 0, ⟨#[]⟩, 0, 0, []⟩ (.slice none 0 0) W6 ∧ W0.heap.size ≤ W5.heap.size) := ⟨hN6, hnb6⟩
              clear hb6 hN6 hnb6
              refine hK.out _ _ hS6 (fun hS => ?_)
              clear hK K
              refine wpAnyH_ready (rs := [13]) (by kernel_rfl) (by simp) (AllReadyH.cons (o := { dst := none, op := Op.store 28 (Operand.tmp 8) (Operand.tmp 31), type := 0, pos := _, after := _, guard := none }) rfl (fun K hK => ?_) AllReadyH.nil)
              obtain ⟨q, q0, q1, q2, q3, q4, q5, qz⟩ := NO_6.out.1
              simp only at q0 q1 q2 q3 q4 q5
              go_simp
              refine hK.out _ _ (below_sixN hS NO_6.out.2 _ _ _ _ _ _) (fun hS => ?_)
              clear hK K
              refine wpAnyH_take (i := 14) (oi := { dst := some 9, op := Op.assign (Operand.tmp 32), type := 31, pos := _, after := _, guard := none }) (v := .int .i64 y) rfl (by kernel_rfl) (by kernel_rfl) (by kernel_rfl) (fun _ _ _ h => h) (Or.inl ⟨by rfl, fun u hu => by go_simp⟩) hS ?_
              simp only [Act.put, List.setIfInBounds_toArray, List.set_cons_zero, List.set_cons_succ]
              refine wpAnyH_done (by kernel_rfl) ?_ _
              clear q q0 q1 q2 q3 q4 q5 qz
              go_wp2_with fail
              go_meet
              case rel =>
                exact ⟨_, _, _, _, rfl, rfl, NO_6.out.1.store r (.slice ra5 r.kids.length rc5), RE_6.out.1, RE_6.out.2.store _ _ _ _ _ _, hS⟩
            · go_simp
              have hb5 : Below W4.heap.size W4 (W4.alloc (.cells #[.int .i64 0, .int .i64 0, .string ⟨#[]⟩, .int .i64 0, .int .i64 0, .slice none 0 0] 28)) := (Below.refl _ _).alloc (Nat.le_refl _) _
              have hN5 : Nod W4.heap.size ⟨0, 0, ⟨#[]⟩, 0, 0, []⟩ (.slice none 0 0) (W4.alloc (.cells #[.int .i64 0, .int .i64 0, .string ⟨#[]⟩, .int .i64 0, .int .i64 0, .slice none 0 0] 28)) := Nod.made W4 ⟨0, 0, ⟨#[]⟩, 0, 0, []⟩ (.slice none 0 0)
              have hnb5 : W0.heap.size ≤ W4.heap.size := hS.size
              have hS5 := hS.trans (hb5.mono hS.size)
              change K _ (W4.alloc (.cells #[.int .i64 0, .int .i64 0, .string ⟨#[]⟩, .int .i64 0, .int .i64 0, .slice none 0 0] 28))
              generalize W4.alloc (.cells #[.int .i64 0, .int .i64 0, .string ⟨#[]⟩, .int .i64 0, .int .i64 0, .slice none 0 0] 28) = W5 at hb5 hN5 hS5 ⊢
              have LL_5 : Hid (l.length + 1 ≤ gc3 ∧ Dn W5 gf3 (some ⟨g3, 0, none⟩) (symD mS :: l)) := ⟨LL_4.out.1, LL_4.out.2.lift hb5⟩
              have NO_5 : Hid (Nod W4.heap.size ⟨0, 0, ⟨#[]⟩, 0, 0, []⟩ (.slice none 0 0) W5 ∧ W0.heap.size ≤ W4.heap.size) := ⟨hN5, hnb5⟩
              clear hb5 hN5 hnb5
              refine hK.out _ _ hS5 (fun hS => ?_)
              clear hK K
              refine wpAnyH_ready (rs := [8]) (by kernel_rfl) (by simp) (AllReadyH.cons (o := { dst := some 30, op := Op.call { callee := Callee.value (Operand.func 11), args := #[Operand.tmp 22, Operand.tmp 27, Operand.tmp 28, Operand.tmp 29], argTypes := #[25, 28, 3, 3] }, type := 32, pos := _, after := _, guard := none }) rfl (fun K hK => ?_) AllReadyH.nil)
              go_simp
              have US6 := Use_here _ _ [] manyR none (some ⟨rb, 0, none⟩) 0 1 (listD (symD mS :: l)) (some ⟨g3, 0, none⟩) gc3 sp lb W5 (Strs.none _ _ _) (RL.out.lift hS) LL_5.out.2 LL_5.out.1 smMany (smD_list (by intro x hx; rcases List.mem_cons.1 hx with rfl | hx; exact smD_sym (by decide); exact smL_mem _ SML.out _ hx))
              rw [U.out] at US6
              refine Calls.mono US6 ?_
              clear US6
              rintro e W6 ⟨hb6, ra6, rc6, rf6, rfl, hc6, hd6⟩
              have hx6 := NO_5.out.1.lt
              have LL_6 : Hid (l.length + 1 ≤ gc3 ∧ Dn W6 gf3 (some ⟨g3, 0, none⟩) (symD mS :: l)) := ⟨LL_5.out.1, LL_5.out.2.lift hb6⟩
              have NO_6 : Hid (Nod W4.heap.size ⟨0, 0, ⟨#[]⟩, 0, 0, []⟩ (.slice none 0 0) W6 ∧ W0.heap.size ≤ W4.heap.size) := ⟨NO_5.out.1.after hb6, NO_5.out.2⟩
              have RE_6 : Hid (r.kids.length ≤ rc6 ∧ DnX W6 (W4.heap.size) rf6 ra6 r.kids) := ⟨hc6, DnX.of hd6 hx6⟩
              have hS6 := hS.trans (hb6.mono hS.size)
              clear hb6 hc6 hd6
              clear hx6
              unfold dv
              show K _ W6
              refine hK.out _ _ hS6 (fun hS => ?_)
              clear hK K
              refine wpAnyH_take (i := 9) (oi := { dst := some 21, op := Op.move (Operand.tmp 30), type := 32, pos := _, after := _, guard := none }) (v := .tuple #[.agg #[.int .i64 r.kind, .int .i64 r.n, .string r.name, .int .i64 r.stamp, .int .i64 r.lib, .slice ra6 r.kids.length rc6], .int .i64 y]) rfl (by kernel_rfl) (by kernel_rfl) (by kernel_rfl) (fun _ _ _ h => h) (Or.inl ⟨by rfl, fun u hu => by go_simp⟩) hS ?_
              simp only [Act.put, List.setIfInBounds_toArray, List.set_cons_zero, List.set_cons_succ]
              refine wpAnyH_take (i := 10) (oi := { dst := some 31, op := Op.extract (Operand.tmp 21) 0, type := 28, pos := _, after := _, guard := none }) (v := .agg #[.int .i64 r.kind, .int .i64 r.n, .string r.name, .int .i64 r.stamp, .int .i64 r.lib, .slice ra6 r.kids.length rc6]) rfl (by kernel_rfl) (by kernel_rfl) (by kernel_rfl) (fun _ _ _ h => h) (Or.inl ⟨by rfl, fun u hu => by go_simp⟩) hS ?_
              simp only [Act.put, List.setIfInBounds_toArray, List.set_cons_zero, List.set_cons_succ]
              refine wpAnyH_take (i := 11) (oi := { dst := some 32, op := Op.extract (Operand.tmp 21) 1, type := 31, pos := _, after := _, guard := none }) (v := .int .i64 y) rfl (by kernel_rfl) (by kernel_rfl) (by kernel_rfl) (fun _ _ _ h => h) (Or.inl ⟨by rfl, fun u hu => by go_simp⟩) hS ?_
              simp only [Act.put, List.setIfInBounds_toArray, List.set_cons_zero, List.set_cons_succ]
              refine wpAnyH_ready (rs := [13]) (by kernel_rfl) (by simp) (AllReadyH.cons (o := { dst := none, op := Op.store 28 (Operand.tmp 8) (Operand.tmp 31), type := 0, pos := _, after := _, guard := none }) rfl (fun K hK => ?_) AllReadyH.nil)
              obtain ⟨q, q0, q1, q2, q3, q4, q5, qz⟩ := NO_6.out.1
              simp only at q0 q1 q2 q3 q4 q5
              go_simp
              refine hK.out _ _ (below_sixN hS NO_6.out.2 _ _ _ _ _ _) (fun hS => ?_)
              clear hK K
              refine wpAnyH_take (i := 14) (oi := { dst := some 9, op := Op.assign (Operand.tmp 32), type := 31, pos := _, after := _, guard := none }) (v := .int .i64 y) rfl (by kernel_rfl) (by kernel_rfl) (by kernel_rfl) (fun _ _ _ h => h) (Or.inl ⟨by rfl, fun u hu => by go_simp⟩) hS ?_
              simp only [Act.put, List.setIfInBounds_toArray, List.set_cons_zero, List.set_cons_succ]
              refine wpAnyH_done (by kernel_rfl) ?_ _
              clear q q0 q1 q2 q3 q4 q5 qz
              go_wp2_with fail
              go_meet
              case rel =>
                exact ⟨_, _, _, _, rfl, rfl, NO_6.out.1.store r (.slice ra6 r.kids.length rc6), RE_6.out.1, RE_6.out.2.store _ _ _ _ _ _, hS⟩
          · go_simp
            have hb4 : Below W3.heap.size W3 (W3.alloc (.cells #[.int .i64 0, .int .i64 0, .string ⟨#[]⟩, .int .i64 0, .int .i64 0, .slice none 0 0] 28)) := (Below.refl _ _).alloc (Nat.le_refl _) _
            have hN4 : Nod W3.heap.size ⟨0, 0, ⟨#[]⟩, 0, 0, []⟩ (.slice none 0 0) (W3.alloc (.cells #[.int .i64 0, .int .i64 0, .string ⟨#[]⟩, .int .i64 0, .int .i64 0, .slice none 0 0] 28)) := Nod.made W3 ⟨0, 0, ⟨#[]⟩, 0, 0, []⟩ (.slice none 0 0)
            have hnb4 : W0.heap.size ≤ W3.heap.size := hS.size
            have hS4 := hS.trans (hb4.mono hS.size)
            change K _ (W3.alloc (.cells #[.int .i64 0, .int .i64 0, .string ⟨#[]⟩, .int .i64 0, .int .i64 0, .slice none 0 0] 28))
            generalize W3.alloc (.cells #[.int .i64 0, .int .i64 0, .string ⟨#[]⟩, .int .i64 0, .int .i64 0, .slice none 0 0] 28) = W4 at hb4 hN4 hS4 ⊢
            have LL_4 : Hid (l.length + 1 ≤ gc3 ∧ Dn W4 gf3 (some ⟨g3, 0, none⟩) (symD mS :: l)) := ⟨LL_3.out.1, LL_3.out.2.lift hb4⟩
            have NO_4 : Hid (Nod W3.heap.size ⟨0, 0, ⟨#[]⟩, 0, 0, []⟩ (.slice none 0 0) W4 ∧ W0.heap.size ≤ W3.heap.size) := ⟨hN4, hnb4⟩
            clear hb4 hN4 hnb4
            refine hK.out _ _ hS4 (fun hS => ?_)
            clear hK K
            refine wpAnyH_ready (rs := [5]) (by kernel_rfl) (by simp) (AllReadyH.cons (o := { dst := some 27, op := Op.call { callee := Callee.value (Operand.func 19), args := #[Operand.tmp 26], argTypes := #[26] }, type := 28, pos := _, after := _, guard := none }) rfl (fun K hK => ?_) AllReadyH.nil)
            go_simp
            refine Calls.mono (List_any (symD mS :: l) (some ⟨g3, 0, none⟩) gc3 W4) ?_
            rintro e W5 ⟨rfl, hb5⟩
            have LL_5 : Hid (l.length + 1 ≤ gc3 ∧ Dn W5 gf3 (some ⟨g3, 0, none⟩) (symD mS :: l)) := ⟨LL_4.out.1, LL_4.out.2.lift hb5⟩
            have NO_5 : Hid (Nod W3.heap.size ⟨0, 0, ⟨#[]⟩, 0, 0, []⟩ (.slice none 0 0) W5 ∧ W0.heap.size ≤ W3.heap.size) := ⟨NO_4.out.1.after hb5, NO_4.out.2⟩
            have hS5 := hS.trans (hb5.mono hS.size)
            clear hb5
            try unfold dv
            show K _ W5
            refine hK.out _ _ hS5 (fun hS => ?_)
            clear hK K
            refine wpAnyH_ready (rs := [8]) (by kernel_rfl) (by simp) (AllReadyH.cons (o := { dst := some 30, op := Op.call { callee := Callee.value (Operand.func 11), args := #[Operand.tmp 22, Operand.tmp 27, Operand.tmp 28, Operand.tmp 29], argTypes := #[25, 28, 3, 3] }, type := 32, pos := _, after := _, guard := none }) rfl (fun K hK => ?_) AllReadyH.nil)
            go_simp
            have US6 := Use_here _ _ [] manyR none (some ⟨rb, 0, none⟩) 0 1 (listD (symD mS :: l)) (some ⟨g3, 0, none⟩) gc3 sp lb W5 (Strs.none _ _ _) (RL.out.lift hS) LL_5.out.2 LL_5.out.1 smMany (smD_list (by intro x hx; rcases List.mem_cons.1 hx with rfl | hx; exact smD_sym (by decide); exact smL_mem _ SML.out _ hx))
            rw [U.out] at US6
            refine Calls.mono US6 ?_
            clear US6
            rintro e W6 ⟨hb6, ra6, rc6, rf6, rfl, hc6, hd6⟩
            have hx6 := NO_5.out.1.lt
            have LL_6 : Hid (l.length + 1 ≤ gc3 ∧ Dn W6 gf3 (some ⟨g3, 0, none⟩) (symD mS :: l)) := ⟨LL_5.out.1, LL_5.out.2.lift hb6⟩
            have NO_6 : Hid (Nod W3.heap.size ⟨0, 0, ⟨#[]⟩, 0, 0, []⟩ (.slice none 0 0) W6 ∧ W0.heap.size ≤ W3.heap.size) := ⟨NO_5.out.1.after hb6, NO_5.out.2⟩
            have RE_6 : Hid (r.kids.length ≤ rc6 ∧ DnX W6 (W3.heap.size) rf6 ra6 r.kids) := ⟨hc6, DnX.of hd6 hx6⟩
            have hS6 := hS.trans (hb6.mono hS.size)
            clear hb6 hc6 hd6
            clear hx6
            unfold dv
            show K _ W6
            refine hK.out _ _ hS6 (fun hS => ?_)
            clear hK K
            refine wpAnyH_take (i := 9) (oi := { dst := some 21, op := Op.move (Operand.tmp 30), type := 32, pos := _, after := _, guard := none }) (v := .tuple #[.agg #[.int .i64 r.kind, .int .i64 r.n, .string r.name, .int .i64 r.stamp, .int .i64 r.lib, .slice ra6 r.kids.length rc6], .int .i64 y]) rfl (by kernel_rfl) (by kernel_rfl) (by kernel_rfl) (fun _ _ _ h => h) (Or.inl ⟨by rfl, fun u hu => by go_simp⟩) hS ?_
            simp only [Act.put, List.setIfInBounds_toArray, List.set_cons_zero, List.set_cons_succ]
            refine wpAnyH_take (i := 10) (oi := { dst := some 31, op := Op.extract (Operand.tmp 21) 0, type := 28, pos := _, after := _, guard := none }) (v := .agg #[.int .i64 r.kind, .int .i64 r.n, .string r.name, .int .i64 r.stamp, .int .i64 r.lib, .slice ra6 r.kids.length rc6]) rfl (by kernel_rfl) (by kernel_rfl) (by kernel_rfl) (fun _ _ _ h => h) (Or.inl ⟨by rfl, fun u hu => by go_simp⟩) hS ?_
            simp only [Act.put, List.setIfInBounds_toArray, List.set_cons_zero, List.set_cons_succ]
            refine wpAnyH_take (i := 11) (oi := { dst := some 32, op := Op.extract (Operand.tmp 21) 1, type := 31, pos := _, after := _, guard := none }) (v := .int .i64 y) rfl (by kernel_rfl) (by kernel_rfl) (by kernel_rfl) (fun _ _ _ h => h) (Or.inl ⟨by rfl, fun u hu => by go_simp⟩) hS ?_
            simp only [Act.put, List.setIfInBounds_toArray, List.set_cons_zero, List.set_cons_succ]
            refine wpAnyH_ready (rs := [13]) (by kernel_rfl) (by simp) (AllReadyH.cons (o := { dst := none, op := Op.store 28 (Operand.tmp 8) (Operand.tmp 31), type := 0, pos := _, after := _, guard := none }) rfl (fun K hK => ?_) AllReadyH.nil)
            obtain ⟨q, q0, q1, q2, q3, q4, q5, qz⟩ := NO_6.out.1
            simp only at q0 q1 q2 q3 q4 q5
            go_simp
            refine hK.out _ _ (below_sixN hS NO_6.out.2 _ _ _ _ _ _) (fun hS => ?_)
            clear hK K
            refine wpAnyH_take (i := 14) (oi := { dst := some 9, op := Op.assign (Operand.tmp 32), type := 31, pos := _, after := _, guard := none }) (v := .int .i64 y) rfl (by kernel_rfl) (by kernel_rfl) (by kernel_rfl) (fun _ _ _ h => h) (Or.inl ⟨by rfl, fun u hu => by go_simp⟩) hS ?_
            simp only [Act.put, List.setIfInBounds_toArray, List.set_cons_zero, List.set_cons_succ]
            refine wpAnyH_done (by kernel_rfl) ?_ _
            clear q q0 q1 q2 q3 q4 q5 qz
            go_wp2_with fail
            go_meet
            case rel =>
              exact ⟨_, _, _, _, rfl, rfl, NO_6.out.1.store r (.slice ra6 r.kids.length rc6), RE_6.out.1, RE_6.out.2.store _ _ _ _ _ _, hS⟩
        · go_simp
          have hb3 : Below W2.heap.size W2 (W2.alloc (.cells #[.int .i64 0, .int .i64 0, .string ⟨#[]⟩, .int .i64 0, .int .i64 0, .slice none 0 0] 28)) := (Below.refl _ _).alloc (Nat.le_refl _) _
          have hN3 : Nod W2.heap.size ⟨0, 0, ⟨#[]⟩, 0, 0, []⟩ (.slice none 0 0) (W2.alloc (.cells #[.int .i64 0, .int .i64 0, .string ⟨#[]⟩, .int .i64 0, .int .i64 0, .slice none 0 0] 28)) := Nod.made W2 ⟨0, 0, ⟨#[]⟩, 0, 0, []⟩ (.slice none 0 0)
          have hnb3 : W0.heap.size ≤ W2.heap.size := hS.size
          have hS3 := hS.trans (hb3.mono hS.size)
          change K _ (W2.alloc (.cells #[.int .i64 0, .int .i64 0, .string ⟨#[]⟩, .int .i64 0, .int .i64 0, .slice none 0 0] 28))
          generalize W2.alloc (.cells #[.int .i64 0, .int .i64 0, .string ⟨#[]⟩, .int .i64 0, .int .i64 0, .slice none 0 0] 28) = W3 at hb3 hN3 hS3 ⊢
          have BL_3 : Hid (W3.heap[W1.heap.size]? = some (.cells #[.int .i64 (symD mS).kind, .int .i64 (symD mS).n, .string (symD mS).name, .int .i64 (symD mS).stamp, .int .i64 (symD mS).lib, .slice none (symD mS).kids.length 0] 28 (0, 0)) ∧ W0.heap.size ≤ W1.heap.size) := ⟨(hb3.block _ (Array.getElem?_eq_some_iff.1 BL_2.out.1).1).trans BL_2.out.1, BL_2.out.2⟩
          have NO_3 : Hid (Nod W2.heap.size ⟨0, 0, ⟨#[]⟩, 0, 0, []⟩ (.slice none 0 0) W3 ∧ W0.heap.size ≤ W2.heap.size) := ⟨hN3, hnb3⟩
          clear hb3 hN3 hnb3
          refine hK.out _ _ hS3 (fun hS => ?_)
          clear hK K
          refine wpAnyH_ready (rs := [4]) (by kernel_rfl) (by simp) (AllReadyH.cons (o := { dst := some 26, op := Op.call { callee := Callee.builtin Builtin.append, args := #[Operand.tmp 24, Operand.tmp 25], argTypes := #[26, 26] }, type := 26, pos := _, after := _, guard := none }) rfl (fun K hK => ?_) AllReadyH.nil)
          refine step_before (W0 := W0) (F := fd) (d := symD mS) (N := W1.heap.size) rfl (.tmp 24) (.tmp 25) rfl rfl rfl (by exact BL_3.out.1) rfl (by decide) BL_3.out.2 hS DD.out BT.out ?_
          intro g4 gc4 gf4 W4 hc4 hd4 hg4
          have hS4 : Below W0.heap.size W0 W4 := hS.grown hg4 hS.size (fun k hk => by have := Option.some.inj hk; have := BL_3.out.2; omega)
          have hne4 : W2.heap.size ≠ W1.heap.size := fun e => by have h1 := NO_3.out.1.q0; rw [e] at h1; simp [World.cell?, BL_3.out.1, symD] at h1
          have NO_4 : Hid (Nod W2.heap.size ⟨0, 0, ⟨#[]⟩, 0, 0, []⟩ (.slice none 0 0) W4 ∧ W0.heap.size ≤ W2.heap.size) := ⟨NO_3.out.1.grown hg4 (by simpa using hne4), NO_3.out.2⟩
          clear hne4
          have LL_4 : Hid (l.length + 1 ≤ gc4 ∧ Dn W4 gf4 (some ⟨g4, 0, none⟩) (symD mS :: l)) := ⟨hc4, hd4⟩
          clear hc4 hd4 hg4
          show K _ W4
          refine hK.out _ _ hS4 (fun hS => ?_)
          clear hK K
          refine wpAnyH_ready (rs := [5]) (by kernel_rfl) (by simp) (AllReadyH.cons (o := { dst := some 27, op := Op.call { callee := Callee.value (Operand.func 19), args := #[Operand.tmp 26], argTypes := #[26] }, type := 28, pos := _, after := _, guard := none }) rfl (fun K hK => ?_) AllReadyH.nil)
          go_simp
          refine Calls.mono (List_any (symD mS :: l) (some ⟨g4, 0, none⟩) gc4 W4) ?_
          rintro e W5 ⟨rfl, hb5⟩
          have NO_5 : Hid (Nod W2.heap.size ⟨0, 0, ⟨#[]⟩, 0, 0, []⟩ (.slice none 0 0) W5 ∧ W0.heap.size ≤ W2.heap.size) := ⟨NO_4.out.1.after hb5, NO_4.out.2⟩
          have LL_5 : Hid (l.length + 1 ≤ gc4 ∧ Dn W5 gf4 (some ⟨g4, 0, none⟩) (symD mS :: l)) := ⟨LL_4.out.1, LL_4.out.2.lift hb5⟩
          have hS5 := hS.trans (hb5.mono hS.size)
          clear hb5
          try unfold dv
          show K _ W5
          refine hK.out _ _ hS5 (fun hS => ?_)
          clear hK K
          refine wpAnyH_ready (rs := [8]) (by kernel_rfl) (by simp) (AllReadyH.cons (o := { dst := some 30, op := Op.call { callee := Callee.value (Operand.func 11), args := #[Operand.tmp 22, Operand.tmp 27, Operand.tmp 28, Operand.tmp 29], argTypes := #[25, 28, 3, 3] }, type := 32, pos := _, after := _, guard := none }) rfl (fun K hK => ?_) AllReadyH.nil)
          go_simp
          have US6 := Use_here _ _ [] manyR none (some ⟨rb, 0, none⟩) 0 1 (listD (symD mS :: l)) (some ⟨g4, 0, none⟩) gc4 sp lb W5 (Strs.none _ _ _) (RL.out.lift hS) LL_5.out.2 LL_5.out.1 smMany (smD_list (by intro x hx; rcases List.mem_cons.1 hx with rfl | hx; exact smD_sym (by decide); exact smL_mem _ SML.out _ hx))
          rw [U.out] at US6
          refine Calls.mono US6 ?_
          clear US6
          rintro e W6 ⟨hb6, ra6, rc6, rf6, rfl, hc6, hd6⟩
          have hx6 := NO_5.out.1.lt
          have NO_6 : Hid (Nod W2.heap.size ⟨0, 0, ⟨#[]⟩, 0, 0, []⟩ (.slice none 0 0) W6 ∧ W0.heap.size ≤ W2.heap.size) := ⟨NO_5.out.1.after hb6, NO_5.out.2⟩
          have LL_6 : Hid (l.length + 1 ≤ gc4 ∧ Dn W6 gf4 (some ⟨g4, 0, none⟩) (symD mS :: l)) := ⟨LL_5.out.1, LL_5.out.2.lift hb6⟩
          have RE_6 : Hid (r.kids.length ≤ rc6 ∧ DnX W6 (W2.heap.size) rf6 ra6 r.kids) := ⟨hc6, DnX.of hd6 hx6⟩
          have hS6 := hS.trans (hb6.mono hS.size)
          clear hb6 hc6 hd6
          clear hx6
          unfold dv
          show K _ W6
          refine hK.out _ _ hS6 (fun hS => ?_)
          clear hK K
          refine wpAnyH_take (i := 9) (oi := { dst := some 21, op := Op.move (Operand.tmp 30), type := 32, pos := _, after := _, guard := none }) (v := .tuple #[.agg #[.int .i64 r.kind, .int .i64 r.n, .string r.name, .int .i64 r.stamp, .int .i64 r.lib, .slice ra6 r.kids.length rc6], .int .i64 y]) rfl (by kernel_rfl) (by kernel_rfl) (by kernel_rfl) (fun _ _ _ h => h) (Or.inl ⟨by rfl, fun u hu => by go_simp⟩) hS ?_
          simp only [Act.put, List.setIfInBounds_toArray, List.set_cons_zero, List.set_cons_succ]
          refine wpAnyH_take (i := 10) (oi := { dst := some 31, op := Op.extract (Operand.tmp 21) 0, type := 28, pos := _, after := _, guard := none }) (v := .agg #[.int .i64 r.kind, .int .i64 r.n, .string r.name, .int .i64 r.stamp, .int .i64 r.lib, .slice ra6 r.kids.length rc6]) rfl (by kernel_rfl) (by kernel_rfl) (by kernel_rfl) (fun _ _ _ h => h) (Or.inl ⟨by rfl, fun u hu => by go_simp⟩) hS ?_
          simp only [Act.put, List.setIfInBounds_toArray, List.set_cons_zero, List.set_cons_succ]
          refine wpAnyH_take (i := 11) (oi := { dst := some 32, op := Op.extract (Operand.tmp 21) 1, type := 31, pos := _, after := _, guard := none }) (v := .int .i64 y) rfl (by kernel_rfl) (by kernel_rfl) (by kernel_rfl) (fun _ _ _ h => h) (Or.inl ⟨by rfl, fun u hu => by go_simp⟩) hS ?_
          simp only [Act.put, List.setIfInBounds_toArray, List.set_cons_zero, List.set_cons_succ]
          refine wpAnyH_ready (rs := [13]) (by kernel_rfl) (by simp) (AllReadyH.cons (o := { dst := none, op := Op.store 28 (Operand.tmp 8) (Operand.tmp 31), type := 0, pos := _, after := _, guard := none }) rfl (fun K hK => ?_) AllReadyH.nil)
          obtain ⟨q, q0, q1, q2, q3, q4, q5, qz⟩ := NO_6.out.1
          simp only at q0 q1 q2 q3 q4 q5
          go_simp
          refine hK.out _ _ (below_sixN hS NO_6.out.2 _ _ _ _ _ _) (fun hS => ?_)
          clear hK K
          refine wpAnyH_take (i := 14) (oi := { dst := some 9, op := Op.assign (Operand.tmp 32), type := 31, pos := _, after := _, guard := none }) (v := .int .i64 y) rfl (by kernel_rfl) (by kernel_rfl) (by kernel_rfl) (fun _ _ _ h => h) (Or.inl ⟨by rfl, fun u hu => by go_simp⟩) hS ?_
          simp only [Act.put, List.setIfInBounds_toArray, List.set_cons_zero, List.set_cons_succ]
          refine wpAnyH_done (by kernel_rfl) ?_ _
          clear q q0 q1 q2 q3 q4 q5 qz
          go_wp2_with fail
          go_meet
          case rel =>
            exact ⟨_, _, _, _, rfl, rfl, NO_6.out.1.store r (.slice ra6 r.kids.length rc6), RE_6.out.1, RE_6.out.2.store _ _ _ _ _ _, hS⟩
      · go_simp
        have hb2 : Below W1.heap.size W1 (W1.alloc (.cells #[.int .i64 0, .int .i64 0, .string ⟨#[]⟩, .int .i64 0, .int .i64 0, .slice none 0 0] 28)) := (Below.refl _ _).alloc (Nat.le_refl _) _
        have hN2 : Nod W1.heap.size ⟨0, 0, ⟨#[]⟩, 0, 0, []⟩ (.slice none 0 0) (W1.alloc (.cells #[.int .i64 0, .int .i64 0, .string ⟨#[]⟩, .int .i64 0, .int .i64 0, .slice none 0 0] 28)) := Nod.made W1 ⟨0, 0, ⟨#[]⟩, 0, 0, []⟩ (.slice none 0 0)
        have hnb2 : W0.heap.size ≤ W1.heap.size := hS.size
        have hS2 := hS.trans (hb2.mono hS.size)
        change K _ (W1.alloc (.cells #[.int .i64 0, .int .i64 0, .string ⟨#[]⟩, .int .i64 0, .int .i64 0, .slice none 0 0] 28))
        generalize W1.alloc (.cells #[.int .i64 0, .int .i64 0, .string ⟨#[]⟩, .int .i64 0, .int .i64 0, .slice none 0 0] 28) = W2 at hb2 hN2 hS2 ⊢
        have NO_2 : Hid (Nod W1.heap.size ⟨0, 0, ⟨#[]⟩, 0, 0, []⟩ (.slice none 0 0) W2 ∧ W0.heap.size ≤ W1.heap.size) := ⟨hN2, hnb2⟩
        clear hb2 hN2 hnb2
        refine hK.out _ _ hS2 (fun hS => ?_)
        clear hK K
        refine wpAnyH_ready (rs := [2]) (by kernel_rfl) (by simp) (AllReadyH.cons (o := { dst := some 24, op := Op.buildSlice 26 1 #[(0, Operand.tmp 23)], type := 26, pos := _, after := _, guard := none }) rfl (fun K hK => ?_) AllReadyH.nil)
        go_simp
        have hb3 : Below W2.heap.size W2 (W2.alloc (.cells #[.int .i64 (symD mS).kind, .int .i64 (symD mS).n, .string (symD mS).name, .int .i64 (symD mS).stamp, .int .i64 (symD mS).lib, .slice none (symD mS).kids.length 0] 28)) := (Below.refl _ _).alloc (Nat.le_refl _) _
        have hN3 : (W2.alloc (.cells #[.int .i64 (symD mS).kind, .int .i64 (symD mS).n, .string (symD mS).name, .int .i64 (symD mS).stamp, .int .i64 (symD mS).lib, .slice none (symD mS).kids.length 0] 28)).heap[W2.heap.size]? = some (.cells #[.int .i64 (symD mS).kind, .int .i64 (symD mS).n, .string (symD mS).name, .int .i64 (symD mS).stamp, .int .i64 (symD mS).lib, .slice none (symD mS).kids.length 0] 28 (0, 0)) ∧ W0.heap.size ≤ W2.heap.size := ⟨World.alloc_heap_new W2 _, hS.size⟩
        have hS3 := hS.trans (hb3.mono hS.size)
        change K _ (W2.alloc (.cells #[.int .i64 (symD mS).kind, .int .i64 (symD mS).n, .string (symD mS).name, .int .i64 (symD mS).stamp, .int .i64 (symD mS).lib, .slice none (symD mS).kids.length 0] 28))
        generalize W2.alloc (.cells #[.int .i64 (symD mS).kind, .int .i64 (symD mS).n, .string (symD mS).name, .int .i64 (symD mS).stamp, .int .i64 (symD mS).lib, .slice none (symD mS).kids.length 0] 28) = W3 at hb3 hN3 hS3 ⊢
        have NO_3 : Hid (Nod W1.heap.size ⟨0, 0, ⟨#[]⟩, 0, 0, []⟩ (.slice none 0 0) W3 ∧ W0.heap.size ≤ W1.heap.size) := ⟨NO_2.out.1.after hb3, NO_2.out.2⟩
        have BL_3 : Hid (W3.heap[W2.heap.size]? = some (.cells #[.int .i64 (symD mS).kind, .int .i64 (symD mS).n, .string (symD mS).name, .int .i64 (symD mS).stamp, .int .i64 (symD mS).lib, .slice none (symD mS).kids.length 0] 28 (0, 0)) ∧ W0.heap.size ≤ W2.heap.size) := hN3
        clear hb3 hN3
        refine hK.out _ _ hS3 (fun hS => ?_)
        clear hK K
        refine wpAnyH_ready (rs := [4]) (by kernel_rfl) (by simp) (AllReadyH.cons (o := { dst := some 26, op := Op.call { callee := Callee.builtin Builtin.append, args := #[Operand.tmp 24, Operand.tmp 25], argTypes := #[26, 26] }, type := 26, pos := _, after := _, guard := none }) rfl (fun K hK => ?_) AllReadyH.nil)
        refine step_before (W0 := W0) (F := fd) (d := symD mS) (N := W2.heap.size) rfl (.tmp 24) (.tmp 25) rfl rfl rfl (by exact BL_3.out.1) rfl (by decide) BL_3.out.2 hS DD.out BT.out ?_
        intro g4 gc4 gf4 W4 hc4 hd4 hg4
        have hS4 : Below W0.heap.size W0 W4 := hS.grown hg4 hS.size (fun k hk => by have := Option.some.inj hk; have := BL_3.out.2; omega)
        have hne4 : W1.heap.size ≠ W2.heap.size := fun e => by have h1 := NO_3.out.1.q0; rw [e] at h1; simp [World.cell?, BL_3.out.1, symD] at h1
        have NO_4 : Hid (Nod W1.heap.size ⟨0, 0, ⟨#[]⟩, 0, 0, []⟩ (.slice none 0 0) W4 ∧ W0.heap.size ≤ W1.heap.size) := ⟨NO_3.out.1.grown hg4 (by simpa using hne4), NO_3.out.2⟩
        clear hne4
        have LL_4 : Hid (l.length + 1 ≤ gc4 ∧ Dn W4 gf4 (some ⟨g4, 0, none⟩) (symD mS :: l)) := ⟨hc4, hd4⟩
        clear hc4 hd4 hg4
        show K _ W4
        refine hK.out _ _ hS4 (fun hS => ?_)
        clear hK K
        refine wpAnyH_ready (rs := [5]) (by kernel_rfl) (by simp) (AllReadyH.cons (o := { dst := some 27, op := Op.call { callee := Callee.value (Operand.func 19), args := #[Operand.tmp 26], argTypes := #[26] }, type := 28, pos := _, after := _, guard := none }) rfl (fun K hK => ?_) AllReadyH.nil)
        go_simp
        refine Calls.mono (List_any (symD mS :: l) (some ⟨g4, 0, none⟩) gc4 W4) ?_
        rintro e W5 ⟨rfl, hb5⟩
        have NO_5 : Hid (Nod W1.heap.size ⟨0, 0, ⟨#[]⟩, 0, 0, []⟩ (.slice none 0 0) W5 ∧ W0.heap.size ≤ W1.heap.size) := ⟨NO_4.out.1.after hb5, NO_4.out.2⟩
        have LL_5 : Hid (l.length + 1 ≤ gc4 ∧ Dn W5 gf4 (some ⟨g4, 0, none⟩) (symD mS :: l)) := ⟨LL_4.out.1, LL_4.out.2.lift hb5⟩
        have hS5 := hS.trans (hb5.mono hS.size)
        clear hb5
        try unfold dv
        show K _ W5
        refine hK.out _ _ hS5 (fun hS => ?_)
        clear hK K
        refine wpAnyH_ready (rs := [8]) (by kernel_rfl) (by simp) (AllReadyH.cons (o := { dst := some 30, op := Op.call { callee := Callee.value (Operand.func 11), args := #[Operand.tmp 22, Operand.tmp 27, Operand.tmp 28, Operand.tmp 29], argTypes := #[25, 28, 3, 3] }, type := 32, pos := _, after := _, guard := none }) rfl (fun K hK => ?_) AllReadyH.nil)
        go_simp
        have US6 := Use_here _ _ [] manyR none (some ⟨rb, 0, none⟩) 0 1 (listD (symD mS :: l)) (some ⟨g4, 0, none⟩) gc4 sp lb W5 (Strs.none _ _ _) (RL.out.lift hS) LL_5.out.2 LL_5.out.1 smMany (smD_list (by intro x hx; rcases List.mem_cons.1 hx with rfl | hx; exact smD_sym (by decide); exact smL_mem _ SML.out _ hx))
        rw [U.out] at US6
        refine Calls.mono US6 ?_
        clear US6
        rintro e W6 ⟨hb6, ra6, rc6, rf6, rfl, hc6, hd6⟩
        have hx6 := NO_5.out.1.lt
        have NO_6 : Hid (Nod W1.heap.size ⟨0, 0, ⟨#[]⟩, 0, 0, []⟩ (.slice none 0 0) W6 ∧ W0.heap.size ≤ W1.heap.size) := ⟨NO_5.out.1.after hb6, NO_5.out.2⟩
        have LL_6 : Hid (l.length + 1 ≤ gc4 ∧ Dn W6 gf4 (some ⟨g4, 0, none⟩) (symD mS :: l)) := ⟨LL_5.out.1, LL_5.out.2.lift hb6⟩
        have RE_6 : Hid (r.kids.length ≤ rc6 ∧ DnX W6 (W1.heap.size) rf6 ra6 r.kids) := ⟨hc6, DnX.of hd6 hx6⟩
        have hS6 := hS.trans (hb6.mono hS.size)
        clear hb6 hc6 hd6
        clear hx6
        unfold dv
        show K _ W6
        refine hK.out _ _ hS6 (fun hS => ?_)
        clear hK K
        refine wpAnyH_take (i := 9) (oi := { dst := some 21, op := Op.move (Operand.tmp 30), type := 32, pos := _, after := _, guard := none }) (v := .tuple #[.agg #[.int .i64 r.kind, .int .i64 r.n, .string r.name, .int .i64 r.stamp, .int .i64 r.lib, .slice ra6 r.kids.length rc6], .int .i64 y]) rfl (by kernel_rfl) (by kernel_rfl) (by kernel_rfl) (fun _ _ _ h => h) (Or.inl ⟨by rfl, fun u hu => by go_simp⟩) hS ?_
        simp only [Act.put, List.setIfInBounds_toArray, List.set_cons_zero, List.set_cons_succ]
        refine wpAnyH_take (i := 10) (oi := { dst := some 31, op := Op.extract (Operand.tmp 21) 0, type := 28, pos := _, after := _, guard := none }) (v := .agg #[.int .i64 r.kind, .int .i64 r.n, .string r.name, .int .i64 r.stamp, .int .i64 r.lib, .slice ra6 r.kids.length rc6]) rfl (by kernel_rfl) (by kernel_rfl) (by kernel_rfl) (fun _ _ _ h => h) (Or.inl ⟨by rfl, fun u hu => by go_simp⟩) hS ?_
        simp only [Act.put, List.setIfInBounds_toArray, List.set_cons_zero, List.set_cons_succ]
        refine wpAnyH_take (i := 11) (oi := { dst := some 32, op := Op.extract (Operand.tmp 21) 1, type := 31, pos := _, after := _, guard := none }) (v := .int .i64 y) rfl (by kernel_rfl) (by kernel_rfl) (by kernel_rfl) (fun _ _ _ h => h) (Or.inl ⟨by rfl, fun u hu => by go_simp⟩) hS ?_
        simp only [Act.put, List.setIfInBounds_toArray, List.set_cons_zero, List.set_cons_succ]
        refine wpAnyH_ready (rs := [13]) (by kernel_rfl) (by simp) (AllReadyH.cons (o := { dst := none, op := Op.store 28 (Operand.tmp 8) (Operand.tmp 31), type := 0, pos := _, after := _, guard := none }) rfl (fun K hK => ?_) AllReadyH.nil)
        obtain ⟨q, q0, q1, q2, q3, q4, q5, qz⟩ := NO_6.out.1
        simp only at q0 q1 q2 q3 q4 q5
        go_simp
        refine hK.out _ _ (below_sixN hS NO_6.out.2 _ _ _ _ _ _) (fun hS => ?_)
        clear hK K
        refine wpAnyH_take (i := 14) (oi := { dst := some 9, op := Op.assign (Operand.tmp 32), type := 31, pos := _, after := _, guard := none }) (v := .int .i64 y) rfl (by kernel_rfl) (by kernel_rfl) (by kernel_rfl) (fun _ _ _ h => h) (Or.inl ⟨by rfl, fun u hu => by go_simp⟩) hS ?_
        simp only [Act.put, List.setIfInBounds_toArray, List.set_cons_zero, List.set_cons_succ]
        refine wpAnyH_done (by kernel_rfl) ?_ _
        clear q q0 q1 q2 q3 q4 q5 qz
        go_wp2_with fail
        go_meet
        case rel =>
          exact ⟨_, _, _, _, rfl, rfl, NO_6.out.1.store r (.slice ra6 r.kids.length rc6), RE_6.out.1, RE_6.out.2.store _ _ _ _ _ _, hS⟩
    · go_simp
      have hb1 : Below W0.drew.heap.size W0.drew (W0.drew.alloc (.cells #[.int .i64 0, .int .i64 0, .string ⟨#[]⟩, .int .i64 0, .int .i64 0, .slice none 0 0] 28)) := (Below.refl _ _).alloc (Nat.le_refl _) _
      have hN1 : Nod W0.heap.size ⟨0, 0, ⟨#[]⟩, 0, 0, []⟩ (.slice none 0 0) (W0.drew.alloc (.cells #[.int .i64 0, .int .i64 0, .string ⟨#[]⟩, .int .i64 0, .int .i64 0, .slice none 0 0] 28)) := Nod.made W0.drew ⟨0, 0, ⟨#[]⟩, 0, 0, []⟩ (.slice none 0 0)
      have hnb1 : W0.heap.size ≤ W0.heap.size := hS.size
      have hS1 := hS.trans (hb1.mono hS.size)
      change K _ (W0.drew.alloc (.cells #[.int .i64 0, .int .i64 0, .string ⟨#[]⟩, .int .i64 0, .int .i64 0, .slice none 0 0] 28))
      generalize W0.drew.alloc (.cells #[.int .i64 0, .int .i64 0, .string ⟨#[]⟩, .int .i64 0, .int .i64 0, .slice none 0 0] 28) = W1 at hb1 hN1 hS1 ⊢
      have NO_1 : Hid (Nod W0.heap.size ⟨0, 0, ⟨#[]⟩, 0, 0, []⟩ (.slice none 0 0) W1 ∧ W0.heap.size ≤ W0.heap.size) := ⟨hN1, hnb1⟩
      clear hb1 hN1 hnb1
      refine hK.out _ _ hS1 (fun hS => ?_)
      clear hK K
      refine wpAnyH_ready (rs := [1]) (by kernel_rfl) (by simp) (AllReadyH.cons (o := { dst := some 23, op := Op.call { callee := Callee.value (Operand.func 21), args := #[Operand.const (Value.string { data := #[109] })], argTypes := #[9] }, type := 28, pos := _, after := _, guard := none }) rfl (fun K hK => ?_) AllReadyH.nil)
      go_simp
      refine Calls.mono (Sym_any mS W1) ?_
      rintro e W2 ⟨rfl, hb2⟩
      have NO_2 : Hid (Nod W0.heap.size ⟨0, 0, ⟨#[]⟩, 0, 0, []⟩ (.slice none 0 0) W2 ∧ W0.heap.size ≤ W0.heap.size) := ⟨NO_1.out.1.after hb2, NO_1.out.2⟩
      have hS2 := hS.trans (hb2.mono hS.size)
      clear hb2
      try unfold dv
      show K _ W2
      refine hK.out _ _ hS2 (fun hS => ?_)
      clear hK K
      refine wpAnyH_ready (rs := [2]) (by kernel_rfl) (by simp) (AllReadyH.cons (o := { dst := some 24, op := Op.buildSlice 26 1 #[(0, Operand.tmp 23)], type := 26, pos := _, after := _, guard := none }) rfl (fun K hK => ?_) AllReadyH.nil)
      go_simp
      have hb3 : Below W2.heap.size W2 (W2.alloc (.cells #[.int .i64 (symD mS).kind, .int .i64 (symD mS).n, .string (symD mS).name, .int .i64 (symD mS).stamp, .int .i64 (symD mS).lib, .slice none (symD mS).kids.length 0] 28)) := (Below.refl _ _).alloc (Nat.le_refl _) _
      have hN3 : (W2.alloc (.cells #[.int .i64 (symD mS).kind, .int .i64 (symD mS).n, .string (symD mS).name, .int .i64 (symD mS).stamp, .int .i64 (symD mS).lib, .slice none (symD mS).kids.length 0] 28)).heap[W2.heap.size]? = some (.cells #[.int .i64 (symD mS).kind, .int .i64 (symD mS).n, .string (symD mS).name, .int .i64 (symD mS).stamp, .int .i64 (symD mS).lib, .slice none (symD mS).kids.length 0] 28 (0, 0)) ∧ W0.heap.size ≤ W2.heap.size := ⟨World.alloc_heap_new W2 _, hS.size⟩
      have hS3 := hS.trans (hb3.mono hS.size)
      change K _ (W2.alloc (.cells #[.int .i64 (symD mS).kind, .int .i64 (symD mS).n, .string (symD mS).name, .int .i64 (symD mS).stamp, .int .i64 (symD mS).lib, .slice none (symD mS).kids.length 0] 28))
      generalize W2.alloc (.cells #[.int .i64 (symD mS).kind, .int .i64 (symD mS).n, .string (symD mS).name, .int .i64 (symD mS).stamp, .int .i64 (symD mS).lib, .slice none (symD mS).kids.length 0] 28) = W3 at hb3 hN3 hS3 ⊢
      have NO_3 : Hid (Nod W0.heap.size ⟨0, 0, ⟨#[]⟩, 0, 0, []⟩ (.slice none 0 0) W3 ∧ W0.heap.size ≤ W0.heap.size) := ⟨NO_2.out.1.after hb3, NO_2.out.2⟩
      have BL_3 : Hid (W3.heap[W2.heap.size]? = some (.cells #[.int .i64 (symD mS).kind, .int .i64 (symD mS).n, .string (symD mS).name, .int .i64 (symD mS).stamp, .int .i64 (symD mS).lib, .slice none (symD mS).kids.length 0] 28 (0, 0)) ∧ W0.heap.size ≤ W2.heap.size) := hN3
      clear hb3 hN3
      refine hK.out _ _ hS3 (fun hS => ?_)
      clear hK K
      refine wpAnyH_ready (rs := [4]) (by kernel_rfl) (by simp) (AllReadyH.cons (o := { dst := some 26, op := Op.call { callee := Callee.builtin Builtin.append, args := #[Operand.tmp 24, Operand.tmp 25], argTypes := #[26, 26] }, type := 26, pos := _, after := _, guard := none }) rfl (fun K hK => ?_) AllReadyH.nil)
      refine step_before (W0 := W0) (F := fd) (d := symD mS) (N := W2.heap.size) rfl (.tmp 24) (.tmp 25) rfl rfl rfl (by exact BL_3.out.1) rfl (by decide) BL_3.out.2 hS DD.out BT.out ?_
      intro g4 gc4 gf4 W4 hc4 hd4 hg4
      have hS4 : Below W0.heap.size W0 W4 := hS.grown hg4 hS.size (fun k hk => by have := Option.some.inj hk; have := BL_3.out.2; omega)
      have hne4 : W0.heap.size ≠ W2.heap.size := fun e => by have h1 := NO_3.out.1.q0; rw [e] at h1; simp [World.cell?, BL_3.out.1, symD] at h1
      have NO_4 : Hid (Nod W0.heap.size ⟨0, 0, ⟨#[]⟩, 0, 0, []⟩ (.slice none 0 0) W4 ∧ W0.heap.size ≤ W0.heap.size) := ⟨NO_3.out.1.grown hg4 (by simpa using hne4), NO_3.out.2⟩
      clear hne4
      have LL_4 : Hid (l.length + 1 ≤ gc4 ∧ Dn W4 gf4 (some ⟨g4, 0, none⟩) (symD mS :: l)) := ⟨hc4, hd4⟩
      clear hc4 hd4 hg4
      show K _ W4
      refine hK.out _ _ hS4 (fun hS => ?_)
      clear hK K
      refine wpAnyH_ready (rs := [5]) (by kernel_rfl) (by simp) (AllReadyH.cons (o := { dst := some 27, op := Op.call { callee := Callee.value (Operand.func 19), args := #[Operand.tmp 26], argTypes := #[26] }, type := 28, pos := _, after := _, guard := none }) rfl (fun K hK => ?_) AllReadyH.nil)
      go_simp
      refine Calls.mono (List_any (symD mS :: l) (some ⟨g4, 0, none⟩) gc4 W4) ?_
      rintro e W5 ⟨rfl, hb5⟩
      have NO_5 : Hid (Nod W0.heap.size ⟨0, 0, ⟨#[]⟩, 0, 0, []⟩ (.slice none 0 0) W5 ∧ W0.heap.size ≤ W0.heap.size) := ⟨NO_4.out.1.after hb5, NO_4.out.2⟩
      have LL_5 : Hid (l.length + 1 ≤ gc4 ∧ Dn W5 gf4 (some ⟨g4, 0, none⟩) (symD mS :: l)) := ⟨LL_4.out.1, LL_4.out.2.lift hb5⟩
      have hS5 := hS.trans (hb5.mono hS.size)
      clear hb5
      try unfold dv
      show K _ W5
      refine hK.out _ _ hS5 (fun hS => ?_)
      clear hK K
      refine wpAnyH_ready (rs := [8]) (by kernel_rfl) (by simp) (AllReadyH.cons (o := { dst := some 30, op := Op.call { callee := Callee.value (Operand.func 11), args := #[Operand.tmp 22, Operand.tmp 27, Operand.tmp 28, Operand.tmp 29], argTypes := #[25, 28, 3, 3] }, type := 32, pos := _, after := _, guard := none }) rfl (fun K hK => ?_) AllReadyH.nil)
      go_simp
      have US6 := Use_here _ _ [] manyR none (some ⟨rb, 0, none⟩) 0 1 (listD (symD mS :: l)) (some ⟨g4, 0, none⟩) gc4 sp lb W5 (Strs.none _ _ _) (RL.out.lift hS) LL_5.out.2 LL_5.out.1 smMany (smD_list (by intro x hx; rcases List.mem_cons.1 hx with rfl | hx; exact smD_sym (by decide); exact smL_mem _ SML.out _ hx))
      rw [U.out] at US6
      refine Calls.mono US6 ?_
      clear US6
      rintro e W6 ⟨hb6, ra6, rc6, rf6, rfl, hc6, hd6⟩
      have hx6 := NO_5.out.1.lt
      have NO_6 : Hid (Nod W0.heap.size ⟨0, 0, ⟨#[]⟩, 0, 0, []⟩ (.slice none 0 0) W6 ∧ W0.heap.size ≤ W0.heap.size) := ⟨NO_5.out.1.after hb6, NO_5.out.2⟩
      have LL_6 : Hid (l.length + 1 ≤ gc4 ∧ Dn W6 gf4 (some ⟨g4, 0, none⟩) (symD mS :: l)) := ⟨LL_5.out.1, LL_5.out.2.lift hb6⟩
      have RE_6 : Hid (r.kids.length ≤ rc6 ∧ DnX W6 (W0.heap.size) rf6 ra6 r.kids) := ⟨hc6, DnX.of hd6 hx6⟩
      have hS6 := hS.trans (hb6.mono hS.size)
      clear hb6 hc6 hd6
      clear hx6
      unfold dv
      show K _ W6
      refine hK.out _ _ hS6 (fun hS => ?_)
      clear hK K
      refine wpAnyH_take (i := 9) (oi := { dst := some 21, op := Op.move (Operand.tmp 30), type := 32, pos := _, after := _, guard := none }) (v := .tuple #[.agg #[.int .i64 r.kind, .int .i64 r.n, .string r.name, .int .i64 r.stamp, .int .i64 r.lib, .slice ra6 r.kids.length rc6], .int .i64 y]) rfl (by kernel_rfl) (by kernel_rfl) (by kernel_rfl) (fun _ _ _ h => h) (Or.inl ⟨by rfl, fun u hu => by go_simp⟩) hS ?_
      simp only [Act.put, List.setIfInBounds_toArray, List.set_cons_zero, List.set_cons_succ]
      refine wpAnyH_take (i := 10) (oi := { dst := some 31, op := Op.extract (Operand.tmp 21) 0, type := 28, pos := _, after := _, guard := none }) (v := .agg #[.int .i64 r.kind, .int .i64 r.n, .string r.name, .int .i64 r.stamp, .int .i64 r.lib, .slice ra6 r.kids.length rc6]) rfl (by kernel_rfl) (by kernel_rfl) (by kernel_rfl) (fun _ _ _ h => h) (Or.inl ⟨by rfl, fun u hu => by go_simp⟩) hS ?_
      simp only [Act.put, List.setIfInBounds_toArray, List.set_cons_zero, List.set_cons_succ]
      refine wpAnyH_take (i := 11) (oi := { dst := some 32, op := Op.extract (Operand.tmp 21) 1, type := 31, pos := _, after := _, guard := none }) (v := .int .i64 y) rfl (by kernel_rfl) (by kernel_rfl) (by kernel_rfl) (fun _ _ _ h => h) (Or.inl ⟨by rfl, fun u hu => by go_simp⟩) hS ?_
      simp only [Act.put, List.setIfInBounds_toArray, List.set_cons_zero, List.set_cons_succ]
      refine wpAnyH_ready (rs := [13]) (by kernel_rfl) (by simp) (AllReadyH.cons (o := { dst := none, op := Op.store 28 (Operand.tmp 8) (Operand.tmp 31), type := 0, pos := _, after := _, guard := none }) rfl (fun K hK => ?_) AllReadyH.nil)
      obtain ⟨q, q0, q1, q2, q3, q4, q5, qz⟩ := NO_6.out.1
      simp only at q0 q1 q2 q3 q4 q5
      go_simp
      refine hK.out _ _ (below_sixN hS NO_6.out.2 _ _ _ _ _ _) (fun hS => ?_)
      clear hK K
      refine wpAnyH_take (i := 14) (oi := { dst := some 9, op := Op.assign (Operand.tmp 32), type := 31, pos := _, after := _, guard := none }) (v := .int .i64 y) rfl (by kernel_rfl) (by kernel_rfl) (by kernel_rfl) (fun _ _ _ h => h) (Or.inl ⟨by rfl, fun u hu => by go_simp⟩) hS ?_
      simp only [Act.put, List.setIfInBounds_toArray, List.set_cons_zero, List.set_cons_succ]
      refine wpAnyH_done (by kernel_rfl) ?_ _
      clear q q0 q1 q2 q3 q4 q5 qz
      go_wp2_with fail
      go_meet
      case rel =>
        exact ⟨_, _, _, _, rfl, rfl, NO_6.out.1.store r (.slice ra6 r.kids.length rc6), RE_6.out.1, RE_6.out.2.store _ _ _ _ _ _, hS⟩
  case rest =>
    obtain ⟨N1, a1, c1, f1, rfl, rfl, n1, hc1, hd1, hb1⟩ := hcut
    have G1 : Hid (MNW w sp lb wc ∧ Nod N1 r (.slice a1 r.kids.length c1) wc ∧ Dn wc f1 a1 r.kids) := ⟨F3.out.below hb1, n1, hd1⟩
    clear n1 hc1 hd1 hb1 F3 RL MB U
    by_cases hy : y = 4
    · subst hy
      go_wp2_with fail
      go_ret
      exact ⟨rfl, G1.out.1.old⟩
    · obtain ⟨rfl, hr, hln⟩ := Y.out.resolve_left hy
      have ER : Hid (bareD r = bareD (listD (around sp lb l))) := by rw [hr]; exact bareD_twice _
      clear hr hy Y
      go_wp2_with fail
      refine (own_any lS sp lb _ _ _ G1.out.1.c0 G1.out.1.c1).mono ?_
      rintro e v3 ⟨rfl, hb⟩
      have G2 : Hid (MNW w sp lb v3 ∧ Nod N1 r (.slice a1 r.kids.length c1) v3 ∧ Dn v3 f1 a1 r.kids ∧ Dn v3 fd a l) := ⟨G1.out.1.below hb, G1.out.2.1.after hb, G1.out.2.2.lift hb, HD.out.lift (G1.out.1.below hb).old⟩
      have R0 := hidd (RowD.one v3 (ownS sp lb lS) rfl (by show lS.size ≤ maxLen; decide))
      clear hb G1 HD
      unfold dv
      go_wp2_with fail
      go_loopw [11, 43] (fun v i wr => ∃ (j : Nat) (es : List (Dat × Option Addr × Nat)), j ≤ l.length ∧ i = .int .i64 j ∧ Hid (Below v3.heap.size v3 wr ∧ RowD v3.heap.size v es wr ∧ es.map (·.1) = around sp lb (l.take j))) (fun _ i _ => l.length - (intOf i).toNat)
      case atStart => exact ⟨0, _, Nat.zero_le _, rfl, (Below.refl _ _).alloc (Nat.le_refl _) _, R0.out, rfl⟩
      case round =>
        clear R0
        obtain ⟨j, es, hj, rfl, HR⟩ := hrel
        have HES : Hid (es.length = j + 1) := by
          have := congrArg List.length HR.out.2.2
          rw [List.length_map, around, List.length_cons, List.length_map, List.length_take] at this
          show _ = _
          omega
        by_cases hlt : j < l.length
        · obtain ⟨kid, hkid⟩ : ∃ kid, l[j]? = some kid := ⟨l[j], List.getElem?_eq_getElem hlt⟩
          have hne : l ≠ [] := by intro e; rw [e] at hlt; simp at hlt
          obtain ⟨g', b, o, hg, ha, hbB, hall⟩ := G2.out.2.2.2.at hne
          subst ha
          obtain ⟨a', cap', k0, k1, k2, k3, k4, k5, hkn, hkc, hkk⟩ := hall j kid hkid
          have hc : ∀ q, wr.cell? ⟨b, q, none⟩ = v3.cell? ⟨b, q, none⟩ := fun q => HR.out.1.cell (p := ⟨b, q, none⟩) hbB
          have j0 := (hc _).trans k0
          have j1 := (hc _).trans k1
          have j2 := (hc _).trans k2
          have j3 := (hc _).trans k3
          have j4 := (hc _).trans k4
          have j5 := (hc _).trans k5
          have TK : Hid (around sp lb (l.take (j + 1)) = around sp lb (l.take j) ++ [listD [ownS sp lb gS, kid]]) := by
            show _ = _
            rw [around, around, List.take_add_one, hkid]
            simp [ownS]
          have KN : Hid (kid.name.size ≤ maxLen ∧ kid.kids.length ≤ cap' ∧ Dn v3 g' a' kid.kids) := ⟨hkn, hkc, hkk⟩
          clear k0 k1 k2 k3 k4 k5 hall hkk hkid hc hg hkn hkc
          have ba : Below wr.heap.size wr (wr.alloc (.cells #[.int .i64 kid.kind, .int .i64 kid.n, .string kid.name, .int .i64 kid.stamp, .int .i64 kid.lib, .slice a' kid.kids.length cap'] 28)) := (Below.refl _ _).alloc (Nat.le_refl _) _
          have RW := hidd (HR.out.2.1.below ba)
          have KX := hidd (Nod.made wr kid (.slice a' kid.kids.length cap'))
          have BV := hidd (HR.out.1.trans (ba.mono HR.out.1.size))
          have OL : Hid (∀ k, u11.ownBlock = some k → k ≠ wr.heap.size ∧ v3.heap.size ≤ k) := fun k hk => ⟨by have := (HR.out.2.1.own.lt k hk).2; omega, (HR.out.2.1.own.lt k hk).1⟩
          have HM := hidd HR.out.2.2
          clear ba HR
          go_upto_region 12 with fail
          generalize wr.alloc (.cells #[.int .i64 kid.kind, .int .i64 kid.n, .string kid.name, .int .i64 kid.stamp, .int .i64 kid.lib, .slice a' kid.kids.length cap'] 28) = W0 at RW KX BV ⊢
          generalize wr.heap.size = M at KX OL ⊢
          obtain ⟨i0, hinf, hz0, hz1, hz2⟩ := info_parts infoDat
          have RW_0 : Hid (RowD v3.heap.size u11 es W0.drew) := RW.out.below (Below.drew (Below.refl _ _))
          clear RW
          refine wp_region_held_drew (S := fun u => SS v3 M kid (.slice a' kid.kids.length cap') u) (by kernel_rfl) (SS.mk (Below.drew BV.out) (KX.out.after (Below.drew (Below.refl _ _)))) (fun hS => ?_)
          refine wpAnyH_take (i := 0) (oi := { dst := some 47, op := Op.move (Operand.tmp 11), type := 26, pos := _, after := _, guard := none }) (v := u11) rfl (by kernel_rfl) (by kernel_rfl) (by kernel_rfl) (fun _ _ _ h => h) (Or.inl ⟨by rfl, fun u hu => by go_simp⟩) hS ?_
          simp only [Act.put, List.setIfInBounds_toArray, List.set_cons_zero, List.set_cons_succ]
          refine wpAnyH_take (i := 1) (oi := { dst := some 48, op := Op.move (Operand.tmp 10), type := 47, pos := _, after := _, guard := none }) (v := .func (.func 22) #[] #[.pointer (some ⟨w.heap.size, 0, none⟩), .pointer (some ⟨w.heap.size + 1, 0, none⟩)]) rfl (by kernel_rfl) (by kernel_rfl) (by kernel_rfl) (fun _ _ _ h => h) (Or.inl ⟨by rfl, fun u hu => by go_simp⟩) hS ?_
          simp only [Act.put, List.setIfInBounds_toArray, List.set_cons_zero, List.set_cons_succ]
          refine wpAnyH_take (i := 3) (oi := { dst := some 50, op := Op.load 28 (Operand.tmp 13), type := 28, pos := _, after := _, guard := none }) (v := .agg #[.int .i64 kid.kind, .int .i64 kid.n, .string kid.name, .int .i64 kid.stamp, .int .i64 kid.lib, .slice a' kid.kids.length cap']) rfl (by kernel_rfl) (by kernel_rfl) (by kernel_rfl) (fun _ _ _ h => h) (Or.inl ⟨by rfl, fun u hu => by (obtain ⟨p, p0, p1, p2, p3, p4, p5, pz⟩ := hu.box; go_simp)⟩) hS ?_
          simp only [Act.put, List.setIfInBounds_toArray, List.set_cons_zero, List.set_cons_succ]
          refine wpAnyH_ready (rs := [2]) (by kernel_rfl) (by simp) (AllReadyH.cons (o := { dst := some 49, op := Op.call { callee := Callee.value (Operand.tmp 48), args := #[Operand.const (Value.string { data := #[103] })], argTypes := #[9] }, type := 28, pos := _, after := _, guard := none }) rfl (fun K hK => ?_) AllReadyH.nil)
          go_simp
          refine Calls.mono (own_any gS sp lb _ _ W0.drew (G2.out.1.below hS.old).c0 (G2.out.1.below hS.old).c1) ?_
          rintro e W1 ⟨rfl, hb1⟩
          have RW_1 : Hid (RowD v3.heap.size u11 es W1) := RW_0.out.below hb1
          have hS1 := hS.trans (hb1.mono hS.size)
          clear hb1
          try unfold dv
          show K _ W1
          refine hK.out _ _ hS1 (fun hS => ?_)
          clear hK K
          refine wpAnyH_ready (rs := [4]) (by kernel_rfl) (by simp) (AllReadyH.cons (o := { dst := some 51, op := Op.buildSlice 26 2 #[(0, Operand.tmp 49), (1, Operand.tmp 50)], type := 26, pos := _, after := _, guard := none }) rfl (fun K hK => ?_) AllReadyH.nil)
          go_simp
          have hb2 : Below W1.heap.size W1 (W1.alloc (.cells #[.int .i64 (ownS sp lb gS).kind, .int .i64 (ownS sp lb gS).n, .string (ownS sp lb gS).name, .int .i64 (ownS sp lb gS).stamp, .int .i64 (ownS sp lb gS).lib, .slice none (ownS sp lb gS).kids.length 0, .int .i64 kid.kind, .int .i64 kid.n, .string kid.name, .int .i64 kid.stamp, .int .i64 kid.lib, .slice a' kid.kids.length cap'] 28)) := (Below.refl _ _).alloc (Nat.le_refl _) _
          have hN2 : (W1.alloc (.cells #[.int .i64 (ownS sp lb gS).kind, .int .i64 (ownS sp lb gS).n, .string (ownS sp lb gS).name, .int .i64 (ownS sp lb gS).stamp, .int .i64 (ownS sp lb gS).lib, .slice none (ownS sp lb gS).kids.length 0, .int .i64 kid.kind, .int .i64 kid.n, .string kid.name, .int .i64 kid.stamp, .int .i64 kid.lib, .slice a' kid.kids.length cap'] 28)).heap[W1.heap.size]? = some (.cells #[.int .i64 (ownS sp lb gS).kind, .int .i64 (ownS sp lb gS).n, .string (ownS sp lb gS).name, .int .i64 (ownS sp lb gS).stamp, .int .i64 (ownS sp lb gS).lib, .slice none (ownS sp lb gS).kids.length 0, .int .i64 kid.kind, .int .i64 kid.n, .string kid.name, .int .i64 kid.stamp, .int .i64 kid.lib, .slice a' kid.kids.length cap'] 28 (0, 0)) ∧ u11.ownBlock ≠ some (W1.heap.size) := ⟨World.alloc_heap_new W1 _, fun e => by have := (RW_1.out.own.lt _ e).2; simp at this⟩
          have hS2 := hS.trans (hb2.mono hS.size)
          change K _ (W1.alloc (.cells #[.int .i64 (ownS sp lb gS).kind, .int .i64 (ownS sp lb gS).n, .string (ownS sp lb gS).name, .int .i64 (ownS sp lb gS).stamp, .int .i64 (ownS sp lb gS).lib, .slice none (ownS sp lb gS).kids.length 0, .int .i64 kid.kind, .int .i64 kid.n, .string kid.name, .int .i64 kid.stamp, .int .i64 kid.lib, .slice a' kid.kids.length cap'] 28))
          generalize W1.alloc (.cells #[.int .i64 (ownS sp lb gS).kind, .int .i64 (ownS sp lb gS).n, .string (ownS sp lb gS).name, .int .i64 (ownS sp lb gS).stamp, .int .i64 (ownS sp lb gS).lib, .slice none (ownS sp lb gS).kids.length 0, .int .i64 kid.kind, .int .i64 kid.n, .string kid.name, .int .i64 kid.stamp, .int .i64 kid.lib, .slice a' kid.kids.length cap'] 28) = W2 at hb2 hN2 hS2 ⊢
          have RW_2 : Hid (RowD v3.heap.size u11 es W2) := RW_1.out.below hb2
          have SB_2 : Hid (W2.heap[W1.heap.size]? = some (.cells #[.int .i64 (ownS sp lb gS).kind, .int .i64 (ownS sp lb gS).n, .string (ownS sp lb gS).name, .int .i64 (ownS sp lb gS).stamp, .int .i64 (ownS sp lb gS).lib, .slice none (ownS sp lb gS).kids.length 0, .int .i64 kid.kind, .int .i64 kid.n, .string kid.name, .int .i64 kid.stamp, .int .i64 kid.lib, .slice a' kid.kids.length cap'] 28 (0, 0)) ∧ u11.ownBlock ≠ some (W1.heap.size)) := hN2
          clear hb2 hN2
          refine hK.out _ _ hS2 (fun hS => ?_)
          clear hK K
          refine wpAnyH_ready (rs := [5]) (by kernel_rfl) (by simp) (AllReadyH.cons (o := { dst := some 52, op := Op.call { callee := Callee.value (Operand.func 19), args := #[Operand.tmp 51], argTypes := #[26] }, type := 28, pos := _, after := _, guard := none }) rfl (fun K hK => ?_) AllReadyH.nil)
          go_simp
          refine Calls.mono (List_any [ownS sp lb gS, kid] (some ⟨W1.heap.size, 0, none⟩) 2 W2) ?_
          rintro e W3 ⟨rfl, hb3⟩
          have RW_3 : Hid (RowD v3.heap.size u11 es W3) := RW_2.out.below hb3
          have SB_3 : Hid (W3.heap[W1.heap.size]? = some (.cells #[.int .i64 (ownS sp lb gS).kind, .int .i64 (ownS sp lb gS).n, .string (ownS sp lb gS).name, .int .i64 (ownS sp lb gS).stamp, .int .i64 (ownS sp lb gS).lib, .slice none (ownS sp lb gS).kids.length 0, .int .i64 kid.kind, .int .i64 kid.n, .string kid.name, .int .i64 kid.stamp, .int .i64 kid.lib, .slice a' kid.kids.length cap'] 28 (0, 0)) ∧ u11.ownBlock ≠ some (W1.heap.size)) := ⟨(hb3.block _ (Array.getElem?_eq_some_iff.1 SB_2.out.1).1).trans SB_2.out.1, SB_2.out.2⟩
          have hS3 := hS.trans (hb3.mono hS.size)
          clear hb3
          try unfold dv
          show K _ W3
          refine hK.out _ _ hS3 (fun hS => ?_)
          clear hK K
          refine wpAnyH_ready (rs := [6]) (by kernel_rfl) (by simp) (AllReadyH.cons (o := { dst := some 53, op := Op.buildSlice 26 1 #[(0, Operand.tmp 52)], type := 26, pos := _, after := _, guard := none }) rfl (fun K hK => ?_) AllReadyH.nil)
          go_simp
          have hb4 : Below W3.heap.size W3 (W3.alloc (.cells #[.int .i64 (listD [ownS sp lb gS, kid]).kind, .int .i64 (listD [ownS sp lb gS, kid]).n, .string (listD [ownS sp lb gS, kid]).name, .int .i64 (listD [ownS sp lb gS, kid]).stamp, .int .i64 (listD [ownS sp lb gS, kid]).lib, .slice (some ⟨W1.heap.size, 0, none⟩) (listD [ownS sp lb gS, kid]).kids.length 2] 28)) := (Below.refl _ _).alloc (Nat.le_refl _) _
          have hN4 : (W3.alloc (.cells #[.int .i64 (listD [ownS sp lb gS, kid]).kind, .int .i64 (listD [ownS sp lb gS, kid]).n, .string (listD [ownS sp lb gS, kid]).name, .int .i64 (listD [ownS sp lb gS, kid]).stamp, .int .i64 (listD [ownS sp lb gS, kid]).lib, .slice (some ⟨W1.heap.size, 0, none⟩) (listD [ownS sp lb gS, kid]).kids.length 2] 28)).heap[W3.heap.size]? = some (.cells #[.int .i64 (listD [ownS sp lb gS, kid]).kind, .int .i64 (listD [ownS sp lb gS, kid]).n, .string (listD [ownS sp lb gS, kid]).name, .int .i64 (listD [ownS sp lb gS, kid]).stamp, .int .i64 (listD [ownS sp lb gS, kid]).lib, .slice (some ⟨W1.heap.size, 0, none⟩) (listD [ownS sp lb gS, kid]).kids.length 2] 28 (0, 0)) := World.alloc_heap_new W3 _
          have hS4 := hS.trans (hb4.mono hS.size)
          change K _ (W3.alloc (.cells #[.int .i64 (listD [ownS sp lb gS, kid]).kind, .int .i64 (listD [ownS sp lb gS, kid]).n, .string (listD [ownS sp lb gS, kid]).name, .int .i64 (listD [ownS sp lb gS, kid]).stamp, .int .i64 (listD [ownS sp lb gS, kid]).lib, .slice (some ⟨W1.heap.size, 0, none⟩) (listD [ownS sp lb gS, kid]).kids.length 2] 28))
          generalize W3.alloc (.cells #[.int .i64 (listD [ownS sp lb gS, kid]).kind, .int .i64 (listD [ownS sp lb gS, kid]).n, .string (listD [ownS sp lb gS, kid]).name, .int .i64 (listD [ownS sp lb gS, kid]).stamp, .int .i64 (listD [ownS sp lb gS, kid]).lib, .slice (some ⟨W1.heap.size, 0, none⟩) (listD [ownS sp lb gS, kid]).kids.length 2] 28) = W4 at hb4 hN4 hS4 ⊢
          have RW_4 : Hid (RowD v3.heap.size u11 es W4) := RW_3.out.below hb4
          have SB_4 : Hid (W4.heap[W1.heap.size]? = some (.cells #[.int .i64 (ownS sp lb gS).kind, .int .i64 (ownS sp lb gS).n, .string (ownS sp lb gS).name, .int .i64 (ownS sp lb gS).stamp, .int .i64 (ownS sp lb gS).lib, .slice none (ownS sp lb gS).kids.length 0, .int .i64 kid.kind, .int .i64 kid.n, .string kid.name, .int .i64 kid.stamp, .int .i64 kid.lib, .slice a' kid.kids.length cap'] 28 (0, 0)) ∧ u11.ownBlock ≠ some (W1.heap.size)) := ⟨(hb4.block _ (Array.getElem?_eq_some_iff.1 SB_3.out.1).1).trans SB_3.out.1, SB_3.out.2⟩
          have SA_4 : Hid (W4.heap[W3.heap.size]? = some (.cells #[.int .i64 (listD [ownS sp lb gS, kid]).kind, .int .i64 (listD [ownS sp lb gS, kid]).n, .string (listD [ownS sp lb gS, kid]).name, .int .i64 (listD [ownS sp lb gS, kid]).stamp, .int .i64 (listD [ownS sp lb gS, kid]).lib, .slice (some ⟨W1.heap.size, 0, none⟩) (listD [ownS sp lb gS, kid]).kids.length 2] 28 (0, 0))) := hN4
          clear hb4 hN4
          refine hK.out _ _ hS4 (fun hS => ?_)
          clear hK K
          refine wpAnyH_ready (rs := [7]) (by kernel_rfl) (by simp) (AllReadyH.cons (o := { dst := some 54, op := Op.call { callee := Callee.builtin Builtin.append, args := #[Operand.tmp 47, Operand.tmp 53], argTypes := #[26, 26] }, type := 26, pos := _, after := _, guard := none }) rfl (fun K hK => ?_) AllReadyH.nil)
          refine step_append_lies _ rfl (.tmp 47) (.tmp 53) 26 rfl v3.heap.size 28 i0 _ 6 72 Tryz.underlying26 hinf hz0 hz1 hz2 rfl (by decide) u11 es.length (flat es) rfl (by exact RW_4.out.own) ⟨W3.heap.size, 0, none⟩ 1 1 [.int .i64 (listD [ownS sp lb gS, kid]).kind, .int .i64 (listD [ownS sp lb gS, kid]).n, .string (listD [ownS sp lb gS, kid]).name, .int .i64 (listD [ownS sp lb gS, kid]).stamp, .int .i64 (listD [ownS sp lb gS, kid]).lib, .slice (some ⟨W1.heap.size, 0, none⟩) (listD [ownS sp lb gS, kid]).kids.length 2] rfl rfl (fun j u hu => World.news_of_block SA_4.out j u hu) (by intro u hu; simp at hu; rcases hu with rfl | rfl | rfl | rfl | rfl | rfl <;> rfl) (by decide) (by have := HES.out; unfold maxLen; omega) (by have := HES.out; omega) hS.old.size _ rfl ?_
          intro g5 gc5 W5 hown5 hg5 hat5 hlt5
          have RW_5 : Hid (RowD v3.heap.size (.slice (some ⟨g5, 0, none⟩) (es.length + 1) gc5) (es ++ [((listD [ownS sp lb gS, kid]), some ⟨W1.heap.size, 0, none⟩, 2)]) W5) := by
            refine RW_4.out.more (Below.refl _ _) ?_ (by simpa [flat] using hown5) hg5 (by rcases hat5 with e | e; exact Or.inl e.symm; exact Or.inr (by rw [e]; rfl))
            intro e he
            simp at he
            subst he
            refine ⟨Nat.zero_le _, Nat.le_refl 2, g' + 1, Dc.row [((ownS sp lb gS), none, 0), (kid, a', cap')] SB_4.out.1 ⟨(Array.getElem?_eq_some_iff.1 SB_4.out.1).1, fun e => SB_4.out.2 e.symm⟩ (by simp) ?_⟩
            intro e he
            simp at he
            rcases he with rfl | rfl
            · exact ⟨by show gS.size ≤ maxLen; decide, Nat.le_refl 0, Dc.nil _ _ _ _⟩
            · exact ⟨KN.out.1, KN.out.2.1, Dc.stay (fun k hk => hS.old.block k hk) (fun k hk => ⟨Nat.lt_of_lt_of_le hk hS.old.size, fun e => by have := (OL.out k e.symm).2; omega⟩) _ _ _ KN.out.2.2⟩
          have hS5 : SS v3 M kid (.slice a' kid.kids.length cap') W5 := ⟨hS.old.grown hg5 hS.old.size (fun k hk => (OL.out k hk).2), hS.box.grown hg5 (fun e => (OL.out M e.symm).1 rfl)⟩
          clear hown5 hg5 hat5 hlt5
          show K _ W5
          refine hK.out _ _ hS5 (fun hS => ?_)
          clear hK K
          refine wpAnyH_take (i := 8) (oi := { dst := some 11, op := Op.assign (Operand.tmp 54), type := 26, pos := _, after := _, guard := none }) (v := .slice (some ⟨g5, 0, none⟩) (es.length + 1) gc5) rfl (by kernel_rfl) (by kernel_rfl) (by kernel_rfl) (fun _ _ _ h => h) (Or.inl ⟨by rfl, fun u hu => by go_simp⟩) hS ?_
          simp only [Act.put, List.setIfInBounds_toArray, List.set_cons_zero, List.set_cons_succ]
          refine wpAnyH_done (by kernel_rfl) ?_ _
          go_wp2_with fail
          go_roundw
          case rel =>
            refine ⟨j + 1, _, by omega, by go_num, hS.old, RW_5.out, ?_⟩
            rw [TK.out, List.map_append, HM.out]
            rfl
          case measure => simp [intOf]; omega
        · obtain rfl : j = l.length := by omega
          have e2 := HR.out.2.2
          rw [List.take_length] at e2
          obtain ⟨ao, cp, f', hv, hcp, hdc⟩ := HR.out.2.1.lie (by have := HES.out; omega)
          rw [e2] at hv hcp hdc
          subst hv
          have N2 := hidd (G2.out.2.1.after HR.out.1)
          have D1 : Hid (Dn wr f1 a1 r.kids) := G2.out.2.2.1.lift HR.out.1
          have D2 : Hid (Dn wr f' ao (around sp lb l)) := hdc
          have BW := hidd (G2.out.1.below HR.out.1).old
          clear hdc e2 HR
          go_upto_region 14 with fail
          obtain ⟨x, x0, x1, x2, x3, x4, x5, xz⟩ := N2.out
          clear N2
          refine wp_region_held_drew (S := fun u => Below wr.heap.size wr u) (by kernel_rfl) (Below.drew (Below.refl _ _)) (fun hS => ?_)
          refine wpAnyH_take (i := 0) (oi := { dst := some 56, op := Op.load 28 (Operand.tmp 8), type := 28, pos := _, after := _, guard := none }) (v := .agg #[.int .i64 r.kind, .int .i64 r.n, .string r.name, .int .i64 r.stamp, .int .i64 r.lib, .slice a1 r.kids.length c1]) rfl (by kernel_rfl) (by kernel_rfl) (by kernel_rfl) (fun _ _ _ h => h) (Or.inl ⟨by rfl, fun u hu => by (have z0 := (hu.cell (p := ⟨N1, 0, none⟩) x).trans x0; have z1 := (hu.cell (p := ⟨N1, 1, none⟩) x).trans x1; have z2 := (hu.cell (p := ⟨N1, 2, none⟩) x).trans x2; have z3 := (hu.cell (p := ⟨N1, 3, none⟩) x).trans x3; have z4 := (hu.cell (p := ⟨N1, 4, none⟩) x).trans x4; have z5 := (hu.cell (p := ⟨N1, 5, none⟩) x).trans x5; go_simp)⟩) hS ?_
          simp only [Act.put, List.setIfInBounds_toArray, List.set_cons_zero, List.set_cons_succ]
          refine wpAnyH_take (i := 1) (oi := { dst := some 57, op := Op.move (Operand.tmp 11), type := 26, pos := _, after := _, guard := none }) (v := .slice ao (around sp lb l).length cp) rfl (by kernel_rfl) (by kernel_rfl) (by kernel_rfl) (fun _ _ _ h => h) (Or.inl ⟨by rfl, fun u hu => by go_simp⟩) hS ?_
          simp only [Act.put, List.setIfInBounds_toArray, List.set_cons_zero, List.set_cons_succ]
          refine wpAnyH_ready (rs := [2]) (by kernel_rfl) (by simp) (AllReadyH.cons (o := { dst := some 58, op := Op.call { callee := Callee.value (Operand.func 19), args := #[Operand.tmp 57], argTypes := #[26] }, type := 28, pos := _, after := _, guard := none }) rfl (fun K hK => ?_) AllReadyH.nil)
          go_simp
          refine Calls.mono (List_any (around sp lb l) ao cp wr.drew) ?_
          rintro e W1 ⟨rfl, hb1⟩
          have hS1 := hS.trans (hb1.mono hS.size)
          clear hb1
          try unfold dv
          show K _ W1
          refine hK.out _ _ hS1 (fun hS => ?_)
          clear hK K
          refine wpAnyH_ready (rs := [3]) (by kernel_rfl) (by simp) (AllReadyH.cons (o := { dst := some 59, op := Op.call { callee := Callee.value (Operand.func 12), args := #[Operand.tmp 56, Operand.tmp 58], argTypes := #[28, 28] }, type := 4, pos := _, after := _, guard := none }) rfl (fun K hK => ?_) AllReadyH.nil)
          go_simp
          refine Calls.mono (Equal_here _ _ r (listD (around sp lb l)) a1 ao c1 cp W1 (D1.out.lift hS) (D2.out.lift hS) ER.out) ?_
          rintro e W2 ⟨rfl, hb2⟩
          have hS2 := hS.trans (hb2.mono hS.size)
          clear hb2
          try unfold dv
          show K _ W2
          refine hK.out _ _ hS2 (fun hS => ?_)
          clear hK K
          refine wpAnyH_take (i := 4) (oi := { dst := some 6, op := Op.assign (Operand.tmp 59), type := 4, pos := _, after := _, guard := none }) (v := .bool true) rfl (by kernel_rfl) (by kernel_rfl) (by kernel_rfl) (fun _ _ _ h => h) (Or.inl ⟨by rfl, fun u hu => by go_simp⟩) hS ?_
          simp only [Act.put, List.setIfInBounds_toArray, List.set_cons_zero, List.set_cons_succ]
          refine wpAnyH_done (by kernel_rfl) ?_ _
          go_wp2_with fail
          go_ret
          exact ⟨rfl, BW.out.trans (hS.mono BW.out.size)⟩
end Go.Proofs.YtceapbliljiplaeGreatDoor
