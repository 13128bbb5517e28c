/- Chapter 10: a global, added to the table. -/
import Derived.Test.YtdnbingddbakaaaDoorK22
namespace Go.Proofs.YtdnbingddbakaaaDoor
set_option linter.unusedVariables false
set_option linter.unusedSimpArgs false
open Go.RowKit Go.Maps Go.WideMaps

theorem ret31 {ts : Array Value} {W : World} {N : Nat} {x0 x1 : Value} (h : W.heap[N]? = some (.cells #[x0, x1] 75 (0, 0))) (h4 : ts[2]? = some (.pointer (some ⟨N, 0, none⟩))) :
    (results Tryd.f31 ts).run Tryd.prog W = .ok (.agg #[x0, x1]) W := by
  have cc : ∀ q, W.cell? ⟨N, q, none⟩ = #[x0, x1][q]? := fun q => by simp [World.cell?, h]
  have q0 := cc 0
  have q1 := cc 1
  simp at q0 q1
  simp [results, Tryd.results31, go_sem, h4, q0, q1]
theorem two_at0 {C : Nat} {u : World} {z0 z1 : Value} {t : TypeId} (h : u.heap[C]? = some (.cells #[z0, z1] t (0, 0))) (x : Value) : (u.setCell ⟨C, 0, none⟩ x).heap[C]? = some (.cells #[x, z1] t (0, 0)) := by
  have h1 := heap_setCell_same u C 0 _ t x h
  rw [h1]; rfl
theorem two_at1 {C : Nat} {u : World} {z0 z1 : Value} {t : TypeId} (h : u.heap[C]? = some (.cells #[z0, z1] t (0, 0))) (x : Value) : (u.setCell ⟨C, 1, none⟩ x).heap[C]? = some (.cells #[z0, x] t (0, 0)) := by
  have h1 := heap_setCell_same u C 1 _ t x h
  rw [h1]; rfl
set_option maxRecDepth 100000 in
set_option maxHeartbeats 1600000 in
theorem globalOf_any (b o : Nat) (s : Gl) (w : World) (hb : b < w.heap.size) (c3 : w.cell? ⟨b, o + 3, none⟩ = some (.string s.1)) (c4 : w.cell? ⟨b, o + 4, none⟩ = some (.string s.2)) :
    Calls Tryd.prog 31 #[.pointer (some ⟨b, o, none⟩)] w fun e w' => e = .returned (.agg #[.string s.1, .string s.2]) ∧ Below w.heap.size w w' := by
  have hz := World.alloc_heap_new w (.cells #[.string ⟨#[]⟩, .string ⟨#[]⟩] 75)
  have ba := (Below.refl w.heap.size w).alloc (Nat.le_refl _) (.cells #[.string ⟨#[]⟩, .string ⟨#[]⟩] 75)
  have HZ := hidd hz
  have HB := hidd ba
  have d3 := (ba.cell (p := ⟨b, o + 3, none⟩) hb).trans c3
  have d4 := (ba.cell (p := ⟨b, o + 4, none⟩) hb).trans c4
  have n0 : (w.alloc (.cells #[.string ⟨#[]⟩, .string ⟨#[]⟩] 75)).cell? ⟨w.heap.size, 0, none⟩ = some (.string ⟨#[]⟩) := (cellO hz).trans rfl
  have n1 : (w.alloc (.cells #[.string ⟨#[]⟩, .string ⟨#[]⟩] 75)).cell? ⟨w.heap.size, 1, none⟩ = some (.string ⟨#[]⟩) := (cellO hz).trans rfl
  have z0 := looseO (q := 0) hz
  have z1 := looseO (q := 1) hz
  clear ba hz c3 c4
  go_enter Tryd.func31, Tryd.ntmps31
  go_upto_region 1 with fail
  generalize w.alloc (.cells #[.string ⟨#[]⟩, .string ⟨#[]⟩] 75) = V at HZ HB d3 d4 n0 n1 z0 z1 ⊢
  go_region
  all_goals
    go_wp2_with fail
    exact bodyPost_ret (ret31 (two_at1 (two_at0 (u := V.drew) HZ.out _) _) rfl) rfl ⟨rfl, ((HB.out.drew).setCell (p := ⟨w.heap.size, 0, none⟩) (Nat.le_refl _) _).setCell (p := ⟨w.heap.size, 1, none⟩) (Nat.le_refl _) _⟩
theorem infoBind : (Tryd.prog.info? 40).map (fun i => (i.zero, i.size, i.bytes)) = some (some (.agg #[.string ⟨#[]⟩, .string ⟨#[]⟩, .string ⟨#[]⟩]), 3, 48) := by kernel_rfl
theorem bone (s : Gl) : ∀ u ∈ bcells s, u.oneCell' = true := by
  intro u hu
  simp [bcells] at hu
  rcases hu with rfl | rfl | rfl <;> rfl
theorem rowSlice {B e size n : Nat} {v : Value} {xs : List Value} {w : World} (h : w.ownsRow B e size v n xs) : ∃ a n cap, v = .slice a n cap := by
  rcases h.2 with ⟨rfl, _⟩ | ⟨g, cap, cur, rfl, _⟩
  · exact ⟨none, 0, 0, rfl⟩
  · exact ⟨some ⟨g, 0, none⟩, _, cap, rfl⟩
/-- The table, a global marked whose row is not written yet. -/
structure TM (B t m : Nat) (gs : List Gl) (s : Gl) (bv : Value) (n : Nat) (w : World) : Prop where
  tb : w.heap[t]? = some (.cells #[bv, .map (some m)] 55 (0, 0))
  mp : MapG m (gs.length + 1) (idxG (gs ++ [s])) w
  row : w.ownsRow B 40 3 bv n (gs.flatMap bcells)
  hn : n = gs.length
  bt : B ≤ t
  bm : B ≤ m
  sm : ∀ s ∈ gs, smG s
  ss : smG s
theorem TM.below {B t m gs s bv n w w'} (h : TM B t m gs s bv n w) (hb : Below w.heap.size w w') : TM B t m gs s bv n w' :=
  ⟨(hb.block _ (Array.getElem?_eq_some_iff.1 h.tb).1).trans h.tb, h.mp.kept (hb.block _ h.mp.lt), h.row.kept (row := none) ⟨hb.os, hb.tape, hb.output, hb.size, fun k h1 _ => hb.block k h1⟩ (by cases hv : bv.ownBlock <;> simp), h.hn, h.bt, h.bm, h.sm, h.ss⟩
theorem TM.blk {B t m gs s bv n w} (h : TM B t m gs s bv n w) {g : Nat} (hg : bv.ownBlock = some g) : ∃ cs, w.heap[g]? = some (.cells cs 40 (0, 0)) := by
  rcases h.row.2 with ⟨rfl, _⟩ | ⟨g', cap, cur, rfl, _, hg', _⟩
  · simp [Value.ownBlock] at hg
  · simp [Value.ownBlock] at hg
    subst hg
    exact ⟨_, hg'⟩
theorem TM.ot {B t m gs s bv n w} (h : TM B t m gs s bv n w) : bv.ownBlock ≠ some t := fun e => by
  obtain ⟨cs, hc⟩ := h.blk e
  have := h.tb
  rw [hc] at this
  simp at this
theorem TM.om {B t m gs s bv n w} (h : TM B t m gs s bv n w) : bv.ownBlock ≠ some m := fun e => by
  obtain ⟨cs, hc⟩ := h.blk e
  obtain ⟨es, c, hm⟩ := h.mp.map
  rw [hc] at hm
  simp at hm
theorem TM.ok {B t m gs s bv n w} (h : TM B t m gs s bv n w) {kb : Nat} {cs : Array Value} (hk : w.heap[kb]? = some (.cells cs 75 (0, 0))) : bv.ownBlock ≠ some kb := fun e => by
  obtain ⟨c2, hc⟩ := h.blk e
  rw [hc] at hk
  simp at hk
theorem TM.push {B t m gs s bv n w} (h : TM B t m gs s bv n w) {bv' : Value} {w4 w0 : World} (hown : w4.ownsRow B 40 3 bv' (n + 1) (gs.flatMap bcells ++ bcells s)) (hg : w.grownBy w4 bv.ownBlock) (hf : Ty w0 w ∧ Below B w0 w) :
    TB B t m (gs ++ [s]) bv' (w4.setCell ⟨t, 0, none⟩ bv') ∧ Ty w0 (w4.setCell ⟨t, 0, none⟩ bv') ∧ Below B w0 (w4.setCell ⟨t, 0, none⟩ bv') := by
  have ht := (Array.getElem?_eq_some_iff.1 h.tb).1
  have hm := h.mp.lt
  have tm : t ≠ m := fun e => by
    obtain ⟨es, c, hm⟩ := h.mp.map
    have := h.tb
    rw [e, hm] at this
    simp at this
  have h4 : w4.heap[t]? = some (.cells #[bv, .map (some m)] 55 (0, 0)) := (hg.block t ht (fun e => h.ot e.symm)).trans h.tb
  have k : Keep t w4 (w4.setCell ⟨t, 0, none⟩ bv') := (Keep.refl _ _).setCell _ rfl _
  have nr : bv'.ownBlock ≠ some t := fun e => by
    rcases hown.2 with ⟨rfl, _⟩ | ⟨g', cap, cur, rfl, _, hg', _⟩
    · simp [Value.ownBlock] at e
    · simp [Value.ownBlock] at e
      rw [e, h4] at hg'
      simp at hg'
  have hB : B ≤ w.heap.size := Nat.le_trans h.bt (Nat.le_of_lt ht)
  refine ⟨⟨two_at0 h4 _, ?_, ?_, h.bt, h.bm, ?_⟩, ?_, ?_⟩
  · have e : (gs ++ [s]).length = gs.length + 1 := by simp
    rw [e]
    exact (h.mp.kept (hg.block m hm (fun e => h.om e.symm))).kept (Below.heap_setCell _ _ _ _ (fun e => tm e.symm))
  · rw [List.length_append, List.length_singleton, ← h.hn, List.flatMap_append, List.flatMap_cons, List.flatMap_nil, List.append_nil]
    exact hown.kept k (Or.inr nr)
  · intro x hx
    rcases List.mem_append.1 hx with hx | hx
    · exact h.sm x hx
    · rw [List.mem_singleton] at hx; subst hx; exact h.ss
  · intro i cs ty hi h1 h2
    have hi2 := hf.1 i cs ty hi h1 h2
    have hne : some i ≠ bv.ownBlock := fun e => by
      obtain ⟨c2, hc⟩ := h.blk e.symm
      rw [hc] at hi2
      simp at hi2
      exact h2 hi2.2.symm
    have hnt : i ≠ t := fun e => by
      rw [e, h.tb] at hi2
      simp at hi2
      exact h1 hi2.2.symm
    exact (Below.heap_setCell _ _ _ _ hnt).trans ((hg.block i (Array.getElem?_eq_some_iff.1 hi2).1 hne).trans hi2)
  · refine hf.2.trans (((Below.refl B w).grown hg hB (fun j hj => (h.row.lt j hj).1)).trans (k.toBelow h.bt (Nat.le_trans hB hg.size)))
set_option maxRecDepth 100000 in
set_option maxHeartbeats 6400000 in
theorem add_any (B t m : Nat) (gs : List Gl) (bv : Value) (s : Gl) (w : World) (h : TB B t m gs bv w) (hs : smG s) (hle : gs.length ≤ 200000000) (hs1 : s.1.size ≤ 281474976710656) (hs2 : s.2.size ≤ 281474976710656) :
    Calls Tryd.prog 30 #[.pointer (some ⟨t, 0, none⟩), .agg #[.string s.1, .string s.2]] w fun e w' => e = .returned (.tuple #[]) ∧ (∃ bv', TB B t m (addG gs s) bv' w') ∧ Ty w w' ∧ Below B w w' := by
  have hba := (Below.refl w.heap.size w).alloc (Nat.le_refl _) (.cells #[.string s.1, .string s.2] 75)
  have hB : B ≤ w.heap.size := Nat.le_trans h.bt (Nat.le_of_lt (Array.getElem?_eq_some_iff.1 h.tb).1)
  have HT := hidd (h.below hba)
  have HK := hidd (World.alloc_heap_new w (.cells #[.string s.1, .string s.2] 75))
  have HF : Hid (Ty w (w.alloc (.cells #[.string s.1, .string s.2] 75)) ∧ Below B w (w.alloc (.cells #[.string s.1, .string s.2] 75))) := ⟨Ty.below hba, hba.mono hB⟩
  have HS1 := hidd hs1
  have HS2 := hidd hs2
  have HSM := hidd hs
  obtain ⟨ba, bc, hbv, hbc⟩ := h.slice
  subst hbv
  have HLE := hidd hle
  clear hba h hle hs1 hs2 hs
  obtain ⟨n, hn⟩ : ∃ n, n = gs.length := ⟨_, rfl⟩
  rw [← hn] at HT HLE hbc
  have HN := hidd hn
  clear hn
  obtain ⟨ag, hag⟩ : ∃ x, x = addG gs s := ⟨_, rfl⟩
  rw [← hag]
  have ADG : Hid (ag = if (idxG gs s).isSome then gs else gs ++ [s]) := hag
  clear hag
  go_enter Tryd.func30, Tryd.ntmps30
  go_upto_region 1 with fail
  generalize w.alloc (.cells #[.string s.1, .string s.2] 75) = W0 at HT HK HF ⊢
  obtain ⟨kb, hkb⟩ : ∃ k, k = w.heap.size := ⟨_, rfl⟩
  rw [← hkb] at HK ⊢
  clear hkb
  have k0 : W0.cell? ⟨kb, 0, none⟩ = some (.string s.1) := (cellO HK.out).trans rfl
  have k1 : W0.cell? ⟨kb, 1, none⟩ = some (.string s.2) := (cellO HK.out).trans rfl
  have t1 : W0.cell? ⟨t, 1, none⟩ = some (.map (some m)) := (cellO HT.out.tb).trans rfl
  have LK := (HT.out.mp.kept (w' := W0.drew) rfl).look s HSM.out
  cases hix : idxG gs s with
  | some i =>
    rw [hix] at LK ADG
    simp only [Option.isSome_some, Option.getD_some, if_true] at LK ADG
    clear hix
    go_region
    all_goals
      go_wp2_with fail
      refine bodyPost_ret (v := .tuple #[]) (by simp [results, Tryd.results30, go_sem]) rfl ?_
      exact ⟨rfl, ⟨_, by rw [ADG.out]; exact HT.out.below (Below.drew (Below.refl _ _))⟩, HF.out.1.trans (Ty.below (Below.drew (Below.refl _ _))), HF.out.2.trans (Below.drew (Below.refl _ _))⟩
  | none =>
    rw [hix] at LK ADG
    simp only [Option.isSome_none, Option.getD_none] at LK ADG
    have hag := ADG.out
    rw [if_neg (by simp)] at hag
    subst hag
    have HIX := hidd hix
    clear hix ADG
    go_cut [4, 5] from 6 to 14 (fun s4 s5 wx => s4 = .int .i64 0 ∧ s5 = .bool false ∧ wx = W0.drew)
    case first =>
      go_region
      all_goals
        go_wp2_with fail
        go_meet
        case rel => exact ⟨rfl, rfl, rfl⟩
    case rest =>
    obtain ⟨rfl, rfl, hwc⟩ := hcut
    have HT2 := hidd (HT.out.below (Below.drew (Below.refl _ _)))
    have HK2 : Hid (W0.drew.heap[kb]? = some (.cells #[.string s.1, .string s.2] 75 (0, 0))) := HK.out
    have HF2 : Hid (Ty w W0.drew ∧ Below B w W0.drew) := ⟨HF.out.1.trans (Ty.below (Below.drew (Below.refl _ _))), HF.out.2.trans (Below.drew (Below.refl _ _))⟩
    rw [← hwc] at HT2 HK2 HF2
    clear HT HK HF LK k0 k1 t1 hwc
    have PUTX := (HT2.out.mp.kept (w' := wc.drew) rfl).put (by have := HLE.out; have := HN.out; unfold maxLen; omega) s HSM.out n (by have := HLE.out; omega)
    obtain ⟨W1, hput, hmp1, hgr⟩ := PUTX
    have PUT := hidd hput
    have T1 : W1.heap[t]? = some (.cells #[.slice ba n bc, .map (some m)] 55 (0, 0)) := (hgr.block t (Array.getElem?_eq_some_iff.1 HT2.out.tb).1 (by simpa using HT2.out.tm)).trans HT2.out.tb
    have K1 : W1.heap[kb]? = some (.cells #[.string s.1, .string s.2] 75 (0, 0)) := (hgr.block kb (Array.getElem?_eq_some_iff.1 HK2.out).1 (by
      intro e
      obtain ⟨es, c, hm⟩ := HT2.out.mp.map
      have := HK2.out
      rw [Option.some.inj e, hm] at this
      simp at this)).trans HK2.out
    have S1 : Hid (W1.heap[kb]? = some (.cells #[.string s.1, .string s.2] 75 (0, 0)) ∧ W1.heap[t]? = some (.cells #[.slice ba n bc, .map (some m)] 55 (0, 0))) := ⟨K1, T1⟩
    have hB0 : B ≤ wc.heap.size := Nat.le_trans hB HF2.out.2.size
    have TB1 : Hid (TM B t m gs s (.slice ba n bc) n W1) := by
      refine ⟨T1, ?_, ?_, HN.out, HT2.out.bt, HT2.out.bm, HT2.out.sm, HSM.out⟩
      · refine hmp1.congr (fun x => ?_)
        rw [idxG_app]
        by_cases e : x = s
        · subst e
          rw [HIX.out, if_pos rfl, if_pos rfl, HN.out]
        · cases idxG gs x with
          | some i => simp [e]
          | none => simp [e]
      · have hr := HT2.out.row
        rw [← HN.out] at hr
        exact World.ownsRow.kept (w := wc.drew) hr hgr (Or.inr HT2.out.own.2)
    have TY1 : Hid (Ty w W1) := fun i cs ty hi h1 h2 => by
      have hi2 := HF2.out.1 i cs ty hi h1 h2
      exact (hgr.block i (Array.getElem?_eq_some_iff.1 hi2).1 (fun e => by
        obtain ⟨es, c, hm⟩ := HT2.out.mp.map
        rw [Option.some.inj e, hm] at hi2
        simp at hi2)).trans hi2
    have BL1 : Hid (Below B w W1) := HF2.out.2.trans ((Below.drew (Below.refl B wc)).trans ((Below.refl B wc.drew).grown hgr hB0 (fun j hj => by simp at hj; subst hj; exact HT2.out.bm)))
    have KB1 := hidd K1
    have SS0 : Hid (wc.drew.heap[kb]? = some (.cells #[.string s.1, .string s.2] 75 (0, 0)) ∧ wc.drew.heap[t]? = some (.cells #[.slice ba n bc, .map (some m)] 55 (0, 0))) := ⟨HK2.out, HT2.out.tb⟩
    clear hput hmp1 hgr T1 K1
    go_upto_region 3 with fail
    go_cut [] from 16 to 25 (fun wx => True ∧ TM B t m gs s (.slice ba n bc) n wx ∧ wx.heap[kb]? = some (.cells #[.string s.1, .string s.2] 75 (0, 0)) ∧ Ty w wx ∧ Below B w wx)
    case first =>
      refine wp_region_held_drew (S := fun u => u.heap[kb]? = some (.cells #[.string s.1, .string s.2] 75 (0, 0)) ∧ u.heap[t]? = some (.cells #[.slice ba n bc, .map (some m)] 55 (0, 0))) (by kernel_rfl) SS0.out (fun hS => ?_)
      refine wpAnyH_take (i := 0) (oi := { dst := some 16, op := Op.move (Operand.tmp 0), type := 67, pos := _, after := _, guard := none }) (v := .pointer (some ⟨t, 0, none⟩)) rfl (by kernel_rfl) (by kernel_rfl) (by kernel_rfl) (fun _ _ _ h => h) (Or.inl ⟨by rfl, fun u hu => by go_simp⟩) hS ?_
      simp only [Act.put, List.setIfInBounds_toArray, List.set_cons_zero, List.set_cons_succ]
      refine wpAnyH_take (i := 1) (oi := { dst := some 17, op := Op.nilCheck (Operand.tmp 16), type := 0, pos := _, after := _, guard := none }) (v := .pointer (some ⟨t, 0, none⟩)) rfl (by kernel_rfl) (by kernel_rfl) (by kernel_rfl) (fun _ _ _ h => h) (Or.inl ⟨by rfl, fun u hu => by go_simp⟩) hS ?_
      simp only [Act.put, List.setIfInBounds_toArray, List.set_cons_zero, List.set_cons_succ]
      refine wpAnyH_take (i := 2) (oi := { dst := some 18, op := Op.fieldAddr 55 (Operand.tmp 17) 1, type := 0, pos := _, after := _, guard := none }) (v := .pointer (some ⟨t, 1, none⟩)) rfl (by kernel_rfl) (by kernel_rfl) (by kernel_rfl) (fun _ _ _ h => h) (Or.inl ⟨by rfl, fun u hu => by go_simp⟩) hS ?_
      simp only [Act.put, List.setIfInBounds_toArray, List.set_cons_zero, List.set_cons_succ]
      refine wpAnyH_take (i := 3) (oi := { dst := some 19, op := Op.load 53 (Operand.tmp 18), type := 53, pos := _, after := _, guard := none }) (v := .map (some m)) rfl (by kernel_rfl) (by kernel_rfl) (by kernel_rfl) (fun _ _ _ h => h) (Or.inl ⟨by rfl, fun u hu => by (have z : u.cell? ⟨t, 1, none⟩ = some (.map (some m)) := (cellO hu.2).trans rfl; go_simp)⟩) hS ?_
      simp only [Act.put, List.setIfInBounds_toArray, List.set_cons_zero, List.set_cons_succ]
      refine wpAnyH_take (i := 4) (oi := { dst := some 20, op := Op.load 75 (Operand.tmp 3), type := 75, pos := _, after := _, guard := none }) (v := .agg #[.string s.1, .string s.2]) rfl (by kernel_rfl) (by kernel_rfl) (by kernel_rfl) (fun _ _ _ h => h) (Or.inl ⟨by rfl, fun u hu => by (have z0 : u.cell? ⟨kb, 0, none⟩ = some (.string s.1) := (cellO hu.1).trans rfl; have z1 : u.cell? ⟨kb, 1, none⟩ = some (.string s.2) := (cellO hu.1).trans rfl; go_simp)⟩) hS ?_
      simp only [Act.put, List.setIfInBounds_toArray, List.set_cons_zero, List.set_cons_succ]
      refine wpAnyH_take (i := 5) (oi := { dst := some 21, op := Op.move (Operand.tmp 0), type := 67, pos := _, after := _, guard := none }) (v := .pointer (some ⟨t, 0, none⟩)) rfl (by kernel_rfl) (by kernel_rfl) (by kernel_rfl) (fun _ _ _ h => h) (Or.inl ⟨by rfl, fun u hu => by go_simp⟩) hS ?_
      simp only [Act.put, List.setIfInBounds_toArray, List.set_cons_zero, List.set_cons_succ]
      refine wpAnyH_take (i := 6) (oi := { dst := some 22, op := Op.nilCheck (Operand.tmp 21), type := 0, pos := _, after := _, guard := none }) (v := .pointer (some ⟨t, 0, none⟩)) rfl (by kernel_rfl) (by kernel_rfl) (by kernel_rfl) (fun _ _ _ h => h) (Or.inl ⟨by rfl, fun u hu => by go_simp⟩) hS ?_
      simp only [Act.put, List.setIfInBounds_toArray, List.set_cons_zero, List.set_cons_succ]
      refine wpAnyH_take (i := 7) (oi := { dst := some 23, op := Op.fieldAddr 55 (Operand.tmp 22) 0, type := 0, pos := _, after := _, guard := none }) (v := .pointer (some ⟨t, 0, none⟩)) rfl (by kernel_rfl) (by kernel_rfl) (by kernel_rfl) (fun _ _ _ h => h) (Or.inl ⟨by rfl, fun u hu => by go_simp⟩) hS ?_
      simp only [Act.put, List.setIfInBounds_toArray, List.set_cons_zero, List.set_cons_succ]
      refine wpAnyH_take (i := 8) (oi := { dst := some 24, op := Op.load 23 (Operand.tmp 23), type := 23, pos := _, after := _, guard := none }) (v := .slice ba n bc) rfl (by kernel_rfl) (by kernel_rfl) (by kernel_rfl) (fun _ _ _ h => h) (Or.inl ⟨by rfl, fun u hu => by (have z : u.cell? ⟨t, 0, none⟩ = some (.slice ba n bc) := (cellO hu.2).trans rfl; go_simp)⟩) hS ?_
      simp only [Act.put, List.setIfInBounds_toArray, List.set_cons_zero, List.set_cons_succ]
      refine wpAnyH_take (i := 9) (oi := { dst := some 25, op := Op.call { callee := Callee.builtin Builtin.len, args := #[Operand.tmp 24], argTypes := #[23] }, type := 3, pos := _, after := _, guard := none }) (v := .int .i64 n) rfl (by kernel_rfl) (by kernel_rfl) (by kernel_rfl) (fun _ _ _ h => h) (Or.inl ⟨by rfl, fun u hu => by go_simp⟩) hS ?_
      simp only [Act.put, List.setIfInBounds_toArray, List.set_cons_zero, List.set_cons_succ]
      refine wpAnyH_ready (rs := [10]) (by kernel_rfl) (by simp) (AllReadyH.cons (o := { dst := none, op := Op.mapUpdate 53 (Operand.tmp 19) (Operand.tmp 20) (Operand.tmp 25), type := 0, pos := _, after := _, guard := none }) rfl (fun K hK => ?_) AllReadyH.nil)
      go_simp
      simp only [PUT.out]
      go_simp
      show K _ W1
      refine hK.out _ _ S1.out (fun hS => ?_)
      clear hK K
      refine wpAnyH_done (by kernel_rfl) ?_ _
      go_wp2_with fail
      go_meet
      case rel => exact ⟨trivial, TB1.out, KB1.out, TY1.out, BL1.out⟩
    case rest =>
    obtain ⟨_, c1, c2, c3, c4⟩ := hcut
    clear HT2 HK2 HF2 S1 TB1 TY1 BL1 KB1 SS0 PUT HIX
    have C_0 : Hid (TM B t m gs s (.slice ba n bc) n wc.drew) := c1.below (Below.drew (Below.refl _ _))
    have F_0 : Hid (Ty w wc.drew ∧ Below B w wc.drew) := ⟨c3.trans (Ty.below (Below.drew (Below.refl _ _))), c4.trans (Below.drew (Below.refl _ _))⟩
    have HKB : Hid (wc.drew.heap[kb]? = some (.cells #[.string s.1, .string s.2] 75 (0, 0))) := c2
    clear c1 c2 c3 c4
    go_upto_region 4 with fail
    refine wp_region_held_drew (S := fun u => u.heap[kb]? = some (.cells #[.string s.1, .string s.2] 75 (0, 0))) (by kernel_rfl) HKB.out (fun hS => ?_)
    refine wpAnyH_take (i := 0) (oi := { dst := some 26, op := Op.move (Operand.tmp 0), type := 67, pos := _, after := _, guard := none }) (v := .pointer (some ⟨t, 0, none⟩)) rfl (by kernel_rfl) (by kernel_rfl) (by kernel_rfl) (fun _ _ _ h => h) (Or.inl ⟨by rfl, fun u hu => by go_simp⟩) hS ?_
    simp only [Act.put, List.setIfInBounds_toArray, List.set_cons_zero, List.set_cons_succ]
    refine wpAnyH_take (i := 1) (oi := { dst := some 27, op := Op.move (Operand.tmp 0), type := 67, pos := _, after := _, guard := none }) (v := .pointer (some ⟨t, 0, none⟩)) rfl (by kernel_rfl) (by kernel_rfl) (by kernel_rfl) (fun _ _ _ h => h) (Or.inl ⟨by rfl, fun u hu => by go_simp⟩) hS ?_
    simp only [Act.put, List.setIfInBounds_toArray, List.set_cons_zero, List.set_cons_succ]
    refine wpAnyH_take (i := 2) (oi := { dst := some 28, op := Op.nilCheck (Operand.tmp 27), type := 0, pos := _, after := _, guard := none }) (v := .pointer (some ⟨t, 0, none⟩)) rfl (by kernel_rfl) (by kernel_rfl) (by kernel_rfl) (fun _ _ _ h => h) (Or.inl ⟨by rfl, fun u hu => by go_simp⟩) hS ?_
    simp only [Act.put, List.setIfInBounds_toArray, List.set_cons_zero, List.set_cons_succ]
    refine wpAnyH_take (i := 3) (oi := { dst := some 29, op := Op.fieldAddr 55 (Operand.tmp 28) 0, type := 0, pos := _, after := _, guard := none }) (v := .pointer (some ⟨t, 0, none⟩)) rfl (by kernel_rfl) (by kernel_rfl) (by kernel_rfl) (fun _ _ _ h => h) (Or.inl ⟨by rfl, fun u hu => by go_simp⟩) hS ?_
    simp only [Act.put, List.setIfInBounds_toArray, List.set_cons_zero, List.set_cons_succ]
    refine wpAnyH_take (i := 5) (oi := { dst := some 31, op := Op.fieldAddr 75 (Operand.tmp 3) 0, type := 0, pos := _, after := _, guard := none }) (v := .pointer (some ⟨kb, 0, none⟩)) rfl (by kernel_rfl) (by kernel_rfl) (by kernel_rfl) (fun _ _ _ h => h) (Or.inl ⟨by rfl, fun u hu => by go_simp⟩) hS ?_
    simp only [Act.put, List.setIfInBounds_toArray, List.set_cons_zero, List.set_cons_succ]
    refine wpAnyH_take (i := 6) (oi := { dst := some 32, op := Op.load 9 (Operand.tmp 31), type := 9, pos := _, after := _, guard := none }) (v := .string s.1) rfl (by kernel_rfl) (by kernel_rfl) (by kernel_rfl) (fun _ _ _ h => h) (Or.inl ⟨by rfl, fun u hu => by (have z : u.cell? ⟨kb, 0, none⟩ = some (.string s.1) := (cellO hu).trans rfl; go_simp)⟩) hS ?_
    simp only [Act.put, List.setIfInBounds_toArray, List.set_cons_zero, List.set_cons_succ]
    refine wpAnyH_take (i := 8) (oi := { dst := some 34, op := Op.fieldAddr 75 (Operand.tmp 3) 1, type := 0, pos := _, after := _, guard := none }) (v := .pointer (some ⟨kb, 1, none⟩)) rfl (by kernel_rfl) (by kernel_rfl) (by kernel_rfl) (fun _ _ _ h => h) (Or.inl ⟨by rfl, fun u hu => by go_simp⟩) hS ?_
    simp only [Act.put, List.setIfInBounds_toArray, List.set_cons_zero, List.set_cons_succ]
    refine wpAnyH_take (i := 9) (oi := { dst := some 35, op := Op.load 9 (Operand.tmp 34), type := 9, pos := _, after := _, guard := none }) (v := .string s.2) rfl (by kernel_rfl) (by kernel_rfl) (by kernel_rfl) (fun _ _ _ h => h) (Or.inl ⟨by rfl, fun u hu => by (have z : u.cell? ⟨kb, 1, none⟩ = some (.string s.2) := (cellO hu).trans rfl; go_simp)⟩) hS ?_
    simp only [Act.put, List.setIfInBounds_toArray, List.set_cons_zero, List.set_cons_succ]
    refine wpAnyH_ready (rs := [4, 7]) (by kernel_rfl) (by simp) (AllReadyH.cons (o := { dst := some 30, op := Op.load 23 (Operand.tmp 29), type := 23, pos := _, after := _, guard := none }) rfl (fun K hK => ?_) (AllReadyH.cons (o := { dst := some 33, op := Op.call { callee := Callee.value (Operand.func 44), args := #[Operand.tmp 32], argTypes := #[9] }, type := 9, pos := _, after := _, guard := none }) rfl (fun K hK => ?_) AllReadyH.nil))
    · have zt : (wc.drew).cell? ⟨t, 0, none⟩ = some (.slice ba n bc) := (cellO C_0.out.tb).trans rfl
      go_simp
      clear zt
      refine hK.out _ _ hS (fun hS => ?_)
      clear hK K
      refine wpAnyH_ready (rs := [7]) (by kernel_rfl) (by simp) (AllReadyH.cons (o := { dst := some 33, op := Op.call { callee := Callee.value (Operand.func 44), args := #[Operand.tmp 32], argTypes := #[9] }, type := 9, pos := _, after := _, guard := none }) rfl (fun K hK => ?_) AllReadyH.nil)
      go_simp
      refine Calls.mono (Clone_any s.1 (wc.drew) HS1.out) ?_
      rintro e V1 ⟨rfl, hb1⟩
      have C_1 := hidd (C_0.out.below hb1)
      have F_1 := hidd (And.intro (F_0.out.1.trans (Ty.below hb1)) (F_0.out.2.trans (hb1.mono (Nat.le_trans hB F_0.out.2.size))))
      have hS1 := (hb1.block _ (Array.getElem?_eq_some_iff.1 hS).1).trans hS
      clear hb1 C_0 F_0
      show K _ V1
      refine hK.out _ _ hS1 (fun hS => ?_)
      clear hK K
      refine wpAnyH_ready (rs := [10]) (by kernel_rfl) (by simp) (AllReadyH.cons (o := { dst := some 36, op := Op.call { callee := Callee.value (Operand.func 44), args := #[Operand.tmp 35], argTypes := #[9] }, type := 9, pos := _, after := _, guard := none }) rfl (fun K hK => ?_) AllReadyH.nil)
      go_simp
      refine Calls.mono (Clone_any s.2 (V1) HS2.out) ?_
      rintro e V2 ⟨rfl, hb2⟩
      have C_2 := hidd (C_1.out.below hb2)
      have F_2 := hidd (And.intro (F_1.out.1.trans (Ty.below hb2)) (F_1.out.2.trans (hb2.mono (Nat.le_trans hB F_1.out.2.size))))
      have hS2 := (hb2.block _ (Array.getElem?_eq_some_iff.1 hS).1).trans hS
      clear hb2 C_1 F_1
      show K _ V2
      refine hK.out _ _ hS2 (fun hS => ?_)
      clear hK K
      refine wpAnyH_take (i := 11) (oi := { dst := some 37, op := Op.build 40 #[(1, Operand.tmp 33), (2, Operand.tmp 36)], type := 40, pos := _, after := _, guard := none }) (v := .agg #[.string ⟨#[]⟩, .string s.1, .string s.2]) rfl (by kernel_rfl) (by kernel_rfl) (by kernel_rfl) (fun _ _ _ h => h) (Or.inl ⟨by rfl, fun u hu => by go_simp⟩) hS ?_
      simp only [Act.put, List.setIfInBounds_toArray, List.set_cons_zero, List.set_cons_succ]
      refine wpAnyH_ready (rs := [12]) (by kernel_rfl) (by simp) (AllReadyH.cons (o := { dst := some 38, op := Op.buildSlice 23 1 #[(0, Operand.tmp 37)], type := 23, pos := _, after := _, guard := none }) rfl (fun K hK => ?_) AllReadyH.nil)
      go_simp
      have hb3 : Below V2.heap.size V2 (V2.alloc (.cells #[.string ⟨#[]⟩, .string s.1, .string s.2] 40)) := (Below.refl _ _).alloc (Nat.le_refl _) _
      have AC := hidd (World.alloc_heap_new V2 (.cells #[.string ⟨#[]⟩, .string s.1, .string s.2] 40))
      have C_3 := hidd (C_2.out.below hb3)
      have F_3 := hidd (And.intro (F_2.out.1.trans (Ty.below hb3)) (F_2.out.2.trans (hb3.mono (Nat.le_trans hB F_2.out.2.size))))
      have hS3 := (hb3.block _ (Array.getElem?_eq_some_iff.1 hS).1).trans hS
      change K _ (V2.alloc (.cells #[.string ⟨#[]⟩, .string s.1, .string s.2] 40))
      generalize V2.alloc (.cells #[.string ⟨#[]⟩, .string s.1, .string s.2] 40) = V3 at AC C_3 F_3 hS3 ⊢
      generalize V2.heap.size = nb at AC ⊢
      clear hb3 C_2 F_2
      refine hK.out _ _ hS3 (fun hS => ?_)
      clear hK K
      refine wpAnyH_ready (rs := [13]) (by kernel_rfl) (by simp) (AllReadyH.cons (o := { dst := some 39, op := Op.call { callee := Callee.builtin Builtin.append, args := #[Operand.tmp 30, Operand.tmp 38], argTypes := #[23, 23] }, type := 23, pos := _, after := _, guard := none }) rfl (fun K hK => ?_) AllReadyH.nil)
      obtain ⟨i0, hinf, hz0, hz1, hz2⟩ := info_parts infoBind
      refine step_append_where rfl (.tmp 30) (.tmp 38) 23 rfl B 40 i0 _ 3 48 Tryd.underlying23 hinf hz0 hz1 hz2 rfl (by decide) (.slice ba n bc) n (gs.flatMap bcells) rfl (by exact C_3.out.row) ⟨nb, 0, none⟩ 1 1 (bcells s) rfl rfl ?_ (bone s) (by decide) ?_ ?_ ?_ ?_
      · intro q u hq
        have hcell := cellO (q := q) AC.out
        have hadd := addr_add nb q
        rw [hadd, hcell]
        simpa [bcells] using hq
      · have := HLE.out; unfold maxLen; omega
      · have := HLE.out; omega
      · exact Nat.le_trans C_3.out.bt (Nat.le_of_lt (Array.getElem?_eq_some_iff.1 C_3.out.tb).1)
      intro bv' w4 hown4 hg4 hw4
      have PU := hidd (C_3.out.push hown4 hg4 F_3.out)
      have P4 : w4.heap[t]? = some (.cells #[.slice ba n bc, .map (some m)] 55 (0, 0)) := (hg4.block t (Array.getElem?_eq_some_iff.1 C_3.out.tb).1 (fun e => C_3.out.ot e.symm)).trans C_3.out.tb
      have hS4 := (hg4.block kb (Array.getElem?_eq_some_iff.1 hS).1 (fun e => C_3.out.ok hS e.symm)).trans hS
      have P4H := hidd P4
      obtain ⟨va, vn, vc, hvv⟩ := rowSlice hown4
      clear hown4 hg4 hw4 P4 hinf hz0 hz1 hz2 C_3 F_3 AC
      show K _ w4
      refine hK.out _ _ hS4 (fun hS => ?_)
      clear hK K
      refine wpAnyH_take (i := 14) (oi := { dst := some 40, op := Op.nilCheck (Operand.tmp 26), type := 0, pos := _, after := _, guard := none }) (v := .pointer (some ⟨t, 0, none⟩)) rfl (by kernel_rfl) (by kernel_rfl) (by kernel_rfl) (fun _ _ _ h => h) (Or.inl ⟨by rfl, fun u hu => by go_simp⟩) hS ?_
      simp only [Act.put, List.setIfInBounds_toArray, List.set_cons_zero, List.set_cons_succ]
      refine wpAnyH_take (i := 15) (oi := { dst := some 41, op := Op.fieldAddr 55 (Operand.tmp 40) 0, type := 0, pos := _, after := _, guard := none }) (v := .pointer (some ⟨t, 0, none⟩)) rfl (by kernel_rfl) (by kernel_rfl) (by kernel_rfl) (fun _ _ _ h => h) (Or.inl ⟨by rfl, fun u hu => by go_simp⟩) hS ?_
      simp only [Act.put, List.setIfInBounds_toArray, List.set_cons_zero, List.set_cons_succ]
      refine wpAnyH_ready (rs := [16]) (by kernel_rfl) (by simp) (AllReadyH.cons (o := { dst := none, op := Op.store 23 (Operand.tmp 41) (Operand.tmp 39), type := 0, pos := _, after := _, guard := none }) rfl (fun K hK => ?_) AllReadyH.nil)
      have n0 : w4.cell? ⟨t, 0, none⟩ = some (.slice ba n bc) := (cellO P4H.out).trans rfl
      have nz := looseO (q := 0) P4H.out
      have htk : kb ≠ t := fun e => by
        have := P4H.out
        rw [← e, hS] at this
        simp at this
      have hS5 := (Below.heap_setCell w4 ⟨t, 0, none⟩ bv' kb htk).trans hS
      subst hvv
      go_simp
      clear n0 nz P4H
      refine hK.out _ _ hS5 (fun hS => ?_)
      clear hK K
      refine wpAnyH_done (by kernel_rfl) ?_ _
      go_wp2_with fail
      go_end0
      exact ⟨rfl, ⟨_, PU.out.1⟩, PU.out.2.1, PU.out.2.2⟩
    · go_simp
      refine Calls.mono (Clone_any s.1 (wc.drew) HS1.out) ?_
      rintro e V1 ⟨rfl, hb1⟩
      have C_1 := hidd (C_0.out.below hb1)
      have F_1 := hidd (And.intro (F_0.out.1.trans (Ty.below hb1)) (F_0.out.2.trans (hb1.mono (Nat.le_trans hB F_0.out.2.size))))
      have hS1 := (hb1.block _ (Array.getElem?_eq_some_iff.1 hS).1).trans hS
      clear hb1 C_0 F_0
      show K _ V1
      refine hK.out _ _ hS1 (fun hS => ?_)
      clear hK K
      refine wpAnyH_ready (rs := [4, 10]) (by kernel_rfl) (by simp) (AllReadyH.cons (o := { dst := some 30, op := Op.load 23 (Operand.tmp 29), type := 23, pos := _, after := _, guard := none }) rfl (fun K hK => ?_) (AllReadyH.cons (o := { dst := some 36, op := Op.call { callee := Callee.value (Operand.func 44), args := #[Operand.tmp 35], argTypes := #[9] }, type := 9, pos := _, after := _, guard := none }) rfl (fun K hK => ?_) AllReadyH.nil))
      · have zt : (V1).cell? ⟨t, 0, none⟩ = some (.slice ba n bc) := (cellO C_1.out.tb).trans rfl
        go_simp
        clear zt
        refine hK.out _ _ hS (fun hS => ?_)
        clear hK K
        refine wpAnyH_ready (rs := [10]) (by kernel_rfl) (by simp) (AllReadyH.cons (o := { dst := some 36, op := Op.call { callee := Callee.value (Operand.func 44), args := #[Operand.tmp 35], argTypes := #[9] }, type := 9, pos := _, after := _, guard := none }) rfl (fun K hK => ?_) AllReadyH.nil)
        go_simp
        refine Calls.mono (Clone_any s.2 (V1) HS2.out) ?_
        rintro e V2 ⟨rfl, hb2⟩
        have C_2 := hidd (C_1.out.below hb2)
        have F_2 := hidd (And.intro (F_1.out.1.trans (Ty.below hb2)) (F_1.out.2.trans (hb2.mono (Nat.le_trans hB F_1.out.2.size))))
        have hS2 := (hb2.block _ (Array.getElem?_eq_some_iff.1 hS).1).trans hS
        clear hb2 C_1 F_1
        show K _ V2
        refine hK.out _ _ hS2 (fun hS => ?_)
        clear hK K
        refine wpAnyH_take (i := 11) (oi := { dst := some 37, op := Op.build 40 #[(1, Operand.tmp 33), (2, Operand.tmp 36)], type := 40, pos := _, after := _, guard := none }) (v := .agg #[.string ⟨#[]⟩, .string s.1, .string s.2]) rfl (by kernel_rfl) (by kernel_rfl) (by kernel_rfl) (fun _ _ _ h => h) (Or.inl ⟨by rfl, fun u hu => by go_simp⟩) hS ?_
        simp only [Act.put, List.setIfInBounds_toArray, List.set_cons_zero, List.set_cons_succ]
        refine wpAnyH_ready (rs := [12]) (by kernel_rfl) (by simp) (AllReadyH.cons (o := { dst := some 38, op := Op.buildSlice 23 1 #[(0, Operand.tmp 37)], type := 23, pos := _, after := _, guard := none }) rfl (fun K hK => ?_) AllReadyH.nil)
        go_simp
        have hb3 : Below V2.heap.size V2 (V2.alloc (.cells #[.string ⟨#[]⟩, .string s.1, .string s.2] 40)) := (Below.refl _ _).alloc (Nat.le_refl _) _
        have AC := hidd (World.alloc_heap_new V2 (.cells #[.string ⟨#[]⟩, .string s.1, .string s.2] 40))
        have C_3 := hidd (C_2.out.below hb3)
        have F_3 := hidd (And.intro (F_2.out.1.trans (Ty.below hb3)) (F_2.out.2.trans (hb3.mono (Nat.le_trans hB F_2.out.2.size))))
        have hS3 := (hb3.block _ (Array.getElem?_eq_some_iff.1 hS).1).trans hS
        change K _ (V2.alloc (.cells #[.string ⟨#[]⟩, .string s.1, .string s.2] 40))
        generalize V2.alloc (.cells #[.string ⟨#[]⟩, .string s.1, .string s.2] 40) = V3 at AC C_3 F_3 hS3 ⊢
        generalize V2.heap.size = nb at AC ⊢
        clear hb3 C_2 F_2
        refine hK.out _ _ hS3 (fun hS => ?_)
        clear hK K
        refine wpAnyH_ready (rs := [13]) (by kernel_rfl) (by simp) (AllReadyH.cons (o := { dst := some 39, op := Op.call { callee := Callee.builtin Builtin.append, args := #[Operand.tmp 30, Operand.tmp 38], argTypes := #[23, 23] }, type := 23, pos := _, after := _, guard := none }) rfl (fun K hK => ?_) AllReadyH.nil)
        obtain ⟨i0, hinf, hz0, hz1, hz2⟩ := info_parts infoBind
        refine step_append_where rfl (.tmp 30) (.tmp 38) 23 rfl B 40 i0 _ 3 48 Tryd.underlying23 hinf hz0 hz1 hz2 rfl (by decide) (.slice ba n bc) n (gs.flatMap bcells) rfl (by exact C_3.out.row) ⟨nb, 0, none⟩ 1 1 (bcells s) rfl rfl ?_ (bone s) (by decide) ?_ ?_ ?_ ?_
        · intro q u hq
          have hcell := cellO (q := q) AC.out
          have hadd := addr_add nb q
          rw [hadd, hcell]
          simpa [bcells] using hq
        · have := HLE.out; unfold maxLen; omega
        · have := HLE.out; omega
        · exact Nat.le_trans C_3.out.bt (Nat.le_of_lt (Array.getElem?_eq_some_iff.1 C_3.out.tb).1)
        intro bv' w4 hown4 hg4 hw4
        have PU := hidd (C_3.out.push hown4 hg4 F_3.out)
        have P4 : w4.heap[t]? = some (.cells #[.slice ba n bc, .map (some m)] 55 (0, 0)) := (hg4.block t (Array.getElem?_eq_some_iff.1 C_3.out.tb).1 (fun e => C_3.out.ot e.symm)).trans C_3.out.tb
        have hS4 := (hg4.block kb (Array.getElem?_eq_some_iff.1 hS).1 (fun e => C_3.out.ok hS e.symm)).trans hS
        have P4H := hidd P4
        obtain ⟨va, vn, vc, hvv⟩ := rowSlice hown4
        clear hown4 hg4 hw4 P4 hinf hz0 hz1 hz2 C_3 F_3 AC
        show K _ w4
        refine hK.out _ _ hS4 (fun hS => ?_)
        clear hK K
        refine wpAnyH_take (i := 14) (oi := { dst := some 40, op := Op.nilCheck (Operand.tmp 26), type := 0, pos := _, after := _, guard := none }) (v := .pointer (some ⟨t, 0, none⟩)) rfl (by kernel_rfl) (by kernel_rfl) (by kernel_rfl) (fun _ _ _ h => h) (Or.inl ⟨by rfl, fun u hu => by go_simp⟩) hS ?_
        simp only [Act.put, List.setIfInBounds_toArray, List.set_cons_zero, List.set_cons_succ]
        refine wpAnyH_take (i := 15) (oi := { dst := some 41, op := Op.fieldAddr 55 (Operand.tmp 40) 0, type := 0, pos := _, after := _, guard := none }) (v := .pointer (some ⟨t, 0, none⟩)) rfl (by kernel_rfl) (by kernel_rfl) (by kernel_rfl) (fun _ _ _ h => h) (Or.inl ⟨by rfl, fun u hu => by go_simp⟩) hS ?_
        simp only [Act.put, List.setIfInBounds_toArray, List.set_cons_zero, List.set_cons_succ]
        refine wpAnyH_ready (rs := [16]) (by kernel_rfl) (by simp) (AllReadyH.cons (o := { dst := none, op := Op.store 23 (Operand.tmp 41) (Operand.tmp 39), type := 0, pos := _, after := _, guard := none }) rfl (fun K hK => ?_) AllReadyH.nil)
        have n0 : w4.cell? ⟨t, 0, none⟩ = some (.slice ba n bc) := (cellO P4H.out).trans rfl
        have nz := looseO (q := 0) P4H.out
        have htk : kb ≠ t := fun e => by
          have := P4H.out
          rw [← e, hS] at this
          simp at this
        have hS5 := (Below.heap_setCell w4 ⟨t, 0, none⟩ bv' kb htk).trans hS
        subst hvv
        go_simp
        clear n0 nz P4H
        refine hK.out _ _ hS5 (fun hS => ?_)
        clear hK K
        refine wpAnyH_done (by kernel_rfl) ?_ _
        go_wp2_with fail
        go_end0
        exact ⟨rfl, ⟨_, PU.out.1⟩, PU.out.2.1, PU.out.2.2⟩
      · go_simp
        refine Calls.mono (Clone_any s.2 (V1) HS2.out) ?_
        rintro e V2 ⟨rfl, hb2⟩
        have C_2 := hidd (C_1.out.below hb2)
        have F_2 := hidd (And.intro (F_1.out.1.trans (Ty.below hb2)) (F_1.out.2.trans (hb2.mono (Nat.le_trans hB F_1.out.2.size))))
        have hS2 := (hb2.block _ (Array.getElem?_eq_some_iff.1 hS).1).trans hS
        clear hb2 C_1 F_1
        show K _ V2
        refine hK.out _ _ hS2 (fun hS => ?_)
        clear hK K
        refine wpAnyH_take (i := 11) (oi := { dst := some 37, op := Op.build 40 #[(1, Operand.tmp 33), (2, Operand.tmp 36)], type := 40, pos := _, after := _, guard := none }) (v := .agg #[.string ⟨#[]⟩, .string s.1, .string s.2]) rfl (by kernel_rfl) (by kernel_rfl) (by kernel_rfl) (fun _ _ _ h => h) (Or.inl ⟨by rfl, fun u hu => by go_simp⟩) hS ?_
        simp only [Act.put, List.setIfInBounds_toArray, List.set_cons_zero, List.set_cons_succ]
        refine wpAnyH_ready (rs := [4, 12]) (by kernel_rfl) (by simp) (AllReadyH.cons (o := { dst := some 30, op := Op.load 23 (Operand.tmp 29), type := 23, pos := _, after := _, guard := none }) rfl (fun K hK => ?_) (AllReadyH.cons (o := { dst := some 38, op := Op.buildSlice 23 1 #[(0, Operand.tmp 37)], type := 23, pos := _, after := _, guard := none }) rfl (fun K hK => ?_) AllReadyH.nil))
        · have zt : (V2).cell? ⟨t, 0, none⟩ = some (.slice ba n bc) := (cellO C_2.out.tb).trans rfl
          go_simp
          clear zt
          refine hK.out _ _ hS (fun hS => ?_)
          clear hK K
          refine wpAnyH_ready (rs := [12]) (by kernel_rfl) (by simp) (AllReadyH.cons (o := { dst := some 38, op := Op.buildSlice 23 1 #[(0, Operand.tmp 37)], type := 23, pos := _, after := _, guard := none }) rfl (fun K hK => ?_) AllReadyH.nil)
          go_simp
          have hb3 : Below V2.heap.size V2 (V2.alloc (.cells #[.string ⟨#[]⟩, .string s.1, .string s.2] 40)) := (Below.refl _ _).alloc (Nat.le_refl _) _
          have AC := hidd (World.alloc_heap_new V2 (.cells #[.string ⟨#[]⟩, .string s.1, .string s.2] 40))
          have C_3 := hidd (C_2.out.below hb3)
          have F_3 := hidd (And.intro (F_2.out.1.trans (Ty.below hb3)) (F_2.out.2.trans (hb3.mono (Nat.le_trans hB F_2.out.2.size))))
          have hS3 := (hb3.block _ (Array.getElem?_eq_some_iff.1 hS).1).trans hS
          change K _ (V2.alloc (.cells #[.string ⟨#[]⟩, .string s.1, .string s.2] 40))
          generalize V2.alloc (.cells #[.string ⟨#[]⟩, .string s.1, .string s.2] 40) = V3 at AC C_3 F_3 hS3 ⊢
          generalize V2.heap.size = nb at AC ⊢
          clear hb3 C_2 F_2
          refine hK.out _ _ hS3 (fun hS => ?_)
          clear hK K
          refine wpAnyH_ready (rs := [13]) (by kernel_rfl) (by simp) (AllReadyH.cons (o := { dst := some 39, op := Op.call { callee := Callee.builtin Builtin.append, args := #[Operand.tmp 30, Operand.tmp 38], argTypes := #[23, 23] }, type := 23, pos := _, after := _, guard := none }) rfl (fun K hK => ?_) AllReadyH.nil)
          obtain ⟨i0, hinf, hz0, hz1, hz2⟩ := info_parts infoBind
          refine step_append_where rfl (.tmp 30) (.tmp 38) 23 rfl B 40 i0 _ 3 48 Tryd.underlying23 hinf hz0 hz1 hz2 rfl (by decide) (.slice ba n bc) n (gs.flatMap bcells) rfl (by exact C_3.out.row) ⟨nb, 0, none⟩ 1 1 (bcells s) rfl rfl ?_ (bone s) (by decide) ?_ ?_ ?_ ?_
          · intro q u hq
            have hcell := cellO (q := q) AC.out
            have hadd := addr_add nb q
            rw [hadd, hcell]
            simpa [bcells] using hq
          · have := HLE.out; unfold maxLen; omega
          · have := HLE.out; omega
          · exact Nat.le_trans C_3.out.bt (Nat.le_of_lt (Array.getElem?_eq_some_iff.1 C_3.out.tb).1)
          intro bv' w4 hown4 hg4 hw4
          have PU := hidd (C_3.out.push hown4 hg4 F_3.out)
          have P4 : w4.heap[t]? = some (.cells #[.slice ba n bc, .map (some m)] 55 (0, 0)) := (hg4.block t (Array.getElem?_eq_some_iff.1 C_3.out.tb).1 (fun e => C_3.out.ot e.symm)).trans C_3.out.tb
          have hS4 := (hg4.block kb (Array.getElem?_eq_some_iff.1 hS).1 (fun e => C_3.out.ok hS e.symm)).trans hS
          have P4H := hidd P4
          obtain ⟨va, vn, vc, hvv⟩ := rowSlice hown4
          clear hown4 hg4 hw4 P4 hinf hz0 hz1 hz2 C_3 F_3 AC
          show K _ w4
          refine hK.out _ _ hS4 (fun hS => ?_)
          clear hK K
          refine wpAnyH_take (i := 14) (oi := { dst := some 40, op := Op.nilCheck (Operand.tmp 26), type := 0, pos := _, after := _, guard := none }) (v := .pointer (some ⟨t, 0, none⟩)) rfl (by kernel_rfl) (by kernel_rfl) (by kernel_rfl) (fun _ _ _ h => h) (Or.inl ⟨by rfl, fun u hu => by go_simp⟩) hS ?_
          simp only [Act.put, List.setIfInBounds_toArray, List.set_cons_zero, List.set_cons_succ]
          refine wpAnyH_take (i := 15) (oi := { dst := some 41, op := Op.fieldAddr 55 (Operand.tmp 40) 0, type := 0, pos := _, after := _, guard := none }) (v := .pointer (some ⟨t, 0, none⟩)) rfl (by kernel_rfl) (by kernel_rfl) (by kernel_rfl) (fun _ _ _ h => h) (Or.inl ⟨by rfl, fun u hu => by go_simp⟩) hS ?_
          simp only [Act.put, List.setIfInBounds_toArray, List.set_cons_zero, List.set_cons_succ]
          refine wpAnyH_ready (rs := [16]) (by kernel_rfl) (by simp) (AllReadyH.cons (o := { dst := none, op := Op.store 23 (Operand.tmp 41) (Operand.tmp 39), type := 0, pos := _, after := _, guard := none }) rfl (fun K hK => ?_) AllReadyH.nil)
          have n0 : w4.cell? ⟨t, 0, none⟩ = some (.slice ba n bc) := (cellO P4H.out).trans rfl
          have nz := looseO (q := 0) P4H.out
          have htk : kb ≠ t := fun e => by
            have := P4H.out
            rw [← e, hS] at this
            simp at this
          have hS5 := (Below.heap_setCell w4 ⟨t, 0, none⟩ bv' kb htk).trans hS
          subst hvv
          go_simp
          clear n0 nz P4H
          refine hK.out _ _ hS5 (fun hS => ?_)
          clear hK K
          refine wpAnyH_done (by kernel_rfl) ?_ _
          go_wp2_with fail
          go_end0
          exact ⟨rfl, ⟨_, PU.out.1⟩, PU.out.2.1, PU.out.2.2⟩
        · go_simp
          have hb3 : Below V2.heap.size V2 (V2.alloc (.cells #[.string ⟨#[]⟩, .string s.1, .string s.2] 40)) := (Below.refl _ _).alloc (Nat.le_refl _) _
          have AC := hidd (World.alloc_heap_new V2 (.cells #[.string ⟨#[]⟩, .string s.1, .string s.2] 40))
          have C_3 := hidd (C_2.out.below hb3)
          have F_3 := hidd (And.intro (F_2.out.1.trans (Ty.below hb3)) (F_2.out.2.trans (hb3.mono (Nat.le_trans hB F_2.out.2.size))))
          have hS3 := (hb3.block _ (Array.getElem?_eq_some_iff.1 hS).1).trans hS
          change K _ (V2.alloc (.cells #[.string ⟨#[]⟩, .string s.1, .string s.2] 40))
          generalize V2.alloc (.cells #[.string ⟨#[]⟩, .string s.1, .string s.2] 40) = V3 at AC C_3 F_3 hS3 ⊢
          generalize V2.heap.size = nb at AC ⊢
          clear hb3 C_2 F_2
          refine hK.out _ _ hS3 (fun hS => ?_)
          clear hK K
          refine wpAnyH_ready (rs := [4]) (by kernel_rfl) (by simp) (AllReadyH.cons (o := { dst := some 30, op := Op.load 23 (Operand.tmp 29), type := 23, pos := _, after := _, guard := none }) rfl (fun K hK => ?_) AllReadyH.nil)
          have zt : (V3).cell? ⟨t, 0, none⟩ = some (.slice ba n bc) := (cellO C_3.out.tb).trans rfl
          go_simp
          clear zt
          refine hK.out _ _ hS (fun hS => ?_)
          clear hK K
          refine wpAnyH_ready (rs := [13]) (by kernel_rfl) (by simp) (AllReadyH.cons (o := { dst := some 39, op := Op.call { callee := Callee.builtin Builtin.append, args := #[Operand.tmp 30, Operand.tmp 38], argTypes := #[23, 23] }, type := 23, pos := _, after := _, guard := none }) rfl (fun K hK => ?_) AllReadyH.nil)
          obtain ⟨i0, hinf, hz0, hz1, hz2⟩ := info_parts infoBind
          refine step_append_where rfl (.tmp 30) (.tmp 38) 23 rfl B 40 i0 _ 3 48 Tryd.underlying23 hinf hz0 hz1 hz2 rfl (by decide) (.slice ba n bc) n (gs.flatMap bcells) rfl (by exact C_3.out.row) ⟨nb, 0, none⟩ 1 1 (bcells s) rfl rfl ?_ (bone s) (by decide) ?_ ?_ ?_ ?_
          · intro q u hq
            have hcell := cellO (q := q) AC.out
            have hadd := addr_add nb q
            rw [hadd, hcell]
            simpa [bcells] using hq
          · have := HLE.out; unfold maxLen; omega
          · have := HLE.out; omega
          · exact Nat.le_trans C_3.out.bt (Nat.le_of_lt (Array.getElem?_eq_some_iff.1 C_3.out.tb).1)
          intro bv' w4 hown4 hg4 hw4
          have PU := hidd (C_3.out.push hown4 hg4 F_3.out)
          have P4 : w4.heap[t]? = some (.cells #[.slice ba n bc, .map (some m)] 55 (0, 0)) := (hg4.block t (Array.getElem?_eq_some_iff.1 C_3.out.tb).1 (fun e => C_3.out.ot e.symm)).trans C_3.out.tb
          have hS4 := (hg4.block kb (Array.getElem?_eq_some_iff.1 hS).1 (fun e => C_3.out.ok hS e.symm)).trans hS
          have P4H := hidd P4
          obtain ⟨va, vn, vc, hvv⟩ := rowSlice hown4
          clear hown4 hg4 hw4 P4 hinf hz0 hz1 hz2 C_3 F_3 AC
          show K _ w4
          refine hK.out _ _ hS4 (fun hS => ?_)
          clear hK K
          refine wpAnyH_take (i := 14) (oi := { dst := some 40, op := Op.nilCheck (Operand.tmp 26), type := 0, pos := _, after := _, guard := none }) (v := .pointer (some ⟨t, 0, none⟩)) rfl (by kernel_rfl) (by kernel_rfl) (by kernel_rfl) (fun _ _ _ h => h) (Or.inl ⟨by rfl, fun u hu => by go_simp⟩) hS ?_
          simp only [Act.put, List.setIfInBounds_toArray, List.set_cons_zero, List.set_cons_succ]
          refine wpAnyH_take (i := 15) (oi := { dst := some 41, op := Op.fieldAddr 55 (Operand.tmp 40) 0, type := 0, pos := _, after := _, guard := none }) (v := .pointer (some ⟨t, 0, none⟩)) rfl (by kernel_rfl) (by kernel_rfl) (by kernel_rfl) (fun _ _ _ h => h) (Or.inl ⟨by rfl, fun u hu => by go_simp⟩) hS ?_
          simp only [Act.put, List.setIfInBounds_toArray, List.set_cons_zero, List.set_cons_succ]
          refine wpAnyH_ready (rs := [16]) (by kernel_rfl) (by simp) (AllReadyH.cons (o := { dst := none, op := Op.store 23 (Operand.tmp 41) (Operand.tmp 39), type := 0, pos := _, after := _, guard := none }) rfl (fun K hK => ?_) AllReadyH.nil)
          have n0 : w4.cell? ⟨t, 0, none⟩ = some (.slice ba n bc) := (cellO P4H.out).trans rfl
          have nz := looseO (q := 0) P4H.out
          have htk : kb ≠ t := fun e => by
            have := P4H.out
            rw [← e, hS] at this
            simp at this
          have hS5 := (Below.heap_setCell w4 ⟨t, 0, none⟩ bv' kb htk).trans hS
          subst hvv
          go_simp
          clear n0 nz P4H
          refine hK.out _ _ hS5 (fun hS => ?_)
          clear hK K
          refine wpAnyH_done (by kernel_rfl) ?_ _
          go_wp2_with fail
          go_end0
          exact ⟨rfl, ⟨_, PU.out.1⟩, PU.out.2.1, PU.out.2.2⟩
end Go.Proofs.YtdnbingddbakaaaDoor
