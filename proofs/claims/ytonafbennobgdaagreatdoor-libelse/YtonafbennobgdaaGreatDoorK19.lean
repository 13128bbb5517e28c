/- Chapter 3: what is brought in, one by one. -/
import Derived.Test.YtonafbennobgdaaGreatDoorK18
import Derived.OrdersHeld
namespace Go.Proofs.YtonafbennobgdaaGreatDoor
set_option linter.unusedVariables false
set_option linter.unusedSimpArgs false
open Go.RowKit

theorem own_box {w : World} {B t s n b : Nat} {t' : TypeId} {v : Value} {xs : List Value} {cs : Array Value} (h : w.ownsRow B t s v n xs) (hp : w.heap[b]? = some (.cells cs t' (0, 0))) (ht : t ≠ t') (hk : v.ownBlock = some b) : False := by
  obtain ⟨_, _, cs', h2⟩ := own_typeL h b hk
  rw [hp] at h2
  simp at h2
  exact ht h2.2.symm
theorem own_box' {w : World} {b c t t' : Nat} {cs cs' : Array Value} (h : w.heap[b]? = some (.cells cs t (0, 0))) (h' : w.heap[c]? = some (.cells cs' t' (0, 0))) (ht : t ≠ t') (e : b = c) : False := by
  subst e
  rw [h] at h'
  simp at h'
  exact ht h'.2
theorem SV.slice {ok : Nat → Prop} {l : List ByteArray} {v : Value} {w : World} (h : SV ok l v w) : ∃ a n c, v = .slice a n c := by
  obtain ⟨a, c, h1, _⟩ := h
  exact ⟨a, _, c, h1⟩
theorem SeL.slice {ok : Nat → Prop} {w : World} {ks : List Se} {v : Value} (h : SeL ok w ks v) : ∃ a n c, v = .slice a n c := by
  cases h with
  | none a c => exact ⟨a, 0, c, rfl⟩
  | some _ b o c => exact ⟨_, _, c, rfl⟩
theorem infoSetL : (Tryz.prog.info? 73).map (fun i => (i.zero, i.size, i.bytes)) = some (some (.agg #[.int .i64 0, .string ⟨#[]⟩, .slice none 0 0, .slice none 0 0, .string ⟨#[]⟩, .slice none 0 0]), 6, 112) := by kernel_rfl
theorem importsF_at {ds : List Dat} {j : Nat} {d : Dat} {s s' : LibS} (h : ds[j]? = some d) (hl : importsF ds s = importsF (ds.drop j) s') : importsF ds s =
    if s'.imports.length < 20 then (setF 12 d).bind fun x => importsF (ds.drop (j + 1)) { s' with imports := s'.imports ++ [x] } else .no 5 := by
  obtain ⟨hi, e⟩ := List.getElem?_eq_some_iff.1 h
  rw [hl, List.drop_eq_getElem_cons hi, e, importsF]
set_option maxRecDepth 100000 in
set_option maxHeartbeats 12800000 in
theorem imports_any (J : JoinOk) (A B pb f : Nat) (f1 f2 f3 : Value) (s : LibS) (ds : List Dat) (a : Option Addr) (cap : Nat) (w : World) (hA : A ≤ B) (hA0 : 0 < A) (hp : PS B pb f1 f2 f3 s w) (hd : Dc (fun k => k < A) w f a ds) (hn : ds.length ≤ 2000) (hc : ds.length ≤ cap) (ho : okL ds) (he : s.imports.length ≤ 20) (htw : TabW w) :
    Calls Tryz.prog 108 #[.pointer (some ⟨pb, 0, none⟩), .slice a ds.length cap] w (ToldP B pb f1 f2 f3 (importsF ds s) w) := by
  have HD : Hid (∀ W j d, Below B w W → ds[j]? = some d → ∃ b o a' cap' g, a = some ⟨b, o, none⟩ ∧ f = g + 1 ∧ DAt (fun k => k < A) W b (o + j * 6) d a' cap' ∧ Dc (fun k => k < A) W g a' d.kids) := fun W j d hb hj => by
    obtain ⟨g, b, o, a', cap', h0, h1, h2, h3⟩ := hd.at hj
    exact ⟨b, o, a', cap', g, h1, h0, h2.below (hb.mono hA), h3.below (hb.mono hA)⟩
  have HO : Hid (∀ d ∈ ds, okD d) := okL_mem ho
  have HL : Hid (∀ j, j < ds.length → ∃ d, ds[j]? = some d) := fun j hj => ⟨_, List.getElem?_eq_getElem hj⟩
  obtain ⟨i0, hinf, hz0, hz1, hz2⟩ := info_partsL infoSetL
  obtain ⟨n, hn'⟩ : ∃ n, n = ds.length := ⟨_, rfl⟩
  have HN := hidd hn'
  rw [← hn'] at hn hc HL ⊢
  have HS : Hid (s.imports.length ≤ 20) := he
  have HY := hidd must_yes
  have HX0 := hidd must_no
  have HP := hidd hp
  have HA : Hid (A ≤ B ∧ 0 < A) := ⟨hA, hA0⟩
  have HT := hidd htw
  have HJ := hidd J
  clear hp hd ho he hn' hA hA0 htw J
  go_enter Tryz.func108, Tryz.ntmps108
  go_wp2_with fail
  go_loopw [5, 8] (fun _ ix wr => ∃ (j : Nat) (s' : LibS), j ≤ n ∧ ix = .int .i64 j ∧ Hid (BT B w wr ∧ PS B pb f1 f2 f3 s' wr ∧ importsF ds s = importsF (ds.drop j) s' ∧ s'.imports.length ≤ 20)) (fun _ ix _ => n - (intOf ix).toNat)
  case atStart => exact ⟨0, s, Nat.zero_le _, rfl, BT.refl _ _, HP.out, by rw [List.drop_zero], HS.out⟩
  case round =>
    obtain ⟨j, s', hj, rfl, HR⟩ := hrel
    by_cases hlt : j < n
    · obtain ⟨d, hdj⟩ := HL.out j hlt
      obtain ⟨b, o, a', cap', g0, rfl, hf0, hA, hK⟩ := HD.out wr j d HR.out.1.toBelow hdj
      obtain ⟨_, c0, c1, c2, c3, c4, c5, hnm, hlk⟩ := hA
      have i1 : (0 : Int) ≤ (j : Int) := by omega
      have i2 : (j : Int) < (n : Int) := by omega
      have hBr : B ≤ wr.heap.size := PS.hs HR.out.2.1
      have HBr := hidd hBr
      have CA0 : ∀ W, Below wr.heap.size wr W → Calls Tryz.prog 130 #[dv d a' cap', .int .i64 1] W (ToldE (setF 12 d) (SeT W) W) := fun W hb => set_any HJ.out 12 (Nat.le_refl _) A g0 d a' cap' W (Nat.le_trans HA.out.1 (Nat.le_trans hBr hb.size)) HA.out.2 (hK.below (hb.mono (Nat.le_trans HA.out.1 hBr))) hlk (HO.out d (List.mem_of_getElem? hdj)) ((HT.out.below HR.out.1.toBelow (Nat.lt_of_lt_of_le HA.out.2 HA.out.1)).below hb (Nat.lt_of_lt_of_le (Nat.lt_of_lt_of_le HA.out.2 HA.out.1) hBr))
      have hst := importsF_at hdj HR.out.2.2.1
      unfold dv at CA0
      clear hK hf0 hdj hnm hlk
      generalize d.kids.length = kn at *
      obtain ⟨is, es, ev, iv, bv, h1, h2, h3⟩ := HR.out.2.1
      obtain ⟨ia, ic, rfl, hec⟩ := own_sliceL h1.io
      have hil : is.length = s'.imports.length := by rw [← h2]; simp
      have hbx : Below wr.heap.size wr (wr.alloc (.cells #[.int .i64 d.kind, .int .i64 d.n, .string d.name, .int .i64 d.stamp, .int .i64 d.lib, .slice a' kn cap'] 26)) := (Below.refl _ _).alloc (Nat.le_refl _) _
      have h1' := h1.below hbx
      obtain ⟨W1, hW1⟩ : ∃ W1, W1 = wr.alloc (.cells #[.int .i64 d.kind, .int .i64 d.n, .string d.name, .int .i64 d.stamp, .int .i64 d.lib, .slice a' kn cap'] 26) := ⟨_, rfl⟩
      have hS1 : W1.heap[wr.heap.size]? = some (.cells #[.int .i64 d.kind, .int .i64 d.n, .string d.name, .int .i64 d.stamp, .int .i64 d.lib, .slice a' kn cap'] 26 (0, 0)) := by rw [hW1]; exact World.alloc_heap_new wr _
      rw [← hW1] at hbx h1'
      have HS1 := hidd hS1
      have e5 : W1.cell? ⟨pb, 5, none⟩ = some (.slice ia is.length ic) := (cellO h1'.blk).trans rfl
      have y0 : W1.cell? ⟨wr.heap.size, 0, none⟩ = some (.int .i64 d.kind) := (cellO hS1).trans rfl
      have y1 : W1.cell? ⟨wr.heap.size, 1, none⟩ = some (.int .i64 d.n) := (cellO hS1).trans rfl
      have y2 : W1.cell? ⟨wr.heap.size, 2, none⟩ = some (.string d.name) := (cellO hS1).trans rfl
      have y3 : W1.cell? ⟨wr.heap.size, 3, none⟩ = some (.int .i64 d.stamp) := (cellO hS1).trans rfl
      have y4 : W1.cell? ⟨wr.heap.size, 4, none⟩ = some (.int .i64 d.lib) := (cellO hS1).trans rfl
      have y5 : W1.cell? ⟨wr.heap.size, 5, none⟩ = some (.slice a' kn cap') := (cellO hS1).trans rfl
      have hw1 := hW1.symm
      have PX_0 : Hid (PSx B pb f1 f2 f3 s'.name s'.exports is es ev (.slice ia is.length ic) bv W1.drew ∧ Below wr.heap.size wr W1.drew) := ⟨h1.below hbx.drew, hbx.drew⟩
      have H1E : Hid (is.map IE.s = s'.imports ∧ es.map (·.1) = s'.body) := ⟨h2, h3⟩
      have HISL : Hid (is.length ≤ 20) := by show _ ≤ _; have := HR.out.2.2.2; omega
      have hisl : is.length ≤ 20 := HISL.out
      have HBX : Hid (BT B w W1) := HR.out.1.trans (hbx.bt hBr)
      clear h1 h2 h3 hec h1' hbx hS1 hW1
      by_cases hlen : s'.imports.length < 20
      · rw [if_pos hlen] at hst
        have k1 : decide ((is.length : Int) < 20) = true := by simp; omega
        have k2 : (is.length : Int) < 20 := by omega
        cases hE : setF 12 d with
        | no x =>
          rw [hE] at CA0 hst
          have CA : Hid (∀ W, Below wr.heap.size wr W → Calls Tryz.prog 130 #[.agg #[.int .i64 d.kind, .int .i64 d.n, .string d.name, .int .i64 d.stamp, .int .i64 d.lib, .slice a' kn cap'], .int .i64 1] W fun e w' => Below W.heap.size W w' ∧ e = .panicked (thrownL x)) := CA0
          have HST : Hid (importsF ds s = .no x) := hst
          clear CA0 hst hE hlen hil
          go_wp2_with fail
          refine (HY.out _ _).mono ?_
          rintro e w5 ⟨rfl, rfl⟩
          clear hw1
          go_upto_region 4 with fail
          clear e5 c0 c1 c2 c3 c4 c5 y0 y1 y2 y3 y4 y5
          refine wp_region_held_drew (S := fun u => u.heap[wr.heap.size]? = some (.cells #[.int .i64 d.kind, .int .i64 d.n, .string d.name, .int .i64 d.stamp, .int .i64 d.lib, .slice a' kn cap'] 26 (0, 0))) (by kernel_rfl) (HS1.out) (fun hS => ?_)
          refine wpAnyH_take (i := 0) (oi := { dst := some 20, op := Op.move (Operand.tmp 0), type := 84, pos := _, after := _, guard := none }) (v := .pointer (some ⟨pb, 0, none⟩)) rfl (by kernel_rfl) (by kernel_rfl) (by kernel_rfl) (fun _ _ _ h => h) (Or.inl ⟨by rfl, fun u hu => by go_simp⟩) hS ?_
          simp only [Act.put, List.setIfInBounds_toArray, List.set_cons_zero, List.set_cons_succ]
          refine wpAnyH_take (i := 1) (oi := { dst := some 21, op := Op.nilCheck (Operand.tmp 20), type := 0, pos := _, after := _, guard := none }) (v := .pointer (some ⟨pb, 0, none⟩)) rfl (by kernel_rfl) (by kernel_rfl) (by kernel_rfl) (fun _ _ _ h => h) (Or.inl ⟨by rfl, fun u hu => by go_simp⟩) hS ?_
          simp only [Act.put, List.setIfInBounds_toArray, List.set_cons_zero, List.set_cons_succ]
          refine wpAnyH_take (i := 2) (oi := { dst := some 22, op := Op.fieldAddr 57 (Operand.tmp 21) 3, type := 0, pos := _, after := _, guard := none }) (v := .pointer (some ⟨pb, 3, none⟩)) rfl (by kernel_rfl) (by kernel_rfl) (by kernel_rfl) (fun _ _ _ h => h) (Or.inl ⟨by rfl, fun u hu => by go_simp⟩) hS ?_
          simp only [Act.put, List.setIfInBounds_toArray, List.set_cons_zero, List.set_cons_succ]
          refine wpAnyH_take (i := 3) (oi := { dst := some 23, op := Op.fieldAddr 30 (Operand.tmp 22) 2, type := 0, pos := _, after := _, guard := none }) (v := .pointer (some ⟨pb, 5, none⟩)) rfl (by kernel_rfl) (by kernel_rfl) (by kernel_rfl) (fun _ _ _ h => h) (Or.inl ⟨by rfl, fun u hu => by go_simp⟩) hS ?_
          simp only [Act.put, List.setIfInBounds_toArray, List.set_cons_zero, List.set_cons_succ]
          refine wpAnyH_take (i := 5) (oi := { dst := some 25, op := Op.load 26 (Operand.tmp 5), type := 26, pos := _, after := _, guard := none }) (v := .agg #[.int .i64 d.kind, .int .i64 d.n, .string d.name, .int .i64 d.stamp, .int .i64 d.lib, .slice a' kn cap']) rfl (by kernel_rfl) (by kernel_rfl) (by kernel_rfl) (fun _ _ _ h => h) (Or.inl ⟨by rfl, fun u hu => by (have z : ∀ q, u.cell? ⟨wr.heap.size, q, none⟩ = #[.int .i64 d.kind, .int .i64 d.n, .string d.name, .int .i64 d.stamp, .int .i64 d.lib, .slice a' kn cap'][q]? := (fun q => by simp [World.cell?, show u.heap[wr.heap.size]? = _ from hu]); have z0 := z 0; have z1 := z 1; have z2 := z 2; have z3 := z 3; have z4 := z 4; have z5 := z 5; simp at z0 z1 z2 z3 z4 z5; go_simp)⟩) hS ?_
          simp only [Act.put, List.setIfInBounds_toArray, List.set_cons_zero, List.set_cons_succ]
          refine wpAnyH_ready (rs := [4, 6, 8]) (by kernel_rfl) (by simp) (AllReadyH.cons (o := { dst := some 24, op := Op.load 28 (Operand.tmp 23), type := 28, pos := _, after := _, guard := none }) rfl (fun K hK => ?_) (AllReadyH.cons (o := { dst := some 26, op := Op.call { callee := Callee.value (Operand.func 130), args := #[Operand.tmp 25, Operand.const (Value.int IntKind.i64 1)], argTypes := #[26, 3] }, type := 73, pos := _, after := _, guard := none }) rfl (fun K hK => ?_) (AllReadyH.cons (o := { dst := some 28, op := Op.buildSlice 28 1 #[(0, Operand.const (Value.agg #[Value.int IntKind.i64 0, Value.string { data := #[] }, Value.slice none 0 0, Value.slice none 0 0, Value.string { data := #[] }, Value.slice none 0 0]))], type := 28, pos := _, after := _, guard := none }) rfl (fun K hK => ?_) AllReadyH.nil)))
          · have zo : World.cell? (w5.drew) ⟨pb, 5, none⟩ = some (.slice ia is.length ic) := (cellO PX_0.out.1.blk).trans rfl
            go_simp
            clear zo
            refine hK.out _ _ hS (fun hS => ?_)
            clear hK K
            refine wpAnyH_take (i := 7) (oi := { dst := some 27, op := Op.call { callee := Callee.builtin Builtin.len, args := #[Operand.tmp 24], argTypes := #[28] }, type := 3, pos := _, after := _, guard := none }) (v := .int .i64 is.length) rfl (by kernel_rfl) (by kernel_rfl) (by kernel_rfl) (fun _ _ _ h => h) (Or.inl ⟨by rfl, fun u hu => by go_simp⟩) hS ?_
            simp only [Act.put, List.setIfInBounds_toArray, List.set_cons_zero, List.set_cons_succ]
            refine wpAnyH_ready (rs := [6, 8]) (by kernel_rfl) (by simp) (AllReadyH.cons (o := { dst := some 26, op := Op.call { callee := Callee.value (Operand.func 130), args := #[Operand.tmp 25, Operand.const (Value.int IntKind.i64 1)], argTypes := #[26, 3] }, type := 73, pos := _, after := _, guard := none }) rfl (fun K hK => ?_) (AllReadyH.cons (o := { dst := some 28, op := Op.buildSlice 28 1 #[(0, Operand.const (Value.agg #[Value.int IntKind.i64 0, Value.string { data := #[] }, Value.slice none 0 0, Value.slice none 0 0, Value.string { data := #[] }, Value.slice none 0 0]))], type := 28, pos := _, after := _, guard := none }) rfl (fun K hK => ?_) AllReadyH.nil))
            · go_simp
              refine (CA.out (w5.drew) PX_0.out.2).mono ?_
              rintro e w6 ⟨hb6, rfl⟩
              have HB6 : Hid (BT B w w6) := HR.out.1.trans ((PX_0.out.2.trans (hb6.mono PX_0.out.2.size)).bt HBr.out)
              clear hb6
              go_wp2_with fail
              refine ⟨rfl, HB6.out, ?_⟩
              rw [HST.out]
            · go_simp
              have hb1 : Below (Array.size (World.heap (w5.drew))) (w5.drew) (World.alloc (w5.drew) (.cells #[.int .i64 0, .string ⟨#[]⟩, .slice none 0 0, .slice none 0 0, .string ⟨#[]⟩, .slice none 0 0] 73)) := (Below.refl _ _).alloc (Nat.le_refl _) _
              have hz1 : (World.heap (World.alloc (w5.drew) (.cells #[.int .i64 0, .string ⟨#[]⟩, .slice none 0 0, .slice none 0 0, .string ⟨#[]⟩, .slice none 0 0] 73)))[(Array.size (World.heap (w5.drew)))]? = some (.cells #[.int .i64 0, .string ⟨#[]⟩, .slice none 0 0, .slice none 0 0, .string ⟨#[]⟩, .slice none 0 0] 73 (0, 0)) := World.alloc_heap_new _ _
              have hS1 : (World.heap (World.alloc (w5.drew) (.cells #[.int .i64 0, .string ⟨#[]⟩, .slice none 0 0, .slice none 0 0, .string ⟨#[]⟩, .slice none 0 0] 73)))[wr.heap.size]? = some (.cells #[.int .i64 d.kind, .int .i64 d.n, .string d.name, .int .i64 d.stamp, .int .i64 d.lib, .slice a' kn cap'] 26 (0, 0)) := (hb1.block _ (Array.getElem?_eq_some_iff.1 hS).1).trans hS
              change K _ (World.alloc (w5.drew) (.cells #[.int .i64 0, .string ⟨#[]⟩, .slice none 0 0, .slice none 0 0, .string ⟨#[]⟩, .slice none 0 0] 73))
              generalize (World.alloc (w5.drew) (.cells #[.int .i64 0, .string ⟨#[]⟩, .slice none 0 0, .slice none 0 0, .string ⟨#[]⟩, .slice none 0 0] 73)) = W1 at hb1 hz1 hS1 ⊢
              have PX_1 : Hid (PSx B pb f1 f2 f3 s'.name s'.exports is es ev (.slice ia is.length ic) bv (W1) ∧ Below wr.heap.size wr (W1)) := ⟨PX_0.out.1.below hb1, PX_0.out.2.trans (hb1.mono PX_0.out.2.size)⟩
              have ZZ_1 : Hid (W1.heap[(Array.size (World.heap (w5.drew)))]? = some (.cells #[.int .i64 0, .string ⟨#[]⟩, .slice none 0 0, .slice none 0 0, .string ⟨#[]⟩, .slice none 0 0] 73 (0, 0))) := hz1
              clear hb1 hz1
              refine hK.out _ _ hS1 (fun hS => ?_)
              clear hK K
              refine wpAnyH_ready (rs := [6]) (by kernel_rfl) (by simp) (AllReadyH.cons (o := { dst := some 26, op := Op.call { callee := Callee.value (Operand.func 130), args := #[Operand.tmp 25, Operand.const (Value.int IntKind.i64 1)], argTypes := #[26, 3] }, type := 73, pos := _, after := _, guard := none }) rfl (fun K hK => ?_) AllReadyH.nil)
              go_simp
              refine (CA.out (W1) PX_1.out.2).mono ?_
              rintro e w6 ⟨hb6, rfl⟩
              have HB6 : Hid (BT B w w6) := HR.out.1.trans ((PX_1.out.2.trans (hb6.mono PX_1.out.2.size)).bt HBr.out)
              clear hb6
              go_wp2_with fail
              refine ⟨rfl, HB6.out, ?_⟩
              rw [HST.out]
          · go_simp
            refine (CA.out (w5.drew) PX_0.out.2).mono ?_
            rintro e w6 ⟨hb6, rfl⟩
            have HB6 : Hid (BT B w w6) := HR.out.1.trans ((PX_0.out.2.trans (hb6.mono PX_0.out.2.size)).bt HBr.out)
            clear hb6
            go_wp2_with fail
            refine ⟨rfl, HB6.out, ?_⟩
            rw [HST.out]
          · go_simp
            have hb1 : Below (Array.size (World.heap (w5.drew))) (w5.drew) (World.alloc (w5.drew) (.cells #[.int .i64 0, .string ⟨#[]⟩, .slice none 0 0, .slice none 0 0, .string ⟨#[]⟩, .slice none 0 0] 73)) := (Below.refl _ _).alloc (Nat.le_refl _) _
            have hz1 : (World.heap (World.alloc (w5.drew) (.cells #[.int .i64 0, .string ⟨#[]⟩, .slice none 0 0, .slice none 0 0, .string ⟨#[]⟩, .slice none 0 0] 73)))[(Array.size (World.heap (w5.drew)))]? = some (.cells #[.int .i64 0, .string ⟨#[]⟩, .slice none 0 0, .slice none 0 0, .string ⟨#[]⟩, .slice none 0 0] 73 (0, 0)) := World.alloc_heap_new _ _
            have hS1 : (World.heap (World.alloc (w5.drew) (.cells #[.int .i64 0, .string ⟨#[]⟩, .slice none 0 0, .slice none 0 0, .string ⟨#[]⟩, .slice none 0 0] 73)))[wr.heap.size]? = some (.cells #[.int .i64 d.kind, .int .i64 d.n, .string d.name, .int .i64 d.stamp, .int .i64 d.lib, .slice a' kn cap'] 26 (0, 0)) := (hb1.block _ (Array.getElem?_eq_some_iff.1 hS).1).trans hS
            change K _ (World.alloc (w5.drew) (.cells #[.int .i64 0, .string ⟨#[]⟩, .slice none 0 0, .slice none 0 0, .string ⟨#[]⟩, .slice none 0 0] 73))
            generalize (World.alloc (w5.drew) (.cells #[.int .i64 0, .string ⟨#[]⟩, .slice none 0 0, .slice none 0 0, .string ⟨#[]⟩, .slice none 0 0] 73)) = W1 at hb1 hz1 hS1 ⊢
            have PX_1 : Hid (PSx B pb f1 f2 f3 s'.name s'.exports is es ev (.slice ia is.length ic) bv (W1) ∧ Below wr.heap.size wr (W1)) := ⟨PX_0.out.1.below hb1, PX_0.out.2.trans (hb1.mono PX_0.out.2.size)⟩
            have ZZ_1 : Hid (W1.heap[(Array.size (World.heap (w5.drew)))]? = some (.cells #[.int .i64 0, .string ⟨#[]⟩, .slice none 0 0, .slice none 0 0, .string ⟨#[]⟩, .slice none 0 0] 73 (0, 0))) := hz1
            clear hb1 hz1
            refine hK.out _ _ hS1 (fun hS => ?_)
            clear hK K
            refine wpAnyH_ready (rs := [4, 6]) (by kernel_rfl) (by simp) (AllReadyH.cons (o := { dst := some 24, op := Op.load 28 (Operand.tmp 23), type := 28, pos := _, after := _, guard := none }) rfl (fun K hK => ?_) (AllReadyH.cons (o := { dst := some 26, op := Op.call { callee := Callee.value (Operand.func 130), args := #[Operand.tmp 25, Operand.const (Value.int IntKind.i64 1)], argTypes := #[26, 3] }, type := 73, pos := _, after := _, guard := none }) rfl (fun K hK => ?_) AllReadyH.nil))
            · have zo : World.cell? (W1) ⟨pb, 5, none⟩ = some (.slice ia is.length ic) := (cellO PX_1.out.1.blk).trans rfl
              go_simp
              clear zo
              refine hK.out _ _ hS (fun hS => ?_)
              clear hK K
              refine wpAnyH_take (i := 7) (oi := { dst := some 27, op := Op.call { callee := Callee.builtin Builtin.len, args := #[Operand.tmp 24], argTypes := #[28] }, type := 3, pos := _, after := _, guard := none }) (v := .int .i64 is.length) rfl (by kernel_rfl) (by kernel_rfl) (by kernel_rfl) (fun _ _ _ h => h) (Or.inl ⟨by rfl, fun u hu => by go_simp⟩) hS ?_
              simp only [Act.put, List.setIfInBounds_toArray, List.set_cons_zero, List.set_cons_succ]
              refine wpAnyH_ready (rs := [6]) (by kernel_rfl) (by simp) (AllReadyH.cons (o := { dst := some 26, op := Op.call { callee := Callee.value (Operand.func 130), args := #[Operand.tmp 25, Operand.const (Value.int IntKind.i64 1)], argTypes := #[26, 3] }, type := 73, pos := _, after := _, guard := none }) rfl (fun K hK => ?_) AllReadyH.nil)
              go_simp
              refine (CA.out (W1) PX_1.out.2).mono ?_
              rintro e w6 ⟨hb6, rfl⟩
              have HB6 : Hid (BT B w w6) := HR.out.1.trans ((PX_1.out.2.trans (hb6.mono PX_1.out.2.size)).bt HBr.out)
              clear hb6
              go_wp2_with fail
              refine ⟨rfl, HB6.out, ?_⟩
              rw [HST.out]
            · go_simp
              refine (CA.out (W1) PX_1.out.2).mono ?_
              rintro e w6 ⟨hb6, rfl⟩
              have HB6 : Hid (BT B w w6) := HR.out.1.trans ((PX_1.out.2.trans (hb6.mono PX_1.out.2.size)).bt HBr.out)
              clear hb6
              go_wp2_with fail
              refine ⟨rfl, HB6.out, ?_⟩
              rw [HST.out]
        | ok sx =>
          obtain ⟨sk, snm, sns, sas, sp, sks⟩ := sx
          rw [hE] at CA0 hst
          have CA : Hid (∀ W, Below wr.heap.size wr W → Calls Tryz.prog 130 #[.agg #[.int .i64 d.kind, .int .i64 d.n, .string d.name, .int .i64 d.stamp, .int .i64 d.lib, .slice a' kn cap'], .int .i64 1] W fun e w' => Below W.heap.size W w' ∧ ∃ v, e = .returned v ∧ SeT W (Se.mk sk snm sns sas sp sks) v w') := CA0
          have HST2 : Hid (importsF ds s = importsF (ds.drop (j + 1)) { s' with imports := s'.imports ++ [Se.mk sk snm sns sas sp sks] }) := hst
          clear CA0 hst hE hil
          go_wp2_with fail
          refine (HY.out _ _).mono ?_
          rintro e w5 ⟨rfl, rfl⟩
          clear hw1
          go_upto_region 4 with fail
          have k3 : (0 : Int) ≤ (is.length : Int) := by omega
          have k4 : (is.length : Int) < (is.length : Int) + 1 := by omega
          clear e5 c0 c1 c2 c3 c4 c5 y0 y1 y2 y3 y4 y5
          refine wp_region_held_drew (S := fun u => u.heap[wr.heap.size]? = some (.cells #[.int .i64 d.kind, .int .i64 d.n, .string d.name, .int .i64 d.stamp, .int .i64 d.lib, .slice a' kn cap'] 26 (0, 0))) (by kernel_rfl) (HS1.out) (fun hS => ?_)
          refine wpAnyH_take (i := 0) (oi := { dst := some 20, op := Op.move (Operand.tmp 0), type := 84, pos := _, after := _, guard := none }) (v := .pointer (some ⟨pb, 0, none⟩)) rfl (by kernel_rfl) (by kernel_rfl) (by kernel_rfl) (fun _ _ _ h => h) (Or.inl ⟨by rfl, fun u hu => by go_simp⟩) hS ?_
          simp only [Act.put, List.setIfInBounds_toArray, List.set_cons_zero, List.set_cons_succ]
          refine wpAnyH_take (i := 1) (oi := { dst := some 21, op := Op.nilCheck (Operand.tmp 20), type := 0, pos := _, after := _, guard := none }) (v := .pointer (some ⟨pb, 0, none⟩)) rfl (by kernel_rfl) (by kernel_rfl) (by kernel_rfl) (fun _ _ _ h => h) (Or.inl ⟨by rfl, fun u hu => by go_simp⟩) hS ?_
          simp only [Act.put, List.setIfInBounds_toArray, List.set_cons_zero, List.set_cons_succ]
          refine wpAnyH_take (i := 2) (oi := { dst := some 22, op := Op.fieldAddr 57 (Operand.tmp 21) 3, type := 0, pos := _, after := _, guard := none }) (v := .pointer (some ⟨pb, 3, none⟩)) rfl (by kernel_rfl) (by kernel_rfl) (by kernel_rfl) (fun _ _ _ h => h) (Or.inl ⟨by rfl, fun u hu => by go_simp⟩) hS ?_
          simp only [Act.put, List.setIfInBounds_toArray, List.set_cons_zero, List.set_cons_succ]
          refine wpAnyH_take (i := 3) (oi := { dst := some 23, op := Op.fieldAddr 30 (Operand.tmp 22) 2, type := 0, pos := _, after := _, guard := none }) (v := .pointer (some ⟨pb, 5, none⟩)) rfl (by kernel_rfl) (by kernel_rfl) (by kernel_rfl) (fun _ _ _ h => h) (Or.inl ⟨by rfl, fun u hu => by go_simp⟩) hS ?_
          simp only [Act.put, List.setIfInBounds_toArray, List.set_cons_zero, List.set_cons_succ]
          refine wpAnyH_take (i := 5) (oi := { dst := some 25, op := Op.load 26 (Operand.tmp 5), type := 26, pos := _, after := _, guard := none }) (v := .agg #[.int .i64 d.kind, .int .i64 d.n, .string d.name, .int .i64 d.stamp, .int .i64 d.lib, .slice a' kn cap']) rfl (by kernel_rfl) (by kernel_rfl) (by kernel_rfl) (fun _ _ _ h => h) (Or.inl ⟨by rfl, fun u hu => by (have z : ∀ q, u.cell? ⟨wr.heap.size, q, none⟩ = #[.int .i64 d.kind, .int .i64 d.n, .string d.name, .int .i64 d.stamp, .int .i64 d.lib, .slice a' kn cap'][q]? := (fun q => by simp [World.cell?, show u.heap[wr.heap.size]? = _ from hu]); have z0 := z 0; have z1 := z 1; have z2 := z 2; have z3 := z 3; have z4 := z 4; have z5 := z 5; simp at z0 z1 z2 z3 z4 z5; go_simp)⟩) hS ?_
          simp only [Act.put, List.setIfInBounds_toArray, List.set_cons_zero, List.set_cons_succ]
          refine wpAnyH_ready (rs := [4, 6, 8]) (by kernel_rfl) (by simp) (AllReadyH.cons (o := { dst := some 24, op := Op.load 28 (Operand.tmp 23), type := 28, pos := _, after := _, guard := none }) rfl (fun K hK => ?_) (AllReadyH.cons (o := { dst := some 26, op := Op.call { callee := Callee.value (Operand.func 130), args := #[Operand.tmp 25, Operand.const (Value.int IntKind.i64 1)], argTypes := #[26, 3] }, type := 73, pos := _, after := _, guard := none }) rfl (fun K hK => ?_) (AllReadyH.cons (o := { dst := some 28, op := Op.buildSlice 28 1 #[(0, Operand.const (Value.agg #[Value.int IntKind.i64 0, Value.string { data := #[] }, Value.slice none 0 0, Value.slice none 0 0, Value.string { data := #[] }, Value.slice none 0 0]))], type := 28, pos := _, after := _, guard := none }) rfl (fun K hK => ?_) AllReadyH.nil)))
          · have zo : World.cell? (w5.drew) ⟨pb, 5, none⟩ = some (.slice ia is.length ic) := (cellO PX_0.out.1.blk).trans rfl
            go_simp
            clear zo
            refine hK.out _ _ hS (fun hS => ?_)
            clear hK K
            refine wpAnyH_take (i := 7) (oi := { dst := some 27, op := Op.call { callee := Callee.builtin Builtin.len, args := #[Operand.tmp 24], argTypes := #[28] }, type := 3, pos := _, after := _, guard := none }) (v := .int .i64 is.length) rfl (by kernel_rfl) (by kernel_rfl) (by kernel_rfl) (fun _ _ _ h => h) (Or.inl ⟨by rfl, fun u hu => by go_simp⟩) hS ?_
            simp only [Act.put, List.setIfInBounds_toArray, List.set_cons_zero, List.set_cons_succ]
            refine wpAnyH_ready (rs := [6, 8]) (by kernel_rfl) (by simp) (AllReadyH.cons (o := { dst := some 26, op := Op.call { callee := Callee.value (Operand.func 130), args := #[Operand.tmp 25, Operand.const (Value.int IntKind.i64 1)], argTypes := #[26, 3] }, type := 73, pos := _, after := _, guard := none }) rfl (fun K hK => ?_) (AllReadyH.cons (o := { dst := some 28, op := Op.buildSlice 28 1 #[(0, Operand.const (Value.agg #[Value.int IntKind.i64 0, Value.string { data := #[] }, Value.slice none 0 0, Value.slice none 0 0, Value.string { data := #[] }, Value.slice none 0 0]))], type := 28, pos := _, after := _, guard := none }) rfl (fun K hK => ?_) AllReadyH.nil))
            · go_simp
              refine (CA.out (w5.drew) PX_0.out.2).mono ?_
              rintro e W1 ⟨hb1, v, rfl, nv, av, kv, rfl, g1, g2, g3⟩
              obtain ⟨na, nn, nc, rfl⟩ := SV.slice g1
              obtain ⟨aa, an, ac, rfl⟩ := SV.slice g2
              obtain ⟨ka, kn2, kc, rfl⟩ := SeL.slice g3
              have PX_1 : Hid (PSx B pb f1 f2 f3 s'.name s'.exports is es ev (.slice ia is.length ic) bv (W1) ∧ Below wr.heap.size wr (W1)) := ⟨PX_0.out.1.below hb1, PX_0.out.2.trans (hb1.mono PX_0.out.2.size)⟩
              have IK_1 : Hid (IE.ok (Fre B pb ev (.slice ia is.length ic) bv W1) W1 ⟨Se.mk sk snm sns sas sp sks, .slice na nn nc, .slice aa an ac, .slice ka kn2 kc⟩) := IE.stay (ok := fun k => Array.size (World.heap (w5.drew)) ≤ k ∧ k < W1.heap.size) (w := W1) (e := ⟨Se.mk sk snm sns sas sp sks, .slice na nn nc, .slice aa an ac, .slice ka kn2 kc⟩) ⟨g1, g2, g3⟩ (fun k hk => rfl) (fun k hk => PSx.fresh PX_0.out.1 hk.1 hk.2)
              have hS1 : W1.heap[wr.heap.size]? = some (.cells #[.int .i64 d.kind, .int .i64 d.n, .string d.name, .int .i64 d.stamp, .int .i64 d.lib, .slice a' kn cap'] 26 (0, 0)) := (hb1.block _ (Array.getElem?_eq_some_iff.1 hS).1).trans hS
              clear hb1 g1 g2 g3
              show K _ W1
              refine hK.out _ _ hS1 (fun hS => ?_)
              clear hK K
              refine wpAnyH_ready (rs := [8]) (by kernel_rfl) (by simp) (AllReadyH.cons (o := { dst := some 28, op := Op.buildSlice 28 1 #[(0, Operand.const (Value.agg #[Value.int IntKind.i64 0, Value.string { data := #[] }, Value.slice none 0 0, Value.slice none 0 0, Value.string { data := #[] }, Value.slice none 0 0]))], type := 28, pos := _, after := _, guard := none }) rfl (fun K hK => ?_) AllReadyH.nil)
              go_simp
              have hb2 : Below (Array.size (World.heap (W1))) (W1) (World.alloc (W1) (.cells #[.int .i64 0, .string ⟨#[]⟩, .slice none 0 0, .slice none 0 0, .string ⟨#[]⟩, .slice none 0 0] 73)) := (Below.refl _ _).alloc (Nat.le_refl _) _
              have hz2 : (World.heap (World.alloc (W1) (.cells #[.int .i64 0, .string ⟨#[]⟩, .slice none 0 0, .slice none 0 0, .string ⟨#[]⟩, .slice none 0 0] 73)))[(Array.size (World.heap (W1)))]? = some (.cells #[.int .i64 0, .string ⟨#[]⟩, .slice none 0 0, .slice none 0 0, .string ⟨#[]⟩, .slice none 0 0] 73 (0, 0)) := World.alloc_heap_new _ _
              have hS2 : (World.heap (World.alloc (W1) (.cells #[.int .i64 0, .string ⟨#[]⟩, .slice none 0 0, .slice none 0 0, .string ⟨#[]⟩, .slice none 0 0] 73)))[wr.heap.size]? = some (.cells #[.int .i64 d.kind, .int .i64 d.n, .string d.name, .int .i64 d.stamp, .int .i64 d.lib, .slice a' kn cap'] 26 (0, 0)) := (hb2.block _ (Array.getElem?_eq_some_iff.1 hS).1).trans hS
              change K _ (World.alloc (W1) (.cells #[.int .i64 0, .string ⟨#[]⟩, .slice none 0 0, .slice none 0 0, .string ⟨#[]⟩, .slice none 0 0] 73))
              generalize (World.alloc (W1) (.cells #[.int .i64 0, .string ⟨#[]⟩, .slice none 0 0, .slice none 0 0, .string ⟨#[]⟩, .slice none 0 0] 73)) = W2 at hb2 hz2 hS2 ⊢
              have PX_2 : Hid (PSx B pb f1 f2 f3 s'.name s'.exports is es ev (.slice ia is.length ic) bv (W2) ∧ Below wr.heap.size wr (W2)) := ⟨PX_1.out.1.below hb2, PX_1.out.2.trans (hb2.mono PX_1.out.2.size)⟩
              have IK_2 : Hid (IE.ok (Fre B pb ev (.slice ia is.length ic) bv (W2)) (W2) ⟨Se.mk sk snm sns sas sp sks, .slice na nn nc, .slice aa an ac, .slice ka kn2 kc⟩) := IE.after IK_1.out hb2
              have ZZ_2 : Hid (W2.heap[(Array.size (World.heap (W1)))]? = some (.cells #[.int .i64 0, .string ⟨#[]⟩, .slice none 0 0, .slice none 0 0, .string ⟨#[]⟩, .slice none 0 0] 73 (0, 0))) := hz2
              clear hb2 hz2
              refine hK.out _ _ hS2 (fun hS => ?_)
              clear hK K
              refine wpAnyH_ready (rs := [9]) (by kernel_rfl) (by simp) (AllReadyH.cons (o := { dst := some 29, op := Op.call { callee := Callee.builtin Builtin.append, args := #[Operand.tmp 24, Operand.tmp 28], argTypes := #[28, 28] }, type := 28, pos := _, after := _, guard := none }) rfl (fun K hK => ?_) AllReadyH.nil)
              refine step_append_lies _ rfl (.tmp 24) (.tmp 28) 28 rfl B 73 i0 _ 6 112 Tryz.underlying28 hinf hz0 hz1 hz2 rfl (by decide) (.slice ia is.length ic) is.length (flatI is) rfl (by exact PX_2.out.1.io) ⟨(Array.size (World.heap (W1))), 0, none⟩ 1 1 zeroI rfl rfl ?_ ?_ (by decide) ?_ ?_ ?_ (Array.size (World.heap (W2))) rfl ?_
              · intro q u hq
                rw [addr_add]
                exact (cellO ZZ_2.out).trans (by simpa [zeroI] using hq)
              · intro u hu
                simp [zeroI] at hu
                rcases hu with rfl | rfl | rfl | rfl | rfl | rfl <;> rfl
              · have := HISL.out; unfold maxLen; omega
              · have := HISL.out; omega
              · exact PSx.hs PX_2.out.1
              intro g cp w4 hown hgrow hat hlt4
              have HB := hidd (imp_both (e := ⟨Se.mk sk snm sns sas sp sks, .slice na nn nc, .slice aa an ac, .slice ka kn2 kc⟩) PX_2.out.1 IK_2.out hown hgrow hat rfl)
              obtain ⟨g', cp', cur, hs, hbg, hgl, hcur, hcl, -⟩ := own_six hown (flatI_len is) rfl
              have hs1 : g = g' ∧ cp = cp' := by simpa using hs
              obtain ⟨rfl, rfl⟩ := hs1
              clear hs
              have hpb4 : w4.heap[pb]? = some (.cells #[f1, f2, f3, .string s'.name, ev, .slice ia is.length ic, bv] 57 (0, 0)) := (hgrow.block pb (Array.getElem?_eq_some_iff.1 PX_2.out.1.blk).1 (fun e => own_pb PX_2.out.1.io PX_2.out.1.blk (by decide) e.symm rfl)).trans PX_2.out.1.blk
              have hS4 : w4.heap[wr.heap.size]? = some (.cells #[.int .i64 d.kind, .int .i64 d.n, .string d.name, .int .i64 d.stamp, .int .i64 d.lib, .slice a' kn cap'] 26 (0, 0)) := (hgrow.block _ (Array.getElem?_eq_some_iff.1 hS).1 (fun e => own_box PX_2.out.1.io hS (by decide) e.symm)).trans hS
              have hgb : wr.heap.size ≠ g := fun e => own_box' hcur hS4 (by decide) e.symm
              have hpbb : wr.heap.size ≠ pb := fun e => own_box' hpb4 hS4 (by decide) e.symm
              have hgp : g ≠ pb := fun e => own_box' hcur hpb4 (by decide) e
              have H4 : Hid (w4.heap[g]? = some (.cells cur 73 (0, 0)) ∧ (is.length + 1) * 6 ≤ cur.size ∧ wr.heap.size ≠ g ∧ wr.heap.size ≠ pb ∧ g ≠ pb) := ⟨hcur, hcl, hgb, hpbb, hgp⟩
              have HP4 := hidd hpb4
              have HBB : Hid (True ∧ Below wr.heap.size wr (W2)) := ⟨trivial, PX_2.out.2⟩
              clear hown hgrow hat hlt4 hbg hgl hcur hcl hpb4 hgb hpbb hgp
              show K _ w4
              refine hK.out _ _ hS4 (fun hS => ?_)
              clear hK K
              refine wpAnyH_take (i := 10) (oi := { dst := some 30, op := Op.indexAddr 28 (Operand.tmp 29) (Operand.tmp 27), type := 0, pos := _, after := _, guard := none }) (v := .pointer (some ⟨g, is.length * 6, none⟩)) rfl (by kernel_rfl) (by kernel_rfl) (by kernel_rfl) (fun _ _ _ h => h) (Or.inl ⟨by rfl, fun u hu => by go_simp⟩) hS ?_
              simp only [Act.put, List.setIfInBounds_toArray, List.set_cons_zero, List.set_cons_succ]
              refine wpAnyH_take (i := 12) (oi := { dst := some 31, op := Op.nilCheck (Operand.tmp 20), type := 0, pos := _, after := _, guard := none }) (v := .pointer (some ⟨pb, 0, none⟩)) rfl (by kernel_rfl) (by kernel_rfl) (by kernel_rfl) (fun _ _ _ h => h) (Or.inl ⟨by rfl, fun u hu => by go_simp⟩) hS ?_
              simp only [Act.put, List.setIfInBounds_toArray, List.set_cons_zero, List.set_cons_succ]
              refine wpAnyH_take (i := 13) (oi := { dst := some 32, op := Op.fieldAddr 57 (Operand.tmp 31) 3, type := 0, pos := _, after := _, guard := none }) (v := .pointer (some ⟨pb, 3, none⟩)) rfl (by kernel_rfl) (by kernel_rfl) (by kernel_rfl) (fun _ _ _ h => h) (Or.inl ⟨by rfl, fun u hu => by go_simp⟩) hS ?_
              simp only [Act.put, List.setIfInBounds_toArray, List.set_cons_zero, List.set_cons_succ]
              refine wpAnyH_take (i := 14) (oi := { dst := some 33, op := Op.fieldAddr 30 (Operand.tmp 32) 2, type := 0, pos := _, after := _, guard := none }) (v := .pointer (some ⟨pb, 5, none⟩)) rfl (by kernel_rfl) (by kernel_rfl) (by kernel_rfl) (fun _ _ _ h => h) (Or.inl ⟨by rfl, fun u hu => by go_simp⟩) hS ?_
              simp only [Act.put, List.setIfInBounds_toArray, List.set_cons_zero, List.set_cons_succ]
              refine wpAnyH_ready (rs := [11, 15]) (by kernel_rfl) (by simp) (AllReadyH.cons (o := { dst := none, op := Op.store 73 (Operand.tmp 30) (Operand.tmp 26), type := 0, pos := _, after := _, guard := none }) rfl (fun K hK => ?_) (AllReadyH.cons (o := { dst := none, op := Op.store 28 (Operand.tmp 33) (Operand.tmp 29), type := 0, pos := _, after := _, guard := none }) rfl (fun K hK => ?_) AllReadyH.nil))
              · have hcu : (World.heap (w4))[g]? = some (.cells cur 73 (0, 0)) := H4.out.1
                have hcs := H4.out.2.1
                obtain ⟨x0, y0⟩ : ∃ x, World.cell? (w4) ⟨g, is.length * 6, none⟩ = some x := ⟨_, (cellO hcu).trans (Array.getElem?_eq_getElem (by omega))⟩
                have u0 : World.frozen? (w4) ⟨g, is.length * 6, none⟩ = false := looseO hcu
                obtain ⟨x1, y1⟩ : ∃ x, World.cell? (w4) ⟨g, is.length * 6 + 1, none⟩ = some x := ⟨_, (cellO hcu).trans (Array.getElem?_eq_getElem (by omega))⟩
                have u1 : World.frozen? (w4) ⟨g, is.length * 6 + 1, none⟩ = false := looseO hcu
                obtain ⟨x2, y2⟩ : ∃ x, World.cell? (w4) ⟨g, is.length * 6 + 2, none⟩ = some x := ⟨_, (cellO hcu).trans (Array.getElem?_eq_getElem (by omega))⟩
                have u2 : World.frozen? (w4) ⟨g, is.length * 6 + 2, none⟩ = false := looseO hcu
                obtain ⟨x3, y3⟩ : ∃ x, World.cell? (w4) ⟨g, is.length * 6 + 3, none⟩ = some x := ⟨_, (cellO hcu).trans (Array.getElem?_eq_getElem (by omega))⟩
                have u3 : World.frozen? (w4) ⟨g, is.length * 6 + 3, none⟩ = false := looseO hcu
                obtain ⟨x4, y4⟩ : ∃ x, World.cell? (w4) ⟨g, is.length * 6 + 4, none⟩ = some x := ⟨_, (cellO hcu).trans (Array.getElem?_eq_getElem (by omega))⟩
                have u4 : World.frozen? (w4) ⟨g, is.length * 6 + 4, none⟩ = false := looseO hcu
                obtain ⟨x5, y5⟩ : ∃ x, World.cell? (w4) ⟨g, is.length * 6 + 5, none⟩ = some x := ⟨_, (cellO hcu).trans (Array.getElem?_eq_getElem (by omega))⟩
                have u5 : World.frozen? (w4) ⟨g, is.length * 6 + 5, none⟩ = false := looseO hcu
                clear hcu hcs
                go_simp
                clear y0 u0 y1 u1 y2 u2 y3 u3 y4 u4 y5 u5
                have hS3 : (World.heap (sixW (w4) g (is.length * 6) (.int .i64 sk) (.string snm) (.slice na nn nc) (.slice aa an ac) (.string sp) (.slice ka kn2 kc)))[wr.heap.size]? = some (.cells #[.int .i64 d.kind, .int .i64 d.n, .string d.name, .int .i64 d.stamp, .int .i64 d.lib, .slice a' kn cap'] 26 (0, 0)) := (sixW_far _ g _ _ H4.out.2.2.1 _ _ _ _ _ _).trans hS
                show K _ (sixW (w4) g (is.length * 6) (.int .i64 sk) (.string snm) (.slice na nn nc) (.slice aa an ac) (.string sp) (.slice ka kn2 kc))
                refine hK.out _ _ hS3 (fun hS => ?_)
                clear hK K
                refine wpAnyH_ready (rs := [15]) (by kernel_rfl) (by simp) (AllReadyH.cons (o := { dst := none, op := Op.store 28 (Operand.tmp 33) (Operand.tmp 29), type := 0, pos := _, after := _, guard := none }) rfl (fun K hK => ?_) AllReadyH.nil)
                have hpu : (World.heap ((sixW (w4) g (is.length * 6) (.int .i64 sk) (.string snm) (.slice na nn nc) (.slice aa an ac) (.string sp) (.slice ka kn2 kc))))[pb]? = _ := ((sixW_far _ g _ pb (fun e => H4.out.2.2.2.2 e.symm) _ _ _ _ _ _).trans HP4.out)
                have y5 : World.cell? ((sixW (w4) g (is.length * 6) (.int .i64 sk) (.string snm) (.slice na nn nc) (.slice aa an ac) (.string sp) (.slice ka kn2 kc))) ⟨pb, 5, none⟩ = some (.slice ia is.length ic) := (cellO hpu).trans rfl
                have u5 : World.frozen? ((sixW (w4) g (is.length * 6) (.int .i64 sk) (.string snm) (.slice na nn nc) (.slice aa an ac) (.string sp) (.slice ka kn2 kc))) ⟨pb, 5, none⟩ = false := looseO hpu
                clear hpu
                go_simp
                clear y5 u5
                have hS4 : (World.heap (World.setCell ((sixW (w4) g (is.length * 6) (.int .i64 sk) (.string snm) (.slice na nn nc) (.slice aa an ac) (.string sp) (.slice ka kn2 kc))) ⟨pb, 5, none⟩ (.slice (some ⟨g, 0, none⟩) (is.length + 1) cp)))[wr.heap.size]? = some (.cells #[.int .i64 d.kind, .int .i64 d.n, .string d.name, .int .i64 d.stamp, .int .i64 d.lib, .slice a' kn cap'] 26 (0, 0)) := (Below.heap_setCell _ _ _ _ (show wr.heap.size ≠ pb from H4.out.2.2.2.1)).trans hS
                show K _ (World.setCell ((sixW (w4) g (is.length * 6) (.int .i64 sk) (.string snm) (.slice na nn nc) (.slice aa an ac) (.string sp) (.slice ka kn2 kc))) ⟨pb, 5, none⟩ (.slice (some ⟨g, 0, none⟩) (is.length + 1) cp))
                refine hK.out _ _ hS4 (fun hS => ?_)
                clear hK K
                refine wpAnyH_done (by kernel_rfl) ?_ _
                have HF : Hid (BT B w ((World.setCell ((sixW (w4) g (is.length * 6) (.int .i64 sk) (.string snm) (.slice na nn nc) (.slice aa an ac) (.string sp) (.slice ka kn2 kc))) ⟨pb, 5, none⟩ (.slice (some ⟨g, 0, none⟩) (is.length + 1) cp))) ∧ PS B pb f1 f2 f3 { s' with imports := s'.imports ++ [Se.mk sk snm sns sas sp sks] } (World.setCell ((sixW (w4) g (is.length * 6) (.int .i64 sk) (.string snm) (.slice na nn nc) (.slice aa an ac) (.string sp) (.slice ka kn2 kc))) ⟨pb, 5, none⟩ (.slice (some ⟨g, 0, none⟩) (is.length + 1) cp)) ∧ (s'.imports ++ [Se.mk sk snm sns sas sp sks]).length ≤ 20) := ⟨HR.out.1.trans ((HBB.out.2.bt HBr.out).trans HB.out.1.2), ⟨is ++ [⟨Se.mk sk snm sns sas sp sks, .slice na nn nc, .slice aa an ac, .slice ka kn2 kc⟩], es, ev, _, bv, HB.out.1.1, by rw [List.map_append, H1E.out.1]; rfl, H1E.out.2⟩, by simp; omega⟩
                generalize (World.setCell ((sixW (w4) g (is.length * 6) (.int .i64 sk) (.string snm) (.slice na nn nc) (.slice aa an ac) (.string sp) (.slice ka kn2 kc))) ⟨pb, 5, none⟩ (.slice (some ⟨g, 0, none⟩) (is.length + 1) cp)) = Wf at HF ⊢
                clear HB HBB H4 HP4 hS
                go_wp2_with fail
                go_roundw
                case rel => exact ⟨j + 1, { s' with imports := s'.imports ++ [Se.mk sk snm sns sas sp sks] }, hlt, by go_num, HF.out.1, HF.out.2.1, HST2.out, HF.out.2.2⟩
                case measure => simp [intOf]; omega
              · have hpu : (World.heap (w4))[pb]? = _ := HP4.out
                have y5 : World.cell? (w4) ⟨pb, 5, none⟩ = some (.slice ia is.length ic) := (cellO hpu).trans rfl
                have u5 : World.frozen? (w4) ⟨pb, 5, none⟩ = false := looseO hpu
                clear hpu
                go_simp
                clear y5 u5
                have hS3 : (World.heap (World.setCell (w4) ⟨pb, 5, none⟩ (.slice (some ⟨g, 0, none⟩) (is.length + 1) cp)))[wr.heap.size]? = some (.cells #[.int .i64 d.kind, .int .i64 d.n, .string d.name, .int .i64 d.stamp, .int .i64 d.lib, .slice a' kn cap'] 26 (0, 0)) := (Below.heap_setCell _ _ _ _ (show wr.heap.size ≠ pb from H4.out.2.2.2.1)).trans hS
                show K _ (World.setCell (w4) ⟨pb, 5, none⟩ (.slice (some ⟨g, 0, none⟩) (is.length + 1) cp))
                refine hK.out _ _ hS3 (fun hS => ?_)
                clear hK K
                refine wpAnyH_ready (rs := [11]) (by kernel_rfl) (by simp) (AllReadyH.cons (o := { dst := none, op := Op.store 73 (Operand.tmp 30) (Operand.tmp 26), type := 0, pos := _, after := _, guard := none }) rfl (fun K hK => ?_) AllReadyH.nil)
                have hcu : (World.heap ((World.setCell (w4) ⟨pb, 5, none⟩ (.slice (some ⟨g, 0, none⟩) (is.length + 1) cp))))[g]? = some (.cells cur 73 (0, 0)) := ((Below.heap_setCell _ _ _ _ (show g ≠ pb from H4.out.2.2.2.2)).trans H4.out.1)
                have hcs := H4.out.2.1
                obtain ⟨x0, y0⟩ : ∃ x, World.cell? ((World.setCell (w4) ⟨pb, 5, none⟩ (.slice (some ⟨g, 0, none⟩) (is.length + 1) cp))) ⟨g, is.length * 6, none⟩ = some x := ⟨_, (cellO hcu).trans (Array.getElem?_eq_getElem (by omega))⟩
                have u0 : World.frozen? ((World.setCell (w4) ⟨pb, 5, none⟩ (.slice (some ⟨g, 0, none⟩) (is.length + 1) cp))) ⟨g, is.length * 6, none⟩ = false := looseO hcu
                obtain ⟨x1, y1⟩ : ∃ x, World.cell? ((World.setCell (w4) ⟨pb, 5, none⟩ (.slice (some ⟨g, 0, none⟩) (is.length + 1) cp))) ⟨g, is.length * 6 + 1, none⟩ = some x := ⟨_, (cellO hcu).trans (Array.getElem?_eq_getElem (by omega))⟩
                have u1 : World.frozen? ((World.setCell (w4) ⟨pb, 5, none⟩ (.slice (some ⟨g, 0, none⟩) (is.length + 1) cp))) ⟨g, is.length * 6 + 1, none⟩ = false := looseO hcu
                obtain ⟨x2, y2⟩ : ∃ x, World.cell? ((World.setCell (w4) ⟨pb, 5, none⟩ (.slice (some ⟨g, 0, none⟩) (is.length + 1) cp))) ⟨g, is.length * 6 + 2, none⟩ = some x := ⟨_, (cellO hcu).trans (Array.getElem?_eq_getElem (by omega))⟩
                have u2 : World.frozen? ((World.setCell (w4) ⟨pb, 5, none⟩ (.slice (some ⟨g, 0, none⟩) (is.length + 1) cp))) ⟨g, is.length * 6 + 2, none⟩ = false := looseO hcu
                obtain ⟨x3, y3⟩ : ∃ x, World.cell? ((World.setCell (w4) ⟨pb, 5, none⟩ (.slice (some ⟨g, 0, none⟩) (is.length + 1) cp))) ⟨g, is.length * 6 + 3, none⟩ = some x := ⟨_, (cellO hcu).trans (Array.getElem?_eq_getElem (by omega))⟩
                have u3 : World.frozen? ((World.setCell (w4) ⟨pb, 5, none⟩ (.slice (some ⟨g, 0, none⟩) (is.length + 1) cp))) ⟨g, is.length * 6 + 3, none⟩ = false := looseO hcu
                obtain ⟨x4, y4⟩ : ∃ x, World.cell? ((World.setCell (w4) ⟨pb, 5, none⟩ (.slice (some ⟨g, 0, none⟩) (is.length + 1) cp))) ⟨g, is.length * 6 + 4, none⟩ = some x := ⟨_, (cellO hcu).trans (Array.getElem?_eq_getElem (by omega))⟩
                have u4 : World.frozen? ((World.setCell (w4) ⟨pb, 5, none⟩ (.slice (some ⟨g, 0, none⟩) (is.length + 1) cp))) ⟨g, is.length * 6 + 4, none⟩ = false := looseO hcu
                obtain ⟨x5, y5⟩ : ∃ x, World.cell? ((World.setCell (w4) ⟨pb, 5, none⟩ (.slice (some ⟨g, 0, none⟩) (is.length + 1) cp))) ⟨g, is.length * 6 + 5, none⟩ = some x := ⟨_, (cellO hcu).trans (Array.getElem?_eq_getElem (by omega))⟩
                have u5 : World.frozen? ((World.setCell (w4) ⟨pb, 5, none⟩ (.slice (some ⟨g, 0, none⟩) (is.length + 1) cp))) ⟨g, is.length * 6 + 5, none⟩ = false := looseO hcu
                clear hcu hcs
                go_simp
                clear y0 u0 y1 u1 y2 u2 y3 u3 y4 u4 y5 u5
                have hS4 : (World.heap (sixW ((World.setCell (w4) ⟨pb, 5, none⟩ (.slice (some ⟨g, 0, none⟩) (is.length + 1) cp))) g (is.length * 6) (.int .i64 sk) (.string snm) (.slice na nn nc) (.slice aa an ac) (.string sp) (.slice ka kn2 kc)))[wr.heap.size]? = some (.cells #[.int .i64 d.kind, .int .i64 d.n, .string d.name, .int .i64 d.stamp, .int .i64 d.lib, .slice a' kn cap'] 26 (0, 0)) := (sixW_far _ g _ _ H4.out.2.2.1 _ _ _ _ _ _).trans hS
                show K _ (sixW ((World.setCell (w4) ⟨pb, 5, none⟩ (.slice (some ⟨g, 0, none⟩) (is.length + 1) cp))) g (is.length * 6) (.int .i64 sk) (.string snm) (.slice na nn nc) (.slice aa an ac) (.string sp) (.slice ka kn2 kc))
                refine hK.out _ _ hS4 (fun hS => ?_)
                clear hK K
                refine wpAnyH_done (by kernel_rfl) ?_ _
                have HF : Hid (BT B w ((sixW ((World.setCell (w4) ⟨pb, 5, none⟩ (.slice (some ⟨g, 0, none⟩) (is.length + 1) cp))) g (is.length * 6) (.int .i64 sk) (.string snm) (.slice na nn nc) (.slice aa an ac) (.string sp) (.slice ka kn2 kc))) ∧ PS B pb f1 f2 f3 { s' with imports := s'.imports ++ [Se.mk sk snm sns sas sp sks] } (sixW ((World.setCell (w4) ⟨pb, 5, none⟩ (.slice (some ⟨g, 0, none⟩) (is.length + 1) cp))) g (is.length * 6) (.int .i64 sk) (.string snm) (.slice na nn nc) (.slice aa an ac) (.string sp) (.slice ka kn2 kc)) ∧ (s'.imports ++ [Se.mk sk snm sns sas sp sks]).length ≤ 20) := ⟨HR.out.1.trans ((HBB.out.2.bt HBr.out).trans HB.out.2.2), ⟨is ++ [⟨Se.mk sk snm sns sas sp sks, .slice na nn nc, .slice aa an ac, .slice ka kn2 kc⟩], es, ev, _, bv, HB.out.2.1, by rw [List.map_append, H1E.out.1]; rfl, H1E.out.2⟩, by simp; omega⟩
                generalize (sixW ((World.setCell (w4) ⟨pb, 5, none⟩ (.slice (some ⟨g, 0, none⟩) (is.length + 1) cp))) g (is.length * 6) (.int .i64 sk) (.string snm) (.slice na nn nc) (.slice aa an ac) (.string sp) (.slice ka kn2 kc)) = Wf at HF ⊢
                clear HB HBB H4 HP4 hS
                go_wp2_with fail
                go_roundw
                case rel => exact ⟨j + 1, { s' with imports := s'.imports ++ [Se.mk sk snm sns sas sp sks] }, hlt, by go_num, HF.out.1, HF.out.2.1, HST2.out, HF.out.2.2⟩
                case measure => simp [intOf]; omega
            · go_simp
              have hb1 : Below (Array.size (World.heap (w5.drew))) (w5.drew) (World.alloc (w5.drew) (.cells #[.int .i64 0, .string ⟨#[]⟩, .slice none 0 0, .slice none 0 0, .string ⟨#[]⟩, .slice none 0 0] 73)) := (Below.refl _ _).alloc (Nat.le_refl _) _
              have hz1 : (World.heap (World.alloc (w5.drew) (.cells #[.int .i64 0, .string ⟨#[]⟩, .slice none 0 0, .slice none 0 0, .string ⟨#[]⟩, .slice none 0 0] 73)))[(Array.size (World.heap (w5.drew)))]? = some (.cells #[.int .i64 0, .string ⟨#[]⟩, .slice none 0 0, .slice none 0 0, .string ⟨#[]⟩, .slice none 0 0] 73 (0, 0)) := World.alloc_heap_new _ _
              have hS1 : (World.heap (World.alloc (w5.drew) (.cells #[.int .i64 0, .string ⟨#[]⟩, .slice none 0 0, .slice none 0 0, .string ⟨#[]⟩, .slice none 0 0] 73)))[wr.heap.size]? = some (.cells #[.int .i64 d.kind, .int .i64 d.n, .string d.name, .int .i64 d.stamp, .int .i64 d.lib, .slice a' kn cap'] 26 (0, 0)) := (hb1.block _ (Array.getElem?_eq_some_iff.1 hS).1).trans hS
              change K _ (World.alloc (w5.drew) (.cells #[.int .i64 0, .string ⟨#[]⟩, .slice none 0 0, .slice none 0 0, .string ⟨#[]⟩, .slice none 0 0] 73))
              generalize (World.alloc (w5.drew) (.cells #[.int .i64 0, .string ⟨#[]⟩, .slice none 0 0, .slice none 0 0, .string ⟨#[]⟩, .slice none 0 0] 73)) = W1 at hb1 hz1 hS1 ⊢
              have PX_1 : Hid (PSx B pb f1 f2 f3 s'.name s'.exports is es ev (.slice ia is.length ic) bv (W1) ∧ Below wr.heap.size wr (W1)) := ⟨PX_0.out.1.below hb1, PX_0.out.2.trans (hb1.mono PX_0.out.2.size)⟩
              have ZZ_1 : Hid (W1.heap[(Array.size (World.heap (w5.drew)))]? = some (.cells #[.int .i64 0, .string ⟨#[]⟩, .slice none 0 0, .slice none 0 0, .string ⟨#[]⟩, .slice none 0 0] 73 (0, 0))) := hz1
              clear hb1 hz1
              refine hK.out _ _ hS1 (fun hS => ?_)
              clear hK K
              refine wpAnyH_ready (rs := [6]) (by kernel_rfl) (by simp) (AllReadyH.cons (o := { dst := some 26, op := Op.call { callee := Callee.value (Operand.func 130), args := #[Operand.tmp 25, Operand.const (Value.int IntKind.i64 1)], argTypes := #[26, 3] }, type := 73, pos := _, after := _, guard := none }) rfl (fun K hK => ?_) AllReadyH.nil)
              go_simp
              refine (CA.out (W1) PX_1.out.2).mono ?_
              rintro e W2 ⟨hb2, v, rfl, nv, av, kv, rfl, g1, g2, g3⟩
              obtain ⟨na, nn, nc, rfl⟩ := SV.slice g1
              obtain ⟨aa, an, ac, rfl⟩ := SV.slice g2
              obtain ⟨ka, kn2, kc, rfl⟩ := SeL.slice g3
              have PX_2 : Hid (PSx B pb f1 f2 f3 s'.name s'.exports is es ev (.slice ia is.length ic) bv (W2) ∧ Below wr.heap.size wr (W2)) := ⟨PX_1.out.1.below hb2, PX_1.out.2.trans (hb2.mono PX_1.out.2.size)⟩
              have ZZ_2 : Hid ((World.heap (W2))[(Array.size (World.heap (w5.drew)))]? = some (.cells #[.int .i64 0, .string ⟨#[]⟩, .slice none 0 0, .slice none 0 0, .string ⟨#[]⟩, .slice none 0 0] 73 (0, 0))) := (hb2.block _ (Array.getElem?_eq_some_iff.1 ZZ_1.out).1).trans ZZ_1.out
              have IK_2 : Hid (IE.ok (Fre B pb ev (.slice ia is.length ic) bv W2) W2 ⟨Se.mk sk snm sns sas sp sks, .slice na nn nc, .slice aa an ac, .slice ka kn2 kc⟩) := IE.stay (ok := fun k => Array.size (World.heap (W1)) ≤ k ∧ k < W2.heap.size) (w := W2) (e := ⟨Se.mk sk snm sns sas sp sks, .slice na nn nc, .slice aa an ac, .slice ka kn2 kc⟩) ⟨g1, g2, g3⟩ (fun k hk => rfl) (fun k hk => PSx.fresh PX_1.out.1 hk.1 hk.2)
              have hS2 : W2.heap[wr.heap.size]? = some (.cells #[.int .i64 d.kind, .int .i64 d.n, .string d.name, .int .i64 d.stamp, .int .i64 d.lib, .slice a' kn cap'] 26 (0, 0)) := (hb2.block _ (Array.getElem?_eq_some_iff.1 hS).1).trans hS
              clear hb2 g1 g2 g3
              show K _ W2
              refine hK.out _ _ hS2 (fun hS => ?_)
              clear hK K
              refine wpAnyH_ready (rs := [9]) (by kernel_rfl) (by simp) (AllReadyH.cons (o := { dst := some 29, op := Op.call { callee := Callee.builtin Builtin.append, args := #[Operand.tmp 24, Operand.tmp 28], argTypes := #[28, 28] }, type := 28, pos := _, after := _, guard := none }) rfl (fun K hK => ?_) AllReadyH.nil)
              refine step_append_lies _ rfl (.tmp 24) (.tmp 28) 28 rfl B 73 i0 _ 6 112 Tryz.underlying28 hinf hz0 hz1 hz2 rfl (by decide) (.slice ia is.length ic) is.length (flatI is) rfl (by exact PX_2.out.1.io) ⟨(Array.size (World.heap (w5))), 0, none⟩ 1 1 zeroI rfl rfl ?_ ?_ (by decide) ?_ ?_ ?_ (Array.size (World.heap (W2))) rfl ?_
              · intro q u hq
                rw [addr_add]
                exact (cellO ZZ_2.out).trans (by simpa [zeroI] using hq)
              · intro u hu
                simp [zeroI] at hu
                rcases hu with rfl | rfl | rfl | rfl | rfl | rfl <;> rfl
              · have := HISL.out; unfold maxLen; omega
              · have := HISL.out; omega
              · exact PSx.hs PX_2.out.1
              intro g cp w4 hown hgrow hat hlt4
              have HB := hidd (imp_both (e := ⟨Se.mk sk snm sns sas sp sks, .slice na nn nc, .slice aa an ac, .slice ka kn2 kc⟩) PX_2.out.1 IK_2.out hown hgrow hat rfl)
              obtain ⟨g', cp', cur, hs, hbg, hgl, hcur, hcl, -⟩ := own_six hown (flatI_len is) rfl
              have hs1 : g = g' ∧ cp = cp' := by simpa using hs
              obtain ⟨rfl, rfl⟩ := hs1
              clear hs
              have hpb4 : w4.heap[pb]? = some (.cells #[f1, f2, f3, .string s'.name, ev, .slice ia is.length ic, bv] 57 (0, 0)) := (hgrow.block pb (Array.getElem?_eq_some_iff.1 PX_2.out.1.blk).1 (fun e => own_pb PX_2.out.1.io PX_2.out.1.blk (by decide) e.symm rfl)).trans PX_2.out.1.blk
              have hS4 : w4.heap[wr.heap.size]? = some (.cells #[.int .i64 d.kind, .int .i64 d.n, .string d.name, .int .i64 d.stamp, .int .i64 d.lib, .slice a' kn cap'] 26 (0, 0)) := (hgrow.block _ (Array.getElem?_eq_some_iff.1 hS).1 (fun e => own_box PX_2.out.1.io hS (by decide) e.symm)).trans hS
              have hgb : wr.heap.size ≠ g := fun e => own_box' hcur hS4 (by decide) e.symm
              have hpbb : wr.heap.size ≠ pb := fun e => own_box' hpb4 hS4 (by decide) e.symm
              have hgp : g ≠ pb := fun e => own_box' hcur hpb4 (by decide) e
              have H4 : Hid (w4.heap[g]? = some (.cells cur 73 (0, 0)) ∧ (is.length + 1) * 6 ≤ cur.size ∧ wr.heap.size ≠ g ∧ wr.heap.size ≠ pb ∧ g ≠ pb) := ⟨hcur, hcl, hgb, hpbb, hgp⟩
              have HP4 := hidd hpb4
              have HBB : Hid (True ∧ Below wr.heap.size wr (W2)) := ⟨trivial, PX_2.out.2⟩
              clear hown hgrow hat hlt4 hbg hgl hcur hcl hpb4 hgb hpbb hgp
              show K _ w4
              refine hK.out _ _ hS4 (fun hS => ?_)
              clear hK K
              refine wpAnyH_take (i := 10) (oi := { dst := some 30, op := Op.indexAddr 28 (Operand.tmp 29) (Operand.tmp 27), type := 0, pos := _, after := _, guard := none }) (v := .pointer (some ⟨g, is.length * 6, none⟩)) rfl (by kernel_rfl) (by kernel_rfl) (by kernel_rfl) (fun _ _ _ h => h) (Or.inl ⟨by rfl, fun u hu => by go_simp⟩) hS ?_
              simp only [Act.put, List.setIfInBounds_toArray, List.set_cons_zero, List.set_cons_succ]
              refine wpAnyH_take (i := 12) (oi := { dst := some 31, op := Op.nilCheck (Operand.tmp 20), type := 0, pos := _, after := _, guard := none }) (v := .pointer (some ⟨pb, 0, none⟩)) rfl (by kernel_rfl) (by kernel_rfl) (by kernel_rfl) (fun _ _ _ h => h) (Or.inl ⟨by rfl, fun u hu => by go_simp⟩) hS ?_
              simp only [Act.put, List.setIfInBounds_toArray, List.set_cons_zero, List.set_cons_succ]
              refine wpAnyH_take (i := 13) (oi := { dst := some 32, op := Op.fieldAddr 57 (Operand.tmp 31) 3, type := 0, pos := _, after := _, guard := none }) (v := .pointer (some ⟨pb, 3, none⟩)) rfl (by kernel_rfl) (by kernel_rfl) (by kernel_rfl) (fun _ _ _ h => h) (Or.inl ⟨by rfl, fun u hu => by go_simp⟩) hS ?_
              simp only [Act.put, List.setIfInBounds_toArray, List.set_cons_zero, List.set_cons_succ]
              refine wpAnyH_take (i := 14) (oi := { dst := some 33, op := Op.fieldAddr 30 (Operand.tmp 32) 2, type := 0, pos := _, after := _, guard := none }) (v := .pointer (some ⟨pb, 5, none⟩)) rfl (by kernel_rfl) (by kernel_rfl) (by kernel_rfl) (fun _ _ _ h => h) (Or.inl ⟨by rfl, fun u hu => by go_simp⟩) hS ?_
              simp only [Act.put, List.setIfInBounds_toArray, List.set_cons_zero, List.set_cons_succ]
              refine wpAnyH_ready (rs := [11, 15]) (by kernel_rfl) (by simp) (AllReadyH.cons (o := { dst := none, op := Op.store 73 (Operand.tmp 30) (Operand.tmp 26), type := 0, pos := _, after := _, guard := none }) rfl (fun K hK => ?_) (AllReadyH.cons (o := { dst := none, op := Op.store 28 (Operand.tmp 33) (Operand.tmp 29), type := 0, pos := _, after := _, guard := none }) rfl (fun K hK => ?_) AllReadyH.nil))
              · have hcu : (World.heap (w4))[g]? = some (.cells cur 73 (0, 0)) := H4.out.1
                have hcs := H4.out.2.1
                obtain ⟨x0, y0⟩ : ∃ x, World.cell? (w4) ⟨g, is.length * 6, none⟩ = some x := ⟨_, (cellO hcu).trans (Array.getElem?_eq_getElem (by omega))⟩
                have u0 : World.frozen? (w4) ⟨g, is.length * 6, none⟩ = false := looseO hcu
                obtain ⟨x1, y1⟩ : ∃ x, World.cell? (w4) ⟨g, is.length * 6 + 1, none⟩ = some x := ⟨_, (cellO hcu).trans (Array.getElem?_eq_getElem (by omega))⟩
                have u1 : World.frozen? (w4) ⟨g, is.length * 6 + 1, none⟩ = false := looseO hcu
                obtain ⟨x2, y2⟩ : ∃ x, World.cell? (w4) ⟨g, is.length * 6 + 2, none⟩ = some x := ⟨_, (cellO hcu).trans (Array.getElem?_eq_getElem (by omega))⟩
                have u2 : World.frozen? (w4) ⟨g, is.length * 6 + 2, none⟩ = false := looseO hcu
                obtain ⟨x3, y3⟩ : ∃ x, World.cell? (w4) ⟨g, is.length * 6 + 3, none⟩ = some x := ⟨_, (cellO hcu).trans (Array.getElem?_eq_getElem (by omega))⟩
                have u3 : World.frozen? (w4) ⟨g, is.length * 6 + 3, none⟩ = false := looseO hcu
                obtain ⟨x4, y4⟩ : ∃ x, World.cell? (w4) ⟨g, is.length * 6 + 4, none⟩ = some x := ⟨_, (cellO hcu).trans (Array.getElem?_eq_getElem (by omega))⟩
                have u4 : World.frozen? (w4) ⟨g, is.length * 6 + 4, none⟩ = false := looseO hcu
                obtain ⟨x5, y5⟩ : ∃ x, World.cell? (w4) ⟨g, is.length * 6 + 5, none⟩ = some x := ⟨_, (cellO hcu).trans (Array.getElem?_eq_getElem (by omega))⟩
                have u5 : World.frozen? (w4) ⟨g, is.length * 6 + 5, none⟩ = false := looseO hcu
                clear hcu hcs
                go_simp
                clear y0 u0 y1 u1 y2 u2 y3 u3 y4 u4 y5 u5
                have hS3 : (World.heap (sixW (w4) g (is.length * 6) (.int .i64 sk) (.string snm) (.slice na nn nc) (.slice aa an ac) (.string sp) (.slice ka kn2 kc)))[wr.heap.size]? = some (.cells #[.int .i64 d.kind, .int .i64 d.n, .string d.name, .int .i64 d.stamp, .int .i64 d.lib, .slice a' kn cap'] 26 (0, 0)) := (sixW_far _ g _ _ H4.out.2.2.1 _ _ _ _ _ _).trans hS
                show K _ (sixW (w4) g (is.length * 6) (.int .i64 sk) (.string snm) (.slice na nn nc) (.slice aa an ac) (.string sp) (.slice ka kn2 kc))
                refine hK.out _ _ hS3 (fun hS => ?_)
                clear hK K
                refine wpAnyH_ready (rs := [15]) (by kernel_rfl) (by simp) (AllReadyH.cons (o := { dst := none, op := Op.store 28 (Operand.tmp 33) (Operand.tmp 29), type := 0, pos := _, after := _, guard := none }) rfl (fun K hK => ?_) AllReadyH.nil)
                have hpu : (World.heap ((sixW (w4) g (is.length * 6) (.int .i64 sk) (.string snm) (.slice na nn nc) (.slice aa an ac) (.string sp) (.slice ka kn2 kc))))[pb]? = _ := ((sixW_far _ g _ pb (fun e => H4.out.2.2.2.2 e.symm) _ _ _ _ _ _).trans HP4.out)
                have y5 : World.cell? ((sixW (w4) g (is.length * 6) (.int .i64 sk) (.string snm) (.slice na nn nc) (.slice aa an ac) (.string sp) (.slice ka kn2 kc))) ⟨pb, 5, none⟩ = some (.slice ia is.length ic) := (cellO hpu).trans rfl
                have u5 : World.frozen? ((sixW (w4) g (is.length * 6) (.int .i64 sk) (.string snm) (.slice na nn nc) (.slice aa an ac) (.string sp) (.slice ka kn2 kc))) ⟨pb, 5, none⟩ = false := looseO hpu
                clear hpu
                go_simp
                clear y5 u5
                have hS4 : (World.heap (World.setCell ((sixW (w4) g (is.length * 6) (.int .i64 sk) (.string snm) (.slice na nn nc) (.slice aa an ac) (.string sp) (.slice ka kn2 kc))) ⟨pb, 5, none⟩ (.slice (some ⟨g, 0, none⟩) (is.length + 1) cp)))[wr.heap.size]? = some (.cells #[.int .i64 d.kind, .int .i64 d.n, .string d.name, .int .i64 d.stamp, .int .i64 d.lib, .slice a' kn cap'] 26 (0, 0)) := (Below.heap_setCell _ _ _ _ (show wr.heap.size ≠ pb from H4.out.2.2.2.1)).trans hS
                show K _ (World.setCell ((sixW (w4) g (is.length * 6) (.int .i64 sk) (.string snm) (.slice na nn nc) (.slice aa an ac) (.string sp) (.slice ka kn2 kc))) ⟨pb, 5, none⟩ (.slice (some ⟨g, 0, none⟩) (is.length + 1) cp))
                refine hK.out _ _ hS4 (fun hS => ?_)
                clear hK K
                refine wpAnyH_done (by kernel_rfl) ?_ _
                have HF : Hid (BT B w ((World.setCell ((sixW (w4) g (is.length * 6) (.int .i64 sk) (.string snm) (.slice na nn nc) (.slice aa an ac) (.string sp) (.slice ka kn2 kc))) ⟨pb, 5, none⟩ (.slice (some ⟨g, 0, none⟩) (is.length + 1) cp))) ∧ PS B pb f1 f2 f3 { s' with imports := s'.imports ++ [Se.mk sk snm sns sas sp sks] } (World.setCell ((sixW (w4) g (is.length * 6) (.int .i64 sk) (.string snm) (.slice na nn nc) (.slice aa an ac) (.string sp) (.slice ka kn2 kc))) ⟨pb, 5, none⟩ (.slice (some ⟨g, 0, none⟩) (is.length + 1) cp)) ∧ (s'.imports ++ [Se.mk sk snm sns sas sp sks]).length ≤ 20) := ⟨HR.out.1.trans ((HBB.out.2.bt HBr.out).trans HB.out.1.2), ⟨is ++ [⟨Se.mk sk snm sns sas sp sks, .slice na nn nc, .slice aa an ac, .slice ka kn2 kc⟩], es, ev, _, bv, HB.out.1.1, by rw [List.map_append, H1E.out.1]; rfl, H1E.out.2⟩, by simp; omega⟩
                generalize (World.setCell ((sixW (w4) g (is.length * 6) (.int .i64 sk) (.string snm) (.slice na nn nc) (.slice aa an ac) (.string sp) (.slice ka kn2 kc))) ⟨pb, 5, none⟩ (.slice (some ⟨g, 0, none⟩) (is.length + 1) cp)) = Wf at HF ⊢
                clear HB HBB H4 HP4 hS
                go_wp2_with fail
                go_roundw
                case rel => exact ⟨j + 1, { s' with imports := s'.imports ++ [Se.mk sk snm sns sas sp sks] }, hlt, by go_num, HF.out.1, HF.out.2.1, HST2.out, HF.out.2.2⟩
                case measure => simp [intOf]; omega
              · have hpu : (World.heap (w4))[pb]? = _ := HP4.out
                have y5 : World.cell? (w4) ⟨pb, 5, none⟩ = some (.slice ia is.length ic) := (cellO hpu).trans rfl
                have u5 : World.frozen? (w4) ⟨pb, 5, none⟩ = false := looseO hpu
                clear hpu
                go_simp
                clear y5 u5
                have hS3 : (World.heap (World.setCell (w4) ⟨pb, 5, none⟩ (.slice (some ⟨g, 0, none⟩) (is.length + 1) cp)))[wr.heap.size]? = some (.cells #[.int .i64 d.kind, .int .i64 d.n, .string d.name, .int .i64 d.stamp, .int .i64 d.lib, .slice a' kn cap'] 26 (0, 0)) := (Below.heap_setCell _ _ _ _ (show wr.heap.size ≠ pb from H4.out.2.2.2.1)).trans hS
                show K _ (World.setCell (w4) ⟨pb, 5, none⟩ (.slice (some ⟨g, 0, none⟩) (is.length + 1) cp))
                refine hK.out _ _ hS3 (fun hS => ?_)
                clear hK K
                refine wpAnyH_ready (rs := [11]) (by kernel_rfl) (by simp) (AllReadyH.cons (o := { dst := none, op := Op.store 73 (Operand.tmp 30) (Operand.tmp 26), type := 0, pos := _, after := _, guard := none }) rfl (fun K hK => ?_) AllReadyH.nil)
                have hcu : (World.heap ((World.setCell (w4) ⟨pb, 5, none⟩ (.slice (some ⟨g, 0, none⟩) (is.length + 1) cp))))[g]? = some (.cells cur 73 (0, 0)) := ((Below.heap_setCell _ _ _ _ (show g ≠ pb from H4.out.2.2.2.2)).trans H4.out.1)
                have hcs := H4.out.2.1
                obtain ⟨x0, y0⟩ : ∃ x, World.cell? ((World.setCell (w4) ⟨pb, 5, none⟩ (.slice (some ⟨g, 0, none⟩) (is.length + 1) cp))) ⟨g, is.length * 6, none⟩ = some x := ⟨_, (cellO hcu).trans (Array.getElem?_eq_getElem (by omega))⟩
                have u0 : World.frozen? ((World.setCell (w4) ⟨pb, 5, none⟩ (.slice (some ⟨g, 0, none⟩) (is.length + 1) cp))) ⟨g, is.length * 6, none⟩ = false := looseO hcu
                obtain ⟨x1, y1⟩ : ∃ x, World.cell? ((World.setCell (w4) ⟨pb, 5, none⟩ (.slice (some ⟨g, 0, none⟩) (is.length + 1) cp))) ⟨g, is.length * 6 + 1, none⟩ = some x := ⟨_, (cellO hcu).trans (Array.getElem?_eq_getElem (by omega))⟩
                have u1 : World.frozen? ((World.setCell (w4) ⟨pb, 5, none⟩ (.slice (some ⟨g, 0, none⟩) (is.length + 1) cp))) ⟨g, is.length * 6 + 1, none⟩ = false := looseO hcu
                obtain ⟨x2, y2⟩ : ∃ x, World.cell? ((World.setCell (w4) ⟨pb, 5, none⟩ (.slice (some ⟨g, 0, none⟩) (is.length + 1) cp))) ⟨g, is.length * 6 + 2, none⟩ = some x := ⟨_, (cellO hcu).trans (Array.getElem?_eq_getElem (by omega))⟩
                have u2 : World.frozen? ((World.setCell (w4) ⟨pb, 5, none⟩ (.slice (some ⟨g, 0, none⟩) (is.length + 1) cp))) ⟨g, is.length * 6 + 2, none⟩ = false := looseO hcu
                obtain ⟨x3, y3⟩ : ∃ x, World.cell? ((World.setCell (w4) ⟨pb, 5, none⟩ (.slice (some ⟨g, 0, none⟩) (is.length + 1) cp))) ⟨g, is.length * 6 + 3, none⟩ = some x := ⟨_, (cellO hcu).trans (Array.getElem?_eq_getElem (by omega))⟩
                have u3 : World.frozen? ((World.setCell (w4) ⟨pb, 5, none⟩ (.slice (some ⟨g, 0, none⟩) (is.length + 1) cp))) ⟨g, is.length * 6 + 3, none⟩ = false := looseO hcu
                obtain ⟨x4, y4⟩ : ∃ x, World.cell? ((World.setCell (w4) ⟨pb, 5, none⟩ (.slice (some ⟨g, 0, none⟩) (is.length + 1) cp))) ⟨g, is.length * 6 + 4, none⟩ = some x := ⟨_, (cellO hcu).trans (Array.getElem?_eq_getElem (by omega))⟩
                have u4 : World.frozen? ((World.setCell (w4) ⟨pb, 5, none⟩ (.slice (some ⟨g, 0, none⟩) (is.length + 1) cp))) ⟨g, is.length * 6 + 4, none⟩ = false := looseO hcu
                obtain ⟨x5, y5⟩ : ∃ x, World.cell? ((World.setCell (w4) ⟨pb, 5, none⟩ (.slice (some ⟨g, 0, none⟩) (is.length + 1) cp))) ⟨g, is.length * 6 + 5, none⟩ = some x := ⟨_, (cellO hcu).trans (Array.getElem?_eq_getElem (by omega))⟩
                have u5 : World.frozen? ((World.setCell (w4) ⟨pb, 5, none⟩ (.slice (some ⟨g, 0, none⟩) (is.length + 1) cp))) ⟨g, is.length * 6 + 5, none⟩ = false := looseO hcu
                clear hcu hcs
                go_simp
                clear y0 u0 y1 u1 y2 u2 y3 u3 y4 u4 y5 u5
                have hS4 : (World.heap (sixW ((World.setCell (w4) ⟨pb, 5, none⟩ (.slice (some ⟨g, 0, none⟩) (is.length + 1) cp))) g (is.length * 6) (.int .i64 sk) (.string snm) (.slice na nn nc) (.slice aa an ac) (.string sp) (.slice ka kn2 kc)))[wr.heap.size]? = some (.cells #[.int .i64 d.kind, .int .i64 d.n, .string d.name, .int .i64 d.stamp, .int .i64 d.lib, .slice a' kn cap'] 26 (0, 0)) := (sixW_far _ g _ _ H4.out.2.2.1 _ _ _ _ _ _).trans hS
                show K _ (sixW ((World.setCell (w4) ⟨pb, 5, none⟩ (.slice (some ⟨g, 0, none⟩) (is.length + 1) cp))) g (is.length * 6) (.int .i64 sk) (.string snm) (.slice na nn nc) (.slice aa an ac) (.string sp) (.slice ka kn2 kc))
                refine hK.out _ _ hS4 (fun hS => ?_)
                clear hK K
                refine wpAnyH_done (by kernel_rfl) ?_ _
                have HF : Hid (BT B w ((sixW ((World.setCell (w4) ⟨pb, 5, none⟩ (.slice (some ⟨g, 0, none⟩) (is.length + 1) cp))) g (is.length * 6) (.int .i64 sk) (.string snm) (.slice na nn nc) (.slice aa an ac) (.string sp) (.slice ka kn2 kc))) ∧ PS B pb f1 f2 f3 { s' with imports := s'.imports ++ [Se.mk sk snm sns sas sp sks] } (sixW ((World.setCell (w4) ⟨pb, 5, none⟩ (.slice (some ⟨g, 0, none⟩) (is.length + 1) cp))) g (is.length * 6) (.int .i64 sk) (.string snm) (.slice na nn nc) (.slice aa an ac) (.string sp) (.slice ka kn2 kc)) ∧ (s'.imports ++ [Se.mk sk snm sns sas sp sks]).length ≤ 20) := ⟨HR.out.1.trans ((HBB.out.2.bt HBr.out).trans HB.out.2.2), ⟨is ++ [⟨Se.mk sk snm sns sas sp sks, .slice na nn nc, .slice aa an ac, .slice ka kn2 kc⟩], es, ev, _, bv, HB.out.2.1, by rw [List.map_append, H1E.out.1]; rfl, H1E.out.2⟩, by simp; omega⟩
                generalize (sixW ((World.setCell (w4) ⟨pb, 5, none⟩ (.slice (some ⟨g, 0, none⟩) (is.length + 1) cp))) g (is.length * 6) (.int .i64 sk) (.string snm) (.slice na nn nc) (.slice aa an ac) (.string sp) (.slice ka kn2 kc)) = Wf at HF ⊢
                clear HB HBB H4 HP4 hS
                go_wp2_with fail
                go_roundw
                case rel => exact ⟨j + 1, { s' with imports := s'.imports ++ [Se.mk sk snm sns sas sp sks] }, hlt, by go_num, HF.out.1, HF.out.2.1, HST2.out, HF.out.2.2⟩
                case measure => simp [intOf]; omega
          · go_simp
            refine (CA.out (w5.drew) PX_0.out.2).mono ?_
            rintro e W1 ⟨hb1, v, rfl, nv, av, kv, rfl, g1, g2, g3⟩
            obtain ⟨na, nn, nc, rfl⟩ := SV.slice g1
            obtain ⟨aa, an, ac, rfl⟩ := SV.slice g2
            obtain ⟨ka, kn2, kc, rfl⟩ := SeL.slice g3
            have PX_1 : Hid (PSx B pb f1 f2 f3 s'.name s'.exports is es ev (.slice ia is.length ic) bv (W1) ∧ Below wr.heap.size wr (W1)) := ⟨PX_0.out.1.below hb1, PX_0.out.2.trans (hb1.mono PX_0.out.2.size)⟩
            have IK_1 : Hid (IE.ok (Fre B pb ev (.slice ia is.length ic) bv W1) W1 ⟨Se.mk sk snm sns sas sp sks, .slice na nn nc, .slice aa an ac, .slice ka kn2 kc⟩) := IE.stay (ok := fun k => Array.size (World.heap (w5.drew)) ≤ k ∧ k < W1.heap.size) (w := W1) (e := ⟨Se.mk sk snm sns sas sp sks, .slice na nn nc, .slice aa an ac, .slice ka kn2 kc⟩) ⟨g1, g2, g3⟩ (fun k hk => rfl) (fun k hk => PSx.fresh PX_0.out.1 hk.1 hk.2)
            have hS1 : W1.heap[wr.heap.size]? = some (.cells #[.int .i64 d.kind, .int .i64 d.n, .string d.name, .int .i64 d.stamp, .int .i64 d.lib, .slice a' kn cap'] 26 (0, 0)) := (hb1.block _ (Array.getElem?_eq_some_iff.1 hS).1).trans hS
            clear hb1 g1 g2 g3
            show K _ W1
            refine hK.out _ _ hS1 (fun hS => ?_)
            clear hK K
            refine wpAnyH_ready (rs := [4, 8]) (by kernel_rfl) (by simp) (AllReadyH.cons (o := { dst := some 24, op := Op.load 28 (Operand.tmp 23), type := 28, pos := _, after := _, guard := none }) rfl (fun K hK => ?_) (AllReadyH.cons (o := { dst := some 28, op := Op.buildSlice 28 1 #[(0, Operand.const (Value.agg #[Value.int IntKind.i64 0, Value.string { data := #[] }, Value.slice none 0 0, Value.slice none 0 0, Value.string { data := #[] }, Value.slice none 0 0]))], type := 28, pos := _, after := _, guard := none }) rfl (fun K hK => ?_) AllReadyH.nil))
            · have zo : World.cell? (W1) ⟨pb, 5, none⟩ = some (.slice ia is.length ic) := (cellO PX_1.out.1.blk).trans rfl
              go_simp
              clear zo
              refine hK.out _ _ hS (fun hS => ?_)
              clear hK K
              refine wpAnyH_take (i := 7) (oi := { dst := some 27, op := Op.call { callee := Callee.builtin Builtin.len, args := #[Operand.tmp 24], argTypes := #[28] }, type := 3, pos := _, after := _, guard := none }) (v := .int .i64 is.length) rfl (by kernel_rfl) (by kernel_rfl) (by kernel_rfl) (fun _ _ _ h => h) (Or.inl ⟨by rfl, fun u hu => by go_simp⟩) hS ?_
              simp only [Act.put, List.setIfInBounds_toArray, List.set_cons_zero, List.set_cons_succ]
              refine wpAnyH_ready (rs := [8]) (by kernel_rfl) (by simp) (AllReadyH.cons (o := { dst := some 28, op := Op.buildSlice 28 1 #[(0, Operand.const (Value.agg #[Value.int IntKind.i64 0, Value.string { data := #[] }, Value.slice none 0 0, Value.slice none 0 0, Value.string { data := #[] }, Value.slice none 0 0]))], type := 28, pos := _, after := _, guard := none }) rfl (fun K hK => ?_) AllReadyH.nil)
              go_simp
              have hb2 : Below (Array.size (World.heap (W1))) (W1) (World.alloc (W1) (.cells #[.int .i64 0, .string ⟨#[]⟩, .slice none 0 0, .slice none 0 0, .string ⟨#[]⟩, .slice none 0 0] 73)) := (Below.refl _ _).alloc (Nat.le_refl _) _
              have hz2 : (World.heap (World.alloc (W1) (.cells #[.int .i64 0, .string ⟨#[]⟩, .slice none 0 0, .slice none 0 0, .string ⟨#[]⟩, .slice none 0 0] 73)))[(Array.size (World.heap (W1)))]? = some (.cells #[.int .i64 0, .string ⟨#[]⟩, .slice none 0 0, .slice none 0 0, .string ⟨#[]⟩, .slice none 0 0] 73 (0, 0)) := World.alloc_heap_new _ _
              have hS2 : (World.heap (World.alloc (W1) (.cells #[.int .i64 0, .string ⟨#[]⟩, .slice none 0 0, .slice none 0 0, .string ⟨#[]⟩, .slice none 0 0] 73)))[wr.heap.size]? = some (.cells #[.int .i64 d.kind, .int .i64 d.n, .string d.name, .int .i64 d.stamp, .int .i64 d.lib, .slice a' kn cap'] 26 (0, 0)) := (hb2.block _ (Array.getElem?_eq_some_iff.1 hS).1).trans hS
              change K _ (World.alloc (W1) (.cells #[.int .i64 0, .string ⟨#[]⟩, .slice none 0 0, .slice none 0 0, .string ⟨#[]⟩, .slice none 0 0] 73))
              generalize (World.alloc (W1) (.cells #[.int .i64 0, .string ⟨#[]⟩, .slice none 0 0, .slice none 0 0, .string ⟨#[]⟩, .slice none 0 0] 73)) = W2 at hb2 hz2 hS2 ⊢
              have PX_2 : Hid (PSx B pb f1 f2 f3 s'.name s'.exports is es ev (.slice ia is.length ic) bv (W2) ∧ Below wr.heap.size wr (W2)) := ⟨PX_1.out.1.below hb2, PX_1.out.2.trans (hb2.mono PX_1.out.2.size)⟩
              have IK_2 : Hid (IE.ok (Fre B pb ev (.slice ia is.length ic) bv (W2)) (W2) ⟨Se.mk sk snm sns sas sp sks, .slice na nn nc, .slice aa an ac, .slice ka kn2 kc⟩) := IE.after IK_1.out hb2
              have ZZ_2 : Hid (W2.heap[(Array.size (World.heap (W1)))]? = some (.cells #[.int .i64 0, .string ⟨#[]⟩, .slice none 0 0, .slice none 0 0, .string ⟨#[]⟩, .slice none 0 0] 73 (0, 0))) := hz2
              clear hb2 hz2
              refine hK.out _ _ hS2 (fun hS => ?_)
              clear hK K
              refine wpAnyH_ready (rs := [9]) (by kernel_rfl) (by simp) (AllReadyH.cons (o := { dst := some 29, op := Op.call { callee := Callee.builtin Builtin.append, args := #[Operand.tmp 24, Operand.tmp 28], argTypes := #[28, 28] }, type := 28, pos := _, after := _, guard := none }) rfl (fun K hK => ?_) AllReadyH.nil)
              refine step_append_lies _ rfl (.tmp 24) (.tmp 28) 28 rfl B 73 i0 _ 6 112 Tryz.underlying28 hinf hz0 hz1 hz2 rfl (by decide) (.slice ia is.length ic) is.length (flatI is) rfl (by exact PX_2.out.1.io) ⟨(Array.size (World.heap (W1))), 0, none⟩ 1 1 zeroI rfl rfl ?_ ?_ (by decide) ?_ ?_ ?_ (Array.size (World.heap (W2))) rfl ?_
              · intro q u hq
                rw [addr_add]
                exact (cellO ZZ_2.out).trans (by simpa [zeroI] using hq)
              · intro u hu
                simp [zeroI] at hu
                rcases hu with rfl | rfl | rfl | rfl | rfl | rfl <;> rfl
              · have := HISL.out; unfold maxLen; omega
              · have := HISL.out; omega
              · exact PSx.hs PX_2.out.1
              intro g cp w4 hown hgrow hat hlt4
              have HB := hidd (imp_both (e := ⟨Se.mk sk snm sns sas sp sks, .slice na nn nc, .slice aa an ac, .slice ka kn2 kc⟩) PX_2.out.1 IK_2.out hown hgrow hat rfl)
              obtain ⟨g', cp', cur, hs, hbg, hgl, hcur, hcl, -⟩ := own_six hown (flatI_len is) rfl
              have hs1 : g = g' ∧ cp = cp' := by simpa using hs
              obtain ⟨rfl, rfl⟩ := hs1
              clear hs
              have hpb4 : w4.heap[pb]? = some (.cells #[f1, f2, f3, .string s'.name, ev, .slice ia is.length ic, bv] 57 (0, 0)) := (hgrow.block pb (Array.getElem?_eq_some_iff.1 PX_2.out.1.blk).1 (fun e => own_pb PX_2.out.1.io PX_2.out.1.blk (by decide) e.symm rfl)).trans PX_2.out.1.blk
              have hS4 : w4.heap[wr.heap.size]? = some (.cells #[.int .i64 d.kind, .int .i64 d.n, .string d.name, .int .i64 d.stamp, .int .i64 d.lib, .slice a' kn cap'] 26 (0, 0)) := (hgrow.block _ (Array.getElem?_eq_some_iff.1 hS).1 (fun e => own_box PX_2.out.1.io hS (by decide) e.symm)).trans hS
              have hgb : wr.heap.size ≠ g := fun e => own_box' hcur hS4 (by decide) e.symm
              have hpbb : wr.heap.size ≠ pb := fun e => own_box' hpb4 hS4 (by decide) e.symm
              have hgp : g ≠ pb := fun e => own_box' hcur hpb4 (by decide) e
              have H4 : Hid (w4.heap[g]? = some (.cells cur 73 (0, 0)) ∧ (is.length + 1) * 6 ≤ cur.size ∧ wr.heap.size ≠ g ∧ wr.heap.size ≠ pb ∧ g ≠ pb) := ⟨hcur, hcl, hgb, hpbb, hgp⟩
              have HP4 := hidd hpb4
              have HBB : Hid (True ∧ Below wr.heap.size wr (W2)) := ⟨trivial, PX_2.out.2⟩
              clear hown hgrow hat hlt4 hbg hgl hcur hcl hpb4 hgb hpbb hgp
              show K _ w4
              refine hK.out _ _ hS4 (fun hS => ?_)
              clear hK K
              refine wpAnyH_take (i := 10) (oi := { dst := some 30, op := Op.indexAddr 28 (Operand.tmp 29) (Operand.tmp 27), type := 0, pos := _, after := _, guard := none }) (v := .pointer (some ⟨g, is.length * 6, none⟩)) rfl (by kernel_rfl) (by kernel_rfl) (by kernel_rfl) (fun _ _ _ h => h) (Or.inl ⟨by rfl, fun u hu => by go_simp⟩) hS ?_
              simp only [Act.put, List.setIfInBounds_toArray, List.set_cons_zero, List.set_cons_succ]
              refine wpAnyH_take (i := 12) (oi := { dst := some 31, op := Op.nilCheck (Operand.tmp 20), type := 0, pos := _, after := _, guard := none }) (v := .pointer (some ⟨pb, 0, none⟩)) rfl (by kernel_rfl) (by kernel_rfl) (by kernel_rfl) (fun _ _ _ h => h) (Or.inl ⟨by rfl, fun u hu => by go_simp⟩) hS ?_
              simp only [Act.put, List.setIfInBounds_toArray, List.set_cons_zero, List.set_cons_succ]
              refine wpAnyH_take (i := 13) (oi := { dst := some 32, op := Op.fieldAddr 57 (Operand.tmp 31) 3, type := 0, pos := _, after := _, guard := none }) (v := .pointer (some ⟨pb, 3, none⟩)) rfl (by kernel_rfl) (by kernel_rfl) (by kernel_rfl) (fun _ _ _ h => h) (Or.inl ⟨by rfl, fun u hu => by go_simp⟩) hS ?_
              simp only [Act.put, List.setIfInBounds_toArray, List.set_cons_zero, List.set_cons_succ]
              refine wpAnyH_take (i := 14) (oi := { dst := some 33, op := Op.fieldAddr 30 (Operand.tmp 32) 2, type := 0, pos := _, after := _, guard := none }) (v := .pointer (some ⟨pb, 5, none⟩)) rfl (by kernel_rfl) (by kernel_rfl) (by kernel_rfl) (fun _ _ _ h => h) (Or.inl ⟨by rfl, fun u hu => by go_simp⟩) hS ?_
              simp only [Act.put, List.setIfInBounds_toArray, List.set_cons_zero, List.set_cons_succ]
              refine wpAnyH_ready (rs := [11, 15]) (by kernel_rfl) (by simp) (AllReadyH.cons (o := { dst := none, op := Op.store 73 (Operand.tmp 30) (Operand.tmp 26), type := 0, pos := _, after := _, guard := none }) rfl (fun K hK => ?_) (AllReadyH.cons (o := { dst := none, op := Op.store 28 (Operand.tmp 33) (Operand.tmp 29), type := 0, pos := _, after := _, guard := none }) rfl (fun K hK => ?_) AllReadyH.nil))
              · have hcu : (World.heap (w4))[g]? = some (.cells cur 73 (0, 0)) := H4.out.1
                have hcs := H4.out.2.1
                obtain ⟨x0, y0⟩ : ∃ x, World.cell? (w4) ⟨g, is.length * 6, none⟩ = some x := ⟨_, (cellO hcu).trans (Array.getElem?_eq_getElem (by omega))⟩
                have u0 : World.frozen? (w4) ⟨g, is.length * 6, none⟩ = false := looseO hcu
                obtain ⟨x1, y1⟩ : ∃ x, World.cell? (w4) ⟨g, is.length * 6 + 1, none⟩ = some x := ⟨_, (cellO hcu).trans (Array.getElem?_eq_getElem (by omega))⟩
                have u1 : World.frozen? (w4) ⟨g, is.length * 6 + 1, none⟩ = false := looseO hcu
                obtain ⟨x2, y2⟩ : ∃ x, World.cell? (w4) ⟨g, is.length * 6 + 2, none⟩ = some x := ⟨_, (cellO hcu).trans (Array.getElem?_eq_getElem (by omega))⟩
                have u2 : World.frozen? (w4) ⟨g, is.length * 6 + 2, none⟩ = false := looseO hcu
                obtain ⟨x3, y3⟩ : ∃ x, World.cell? (w4) ⟨g, is.length * 6 + 3, none⟩ = some x := ⟨_, (cellO hcu).trans (Array.getElem?_eq_getElem (by omega))⟩
                have u3 : World.frozen? (w4) ⟨g, is.length * 6 + 3, none⟩ = false := looseO hcu
                obtain ⟨x4, y4⟩ : ∃ x, World.cell? (w4) ⟨g, is.length * 6 + 4, none⟩ = some x := ⟨_, (cellO hcu).trans (Array.getElem?_eq_getElem (by omega))⟩
                have u4 : World.frozen? (w4) ⟨g, is.length * 6 + 4, none⟩ = false := looseO hcu
                obtain ⟨x5, y5⟩ : ∃ x, World.cell? (w4) ⟨g, is.length * 6 + 5, none⟩ = some x := ⟨_, (cellO hcu).trans (Array.getElem?_eq_getElem (by omega))⟩
                have u5 : World.frozen? (w4) ⟨g, is.length * 6 + 5, none⟩ = false := looseO hcu
                clear hcu hcs
                go_simp
                clear y0 u0 y1 u1 y2 u2 y3 u3 y4 u4 y5 u5
                have hS3 : (World.heap (sixW (w4) g (is.length * 6) (.int .i64 sk) (.string snm) (.slice na nn nc) (.slice aa an ac) (.string sp) (.slice ka kn2 kc)))[wr.heap.size]? = some (.cells #[.int .i64 d.kind, .int .i64 d.n, .string d.name, .int .i64 d.stamp, .int .i64 d.lib, .slice a' kn cap'] 26 (0, 0)) := (sixW_far _ g _ _ H4.out.2.2.1 _ _ _ _ _ _).trans hS
                show K _ (sixW (w4) g (is.length * 6) (.int .i64 sk) (.string snm) (.slice na nn nc) (.slice aa an ac) (.string sp) (.slice ka kn2 kc))
                refine hK.out _ _ hS3 (fun hS => ?_)
                clear hK K
                refine wpAnyH_ready (rs := [15]) (by kernel_rfl) (by simp) (AllReadyH.cons (o := { dst := none, op := Op.store 28 (Operand.tmp 33) (Operand.tmp 29), type := 0, pos := _, after := _, guard := none }) rfl (fun K hK => ?_) AllReadyH.nil)
                have hpu : (World.heap ((sixW (w4) g (is.length * 6) (.int .i64 sk) (.string snm) (.slice na nn nc) (.slice aa an ac) (.string sp) (.slice ka kn2 kc))))[pb]? = _ := ((sixW_far _ g _ pb (fun e => H4.out.2.2.2.2 e.symm) _ _ _ _ _ _).trans HP4.out)
                have y5 : World.cell? ((sixW (w4) g (is.length * 6) (.int .i64 sk) (.string snm) (.slice na nn nc) (.slice aa an ac) (.string sp) (.slice ka kn2 kc))) ⟨pb, 5, none⟩ = some (.slice ia is.length ic) := (cellO hpu).trans rfl
                have u5 : World.frozen? ((sixW (w4) g (is.length * 6) (.int .i64 sk) (.string snm) (.slice na nn nc) (.slice aa an ac) (.string sp) (.slice ka kn2 kc))) ⟨pb, 5, none⟩ = false := looseO hpu
                clear hpu
                go_simp
                clear y5 u5
                have hS4 : (World.heap (World.setCell ((sixW (w4) g (is.length * 6) (.int .i64 sk) (.string snm) (.slice na nn nc) (.slice aa an ac) (.string sp) (.slice ka kn2 kc))) ⟨pb, 5, none⟩ (.slice (some ⟨g, 0, none⟩) (is.length + 1) cp)))[wr.heap.size]? = some (.cells #[.int .i64 d.kind, .int .i64 d.n, .string d.name, .int .i64 d.stamp, .int .i64 d.lib, .slice a' kn cap'] 26 (0, 0)) := (Below.heap_setCell _ _ _ _ (show wr.heap.size ≠ pb from H4.out.2.2.2.1)).trans hS
                show K _ (World.setCell ((sixW (w4) g (is.length * 6) (.int .i64 sk) (.string snm) (.slice na nn nc) (.slice aa an ac) (.string sp) (.slice ka kn2 kc))) ⟨pb, 5, none⟩ (.slice (some ⟨g, 0, none⟩) (is.length + 1) cp))
                refine hK.out _ _ hS4 (fun hS => ?_)
                clear hK K
                refine wpAnyH_done (by kernel_rfl) ?_ _
                have HF : Hid (BT B w ((World.setCell ((sixW (w4) g (is.length * 6) (.int .i64 sk) (.string snm) (.slice na nn nc) (.slice aa an ac) (.string sp) (.slice ka kn2 kc))) ⟨pb, 5, none⟩ (.slice (some ⟨g, 0, none⟩) (is.length + 1) cp))) ∧ PS B pb f1 f2 f3 { s' with imports := s'.imports ++ [Se.mk sk snm sns sas sp sks] } (World.setCell ((sixW (w4) g (is.length * 6) (.int .i64 sk) (.string snm) (.slice na nn nc) (.slice aa an ac) (.string sp) (.slice ka kn2 kc))) ⟨pb, 5, none⟩ (.slice (some ⟨g, 0, none⟩) (is.length + 1) cp)) ∧ (s'.imports ++ [Se.mk sk snm sns sas sp sks]).length ≤ 20) := ⟨HR.out.1.trans ((HBB.out.2.bt HBr.out).trans HB.out.1.2), ⟨is ++ [⟨Se.mk sk snm sns sas sp sks, .slice na nn nc, .slice aa an ac, .slice ka kn2 kc⟩], es, ev, _, bv, HB.out.1.1, by rw [List.map_append, H1E.out.1]; rfl, H1E.out.2⟩, by simp; omega⟩
                generalize (World.setCell ((sixW (w4) g (is.length * 6) (.int .i64 sk) (.string snm) (.slice na nn nc) (.slice aa an ac) (.string sp) (.slice ka kn2 kc))) ⟨pb, 5, none⟩ (.slice (some ⟨g, 0, none⟩) (is.length + 1) cp)) = Wf at HF ⊢
                clear HB HBB H4 HP4 hS
                go_wp2_with fail
                go_roundw
                case rel => exact ⟨j + 1, { s' with imports := s'.imports ++ [Se.mk sk snm sns sas sp sks] }, hlt, by go_num, HF.out.1, HF.out.2.1, HST2.out, HF.out.2.2⟩
                case measure => simp [intOf]; omega
              · have hpu : (World.heap (w4))[pb]? = _ := HP4.out
                have y5 : World.cell? (w4) ⟨pb, 5, none⟩ = some (.slice ia is.length ic) := (cellO hpu).trans rfl
                have u5 : World.frozen? (w4) ⟨pb, 5, none⟩ = false := looseO hpu
                clear hpu
                go_simp
                clear y5 u5
                have hS3 : (World.heap (World.setCell (w4) ⟨pb, 5, none⟩ (.slice (some ⟨g, 0, none⟩) (is.length + 1) cp)))[wr.heap.size]? = some (.cells #[.int .i64 d.kind, .int .i64 d.n, .string d.name, .int .i64 d.stamp, .int .i64 d.lib, .slice a' kn cap'] 26 (0, 0)) := (Below.heap_setCell _ _ _ _ (show wr.heap.size ≠ pb from H4.out.2.2.2.1)).trans hS
                show K _ (World.setCell (w4) ⟨pb, 5, none⟩ (.slice (some ⟨g, 0, none⟩) (is.length + 1) cp))
                refine hK.out _ _ hS3 (fun hS => ?_)
                clear hK K
                refine wpAnyH_ready (rs := [11]) (by kernel_rfl) (by simp) (AllReadyH.cons (o := { dst := none, op := Op.store 73 (Operand.tmp 30) (Operand.tmp 26), type := 0, pos := _, after := _, guard := none }) rfl (fun K hK => ?_) AllReadyH.nil)
                have hcu : (World.heap ((World.setCell (w4) ⟨pb, 5, none⟩ (.slice (some ⟨g, 0, none⟩) (is.length + 1) cp))))[g]? = some (.cells cur 73 (0, 0)) := ((Below.heap_setCell _ _ _ _ (show g ≠ pb from H4.out.2.2.2.2)).trans H4.out.1)
                have hcs := H4.out.2.1
                obtain ⟨x0, y0⟩ : ∃ x, World.cell? ((World.setCell (w4) ⟨pb, 5, none⟩ (.slice (some ⟨g, 0, none⟩) (is.length + 1) cp))) ⟨g, is.length * 6, none⟩ = some x := ⟨_, (cellO hcu).trans (Array.getElem?_eq_getElem (by omega))⟩
                have u0 : World.frozen? ((World.setCell (w4) ⟨pb, 5, none⟩ (.slice (some ⟨g, 0, none⟩) (is.length + 1) cp))) ⟨g, is.length * 6, none⟩ = false := looseO hcu
                obtain ⟨x1, y1⟩ : ∃ x, World.cell? ((World.setCell (w4) ⟨pb, 5, none⟩ (.slice (some ⟨g, 0, none⟩) (is.length + 1) cp))) ⟨g, is.length * 6 + 1, none⟩ = some x := ⟨_, (cellO hcu).trans (Array.getElem?_eq_getElem (by omega))⟩
                have u1 : World.frozen? ((World.setCell (w4) ⟨pb, 5, none⟩ (.slice (some ⟨g, 0, none⟩) (is.length + 1) cp))) ⟨g, is.length * 6 + 1, none⟩ = false := looseO hcu
                obtain ⟨x2, y2⟩ : ∃ x, World.cell? ((World.setCell (w4) ⟨pb, 5, none⟩ (.slice (some ⟨g, 0, none⟩) (is.length + 1) cp))) ⟨g, is.length * 6 + 2, none⟩ = some x := ⟨_, (cellO hcu).trans (Array.getElem?_eq_getElem (by omega))⟩
                have u2 : World.frozen? ((World.setCell (w4) ⟨pb, 5, none⟩ (.slice (some ⟨g, 0, none⟩) (is.length + 1) cp))) ⟨g, is.length * 6 + 2, none⟩ = false := looseO hcu
                obtain ⟨x3, y3⟩ : ∃ x, World.cell? ((World.setCell (w4) ⟨pb, 5, none⟩ (.slice (some ⟨g, 0, none⟩) (is.length + 1) cp))) ⟨g, is.length * 6 + 3, none⟩ = some x := ⟨_, (cellO hcu).trans (Array.getElem?_eq_getElem (by omega))⟩
                have u3 : World.frozen? ((World.setCell (w4) ⟨pb, 5, none⟩ (.slice (some ⟨g, 0, none⟩) (is.length + 1) cp))) ⟨g, is.length * 6 + 3, none⟩ = false := looseO hcu
                obtain ⟨x4, y4⟩ : ∃ x, World.cell? ((World.setCell (w4) ⟨pb, 5, none⟩ (.slice (some ⟨g, 0, none⟩) (is.length + 1) cp))) ⟨g, is.length * 6 + 4, none⟩ = some x := ⟨_, (cellO hcu).trans (Array.getElem?_eq_getElem (by omega))⟩
                have u4 : World.frozen? ((World.setCell (w4) ⟨pb, 5, none⟩ (.slice (some ⟨g, 0, none⟩) (is.length + 1) cp))) ⟨g, is.length * 6 + 4, none⟩ = false := looseO hcu
                obtain ⟨x5, y5⟩ : ∃ x, World.cell? ((World.setCell (w4) ⟨pb, 5, none⟩ (.slice (some ⟨g, 0, none⟩) (is.length + 1) cp))) ⟨g, is.length * 6 + 5, none⟩ = some x := ⟨_, (cellO hcu).trans (Array.getElem?_eq_getElem (by omega))⟩
                have u5 : World.frozen? ((World.setCell (w4) ⟨pb, 5, none⟩ (.slice (some ⟨g, 0, none⟩) (is.length + 1) cp))) ⟨g, is.length * 6 + 5, none⟩ = false := looseO hcu
                clear hcu hcs
                go_simp
                clear y0 u0 y1 u1 y2 u2 y3 u3 y4 u4 y5 u5
                have hS4 : (World.heap (sixW ((World.setCell (w4) ⟨pb, 5, none⟩ (.slice (some ⟨g, 0, none⟩) (is.length + 1) cp))) g (is.length * 6) (.int .i64 sk) (.string snm) (.slice na nn nc) (.slice aa an ac) (.string sp) (.slice ka kn2 kc)))[wr.heap.size]? = some (.cells #[.int .i64 d.kind, .int .i64 d.n, .string d.name, .int .i64 d.stamp, .int .i64 d.lib, .slice a' kn cap'] 26 (0, 0)) := (sixW_far _ g _ _ H4.out.2.2.1 _ _ _ _ _ _).trans hS
                show K _ (sixW ((World.setCell (w4) ⟨pb, 5, none⟩ (.slice (some ⟨g, 0, none⟩) (is.length + 1) cp))) g (is.length * 6) (.int .i64 sk) (.string snm) (.slice na nn nc) (.slice aa an ac) (.string sp) (.slice ka kn2 kc))
                refine hK.out _ _ hS4 (fun hS => ?_)
                clear hK K
                refine wpAnyH_done (by kernel_rfl) ?_ _
                have HF : Hid (BT B w ((sixW ((World.setCell (w4) ⟨pb, 5, none⟩ (.slice (some ⟨g, 0, none⟩) (is.length + 1) cp))) g (is.length * 6) (.int .i64 sk) (.string snm) (.slice na nn nc) (.slice aa an ac) (.string sp) (.slice ka kn2 kc))) ∧ PS B pb f1 f2 f3 { s' with imports := s'.imports ++ [Se.mk sk snm sns sas sp sks] } (sixW ((World.setCell (w4) ⟨pb, 5, none⟩ (.slice (some ⟨g, 0, none⟩) (is.length + 1) cp))) g (is.length * 6) (.int .i64 sk) (.string snm) (.slice na nn nc) (.slice aa an ac) (.string sp) (.slice ka kn2 kc)) ∧ (s'.imports ++ [Se.mk sk snm sns sas sp sks]).length ≤ 20) := ⟨HR.out.1.trans ((HBB.out.2.bt HBr.out).trans HB.out.2.2), ⟨is ++ [⟨Se.mk sk snm sns sas sp sks, .slice na nn nc, .slice aa an ac, .slice ka kn2 kc⟩], es, ev, _, bv, HB.out.2.1, by rw [List.map_append, H1E.out.1]; rfl, H1E.out.2⟩, by simp; omega⟩
                generalize (sixW ((World.setCell (w4) ⟨pb, 5, none⟩ (.slice (some ⟨g, 0, none⟩) (is.length + 1) cp))) g (is.length * 6) (.int .i64 sk) (.string snm) (.slice na nn nc) (.slice aa an ac) (.string sp) (.slice ka kn2 kc)) = Wf at HF ⊢
                clear HB HBB H4 HP4 hS
                go_wp2_with fail
                go_roundw
                case rel => exact ⟨j + 1, { s' with imports := s'.imports ++ [Se.mk sk snm sns sas sp sks] }, hlt, by go_num, HF.out.1, HF.out.2.1, HST2.out, HF.out.2.2⟩
                case measure => simp [intOf]; omega
            · go_simp
              have hb2 : Below (Array.size (World.heap (W1))) (W1) (World.alloc (W1) (.cells #[.int .i64 0, .string ⟨#[]⟩, .slice none 0 0, .slice none 0 0, .string ⟨#[]⟩, .slice none 0 0] 73)) := (Below.refl _ _).alloc (Nat.le_refl _) _
              have hz2 : (World.heap (World.alloc (W1) (.cells #[.int .i64 0, .string ⟨#[]⟩, .slice none 0 0, .slice none 0 0, .string ⟨#[]⟩, .slice none 0 0] 73)))[(Array.size (World.heap (W1)))]? = some (.cells #[.int .i64 0, .string ⟨#[]⟩, .slice none 0 0, .slice none 0 0, .string ⟨#[]⟩, .slice none 0 0] 73 (0, 0)) := World.alloc_heap_new _ _
              have hS2 : (World.heap (World.alloc (W1) (.cells #[.int .i64 0, .string ⟨#[]⟩, .slice none 0 0, .slice none 0 0, .string ⟨#[]⟩, .slice none 0 0] 73)))[wr.heap.size]? = some (.cells #[.int .i64 d.kind, .int .i64 d.n, .string d.name, .int .i64 d.stamp, .int .i64 d.lib, .slice a' kn cap'] 26 (0, 0)) := (hb2.block _ (Array.getElem?_eq_some_iff.1 hS).1).trans hS
              change K _ (World.alloc (W1) (.cells #[.int .i64 0, .string ⟨#[]⟩, .slice none 0 0, .slice none 0 0, .string ⟨#[]⟩, .slice none 0 0] 73))
              generalize (World.alloc (W1) (.cells #[.int .i64 0, .string ⟨#[]⟩, .slice none 0 0, .slice none 0 0, .string ⟨#[]⟩, .slice none 0 0] 73)) = W2 at hb2 hz2 hS2 ⊢
              have PX_2 : Hid (PSx B pb f1 f2 f3 s'.name s'.exports is es ev (.slice ia is.length ic) bv (W2) ∧ Below wr.heap.size wr (W2)) := ⟨PX_1.out.1.below hb2, PX_1.out.2.trans (hb2.mono PX_1.out.2.size)⟩
              have IK_2 : Hid (IE.ok (Fre B pb ev (.slice ia is.length ic) bv (W2)) (W2) ⟨Se.mk sk snm sns sas sp sks, .slice na nn nc, .slice aa an ac, .slice ka kn2 kc⟩) := IE.after IK_1.out hb2
              have ZZ_2 : Hid (W2.heap[(Array.size (World.heap (W1)))]? = some (.cells #[.int .i64 0, .string ⟨#[]⟩, .slice none 0 0, .slice none 0 0, .string ⟨#[]⟩, .slice none 0 0] 73 (0, 0))) := hz2
              clear hb2 hz2
              refine hK.out _ _ hS2 (fun hS => ?_)
              clear hK K
              refine wpAnyH_ready (rs := [4]) (by kernel_rfl) (by simp) (AllReadyH.cons (o := { dst := some 24, op := Op.load 28 (Operand.tmp 23), type := 28, pos := _, after := _, guard := none }) rfl (fun K hK => ?_) AllReadyH.nil)
              have zo : World.cell? (W2) ⟨pb, 5, none⟩ = some (.slice ia is.length ic) := (cellO PX_2.out.1.blk).trans rfl
              go_simp
              clear zo
              refine hK.out _ _ hS (fun hS => ?_)
              clear hK K
              refine wpAnyH_take (i := 7) (oi := { dst := some 27, op := Op.call { callee := Callee.builtin Builtin.len, args := #[Operand.tmp 24], argTypes := #[28] }, type := 3, pos := _, after := _, guard := none }) (v := .int .i64 is.length) rfl (by kernel_rfl) (by kernel_rfl) (by kernel_rfl) (fun _ _ _ h => h) (Or.inl ⟨by rfl, fun u hu => by go_simp⟩) hS ?_
              simp only [Act.put, List.setIfInBounds_toArray, List.set_cons_zero, List.set_cons_succ]
              refine wpAnyH_ready (rs := [9]) (by kernel_rfl) (by simp) (AllReadyH.cons (o := { dst := some 29, op := Op.call { callee := Callee.builtin Builtin.append, args := #[Operand.tmp 24, Operand.tmp 28], argTypes := #[28, 28] }, type := 28, pos := _, after := _, guard := none }) rfl (fun K hK => ?_) AllReadyH.nil)
              refine step_append_lies _ rfl (.tmp 24) (.tmp 28) 28 rfl B 73 i0 _ 6 112 Tryz.underlying28 hinf hz0 hz1 hz2 rfl (by decide) (.slice ia is.length ic) is.length (flatI is) rfl (by exact PX_2.out.1.io) ⟨(Array.size (World.heap (W1))), 0, none⟩ 1 1 zeroI rfl rfl ?_ ?_ (by decide) ?_ ?_ ?_ (Array.size (World.heap (W2))) rfl ?_
              · intro q u hq
                rw [addr_add]
                exact (cellO ZZ_2.out).trans (by simpa [zeroI] using hq)
              · intro u hu
                simp [zeroI] at hu
                rcases hu with rfl | rfl | rfl | rfl | rfl | rfl <;> rfl
              · have := HISL.out; unfold maxLen; omega
              · have := HISL.out; omega
              · exact PSx.hs PX_2.out.1
              intro g cp w4 hown hgrow hat hlt4
              have HB := hidd (imp_both (e := ⟨Se.mk sk snm sns sas sp sks, .slice na nn nc, .slice aa an ac, .slice ka kn2 kc⟩) PX_2.out.1 IK_2.out hown hgrow hat rfl)
              obtain ⟨g', cp', cur, hs, hbg, hgl, hcur, hcl, -⟩ := own_six hown (flatI_len is) rfl
              have hs1 : g = g' ∧ cp = cp' := by simpa using hs
              obtain ⟨rfl, rfl⟩ := hs1
              clear hs
              have hpb4 : w4.heap[pb]? = some (.cells #[f1, f2, f3, .string s'.name, ev, .slice ia is.length ic, bv] 57 (0, 0)) := (hgrow.block pb (Array.getElem?_eq_some_iff.1 PX_2.out.1.blk).1 (fun e => own_pb PX_2.out.1.io PX_2.out.1.blk (by decide) e.symm rfl)).trans PX_2.out.1.blk
              have hS4 : w4.heap[wr.heap.size]? = some (.cells #[.int .i64 d.kind, .int .i64 d.n, .string d.name, .int .i64 d.stamp, .int .i64 d.lib, .slice a' kn cap'] 26 (0, 0)) := (hgrow.block _ (Array.getElem?_eq_some_iff.1 hS).1 (fun e => own_box PX_2.out.1.io hS (by decide) e.symm)).trans hS
              have hgb : wr.heap.size ≠ g := fun e => own_box' hcur hS4 (by decide) e.symm
              have hpbb : wr.heap.size ≠ pb := fun e => own_box' hpb4 hS4 (by decide) e.symm
              have hgp : g ≠ pb := fun e => own_box' hcur hpb4 (by decide) e
              have H4 : Hid (w4.heap[g]? = some (.cells cur 73 (0, 0)) ∧ (is.length + 1) * 6 ≤ cur.size ∧ wr.heap.size ≠ g ∧ wr.heap.size ≠ pb ∧ g ≠ pb) := ⟨hcur, hcl, hgb, hpbb, hgp⟩
              have HP4 := hidd hpb4
              have HBB : Hid (True ∧ Below wr.heap.size wr (W2)) := ⟨trivial, PX_2.out.2⟩
              clear hown hgrow hat hlt4 hbg hgl hcur hcl hpb4 hgb hpbb hgp
              show K _ w4
              refine hK.out _ _ hS4 (fun hS => ?_)
              clear hK K
              refine wpAnyH_take (i := 10) (oi := { dst := some 30, op := Op.indexAddr 28 (Operand.tmp 29) (Operand.tmp 27), type := 0, pos := _, after := _, guard := none }) (v := .pointer (some ⟨g, is.length * 6, none⟩)) rfl (by kernel_rfl) (by kernel_rfl) (by kernel_rfl) (fun _ _ _ h => h) (Or.inl ⟨by rfl, fun u hu => by go_simp⟩) hS ?_
              simp only [Act.put, List.setIfInBounds_toArray, List.set_cons_zero, List.set_cons_succ]
              refine wpAnyH_take (i := 12) (oi := { dst := some 31, op := Op.nilCheck (Operand.tmp 20), type := 0, pos := _, after := _, guard := none }) (v := .pointer (some ⟨pb, 0, none⟩)) rfl (by kernel_rfl) (by kernel_rfl) (by kernel_rfl) (fun _ _ _ h => h) (Or.inl ⟨by rfl, fun u hu => by go_simp⟩) hS ?_
              simp only [Act.put, List.setIfInBounds_toArray, List.set_cons_zero, List.set_cons_succ]
              refine wpAnyH_take (i := 13) (oi := { dst := some 32, op := Op.fieldAddr 57 (Operand.tmp 31) 3, type := 0, pos := _, after := _, guard := none }) (v := .pointer (some ⟨pb, 3, none⟩)) rfl (by kernel_rfl) (by kernel_rfl) (by kernel_rfl) (fun _ _ _ h => h) (Or.inl ⟨by rfl, fun u hu => by go_simp⟩) hS ?_
              simp only [Act.put, List.setIfInBounds_toArray, List.set_cons_zero, List.set_cons_succ]
              refine wpAnyH_take (i := 14) (oi := { dst := some 33, op := Op.fieldAddr 30 (Operand.tmp 32) 2, type := 0, pos := _, after := _, guard := none }) (v := .pointer (some ⟨pb, 5, none⟩)) rfl (by kernel_rfl) (by kernel_rfl) (by kernel_rfl) (fun _ _ _ h => h) (Or.inl ⟨by rfl, fun u hu => by go_simp⟩) hS ?_
              simp only [Act.put, List.setIfInBounds_toArray, List.set_cons_zero, List.set_cons_succ]
              refine wpAnyH_ready (rs := [11, 15]) (by kernel_rfl) (by simp) (AllReadyH.cons (o := { dst := none, op := Op.store 73 (Operand.tmp 30) (Operand.tmp 26), type := 0, pos := _, after := _, guard := none }) rfl (fun K hK => ?_) (AllReadyH.cons (o := { dst := none, op := Op.store 28 (Operand.tmp 33) (Operand.tmp 29), type := 0, pos := _, after := _, guard := none }) rfl (fun K hK => ?_) AllReadyH.nil))
              · have hcu : (World.heap (w4))[g]? = some (.cells cur 73 (0, 0)) := H4.out.1
                have hcs := H4.out.2.1
                obtain ⟨x0, y0⟩ : ∃ x, World.cell? (w4) ⟨g, is.length * 6, none⟩ = some x := ⟨_, (cellO hcu).trans (Array.getElem?_eq_getElem (by omega))⟩
                have u0 : World.frozen? (w4) ⟨g, is.length * 6, none⟩ = false := looseO hcu
                obtain ⟨x1, y1⟩ : ∃ x, World.cell? (w4) ⟨g, is.length * 6 + 1, none⟩ = some x := ⟨_, (cellO hcu).trans (Array.getElem?_eq_getElem (by omega))⟩
                have u1 : World.frozen? (w4) ⟨g, is.length * 6 + 1, none⟩ = false := looseO hcu
                obtain ⟨x2, y2⟩ : ∃ x, World.cell? (w4) ⟨g, is.length * 6 + 2, none⟩ = some x := ⟨_, (cellO hcu).trans (Array.getElem?_eq_getElem (by omega))⟩
                have u2 : World.frozen? (w4) ⟨g, is.length * 6 + 2, none⟩ = false := looseO hcu
                obtain ⟨x3, y3⟩ : ∃ x, World.cell? (w4) ⟨g, is.length * 6 + 3, none⟩ = some x := ⟨_, (cellO hcu).trans (Array.getElem?_eq_getElem (by omega))⟩
                have u3 : World.frozen? (w4) ⟨g, is.length * 6 + 3, none⟩ = false := looseO hcu
                obtain ⟨x4, y4⟩ : ∃ x, World.cell? (w4) ⟨g, is.length * 6 + 4, none⟩ = some x := ⟨_, (cellO hcu).trans (Array.getElem?_eq_getElem (by omega))⟩
                have u4 : World.frozen? (w4) ⟨g, is.length * 6 + 4, none⟩ = false := looseO hcu
                obtain ⟨x5, y5⟩ : ∃ x, World.cell? (w4) ⟨g, is.length * 6 + 5, none⟩ = some x := ⟨_, (cellO hcu).trans (Array.getElem?_eq_getElem (by omega))⟩
                have u5 : World.frozen? (w4) ⟨g, is.length * 6 + 5, none⟩ = false := looseO hcu
                clear hcu hcs
                go_simp
                clear y0 u0 y1 u1 y2 u2 y3 u3 y4 u4 y5 u5
                have hS3 : (World.heap (sixW (w4) g (is.length * 6) (.int .i64 sk) (.string snm) (.slice na nn nc) (.slice aa an ac) (.string sp) (.slice ka kn2 kc)))[wr.heap.size]? = some (.cells #[.int .i64 d.kind, .int .i64 d.n, .string d.name, .int .i64 d.stamp, .int .i64 d.lib, .slice a' kn cap'] 26 (0, 0)) := (sixW_far _ g _ _ H4.out.2.2.1 _ _ _ _ _ _).trans hS
                show K _ (sixW (w4) g (is.length * 6) (.int .i64 sk) (.string snm) (.slice na nn nc) (.slice aa an ac) (.string sp) (.slice ka kn2 kc))
                refine hK.out _ _ hS3 (fun hS => ?_)
                clear hK K
                refine wpAnyH_ready (rs := [15]) (by kernel_rfl) (by simp) (AllReadyH.cons (o := { dst := none, op := Op.store 28 (Operand.tmp 33) (Operand.tmp 29), type := 0, pos := _, after := _, guard := none }) rfl (fun K hK => ?_) AllReadyH.nil)
                have hpu : (World.heap ((sixW (w4) g (is.length * 6) (.int .i64 sk) (.string snm) (.slice na nn nc) (.slice aa an ac) (.string sp) (.slice ka kn2 kc))))[pb]? = _ := ((sixW_far _ g _ pb (fun e => H4.out.2.2.2.2 e.symm) _ _ _ _ _ _).trans HP4.out)
                have y5 : World.cell? ((sixW (w4) g (is.length * 6) (.int .i64 sk) (.string snm) (.slice na nn nc) (.slice aa an ac) (.string sp) (.slice ka kn2 kc))) ⟨pb, 5, none⟩ = some (.slice ia is.length ic) := (cellO hpu).trans rfl
                have u5 : World.frozen? ((sixW (w4) g (is.length * 6) (.int .i64 sk) (.string snm) (.slice na nn nc) (.slice aa an ac) (.string sp) (.slice ka kn2 kc))) ⟨pb, 5, none⟩ = false := looseO hpu
                clear hpu
                go_simp
                clear y5 u5
                have hS4 : (World.heap (World.setCell ((sixW (w4) g (is.length * 6) (.int .i64 sk) (.string snm) (.slice na nn nc) (.slice aa an ac) (.string sp) (.slice ka kn2 kc))) ⟨pb, 5, none⟩ (.slice (some ⟨g, 0, none⟩) (is.length + 1) cp)))[wr.heap.size]? = some (.cells #[.int .i64 d.kind, .int .i64 d.n, .string d.name, .int .i64 d.stamp, .int .i64 d.lib, .slice a' kn cap'] 26 (0, 0)) := (Below.heap_setCell _ _ _ _ (show wr.heap.size ≠ pb from H4.out.2.2.2.1)).trans hS
                show K _ (World.setCell ((sixW (w4) g (is.length * 6) (.int .i64 sk) (.string snm) (.slice na nn nc) (.slice aa an ac) (.string sp) (.slice ka kn2 kc))) ⟨pb, 5, none⟩ (.slice (some ⟨g, 0, none⟩) (is.length + 1) cp))
                refine hK.out _ _ hS4 (fun hS => ?_)
                clear hK K
                refine wpAnyH_done (by kernel_rfl) ?_ _
                have HF : Hid (BT B w ((World.setCell ((sixW (w4) g (is.length * 6) (.int .i64 sk) (.string snm) (.slice na nn nc) (.slice aa an ac) (.string sp) (.slice ka kn2 kc))) ⟨pb, 5, none⟩ (.slice (some ⟨g, 0, none⟩) (is.length + 1) cp))) ∧ PS B pb f1 f2 f3 { s' with imports := s'.imports ++ [Se.mk sk snm sns sas sp sks] } (World.setCell ((sixW (w4) g (is.length * 6) (.int .i64 sk) (.string snm) (.slice na nn nc) (.slice aa an ac) (.string sp) (.slice ka kn2 kc))) ⟨pb, 5, none⟩ (.slice (some ⟨g, 0, none⟩) (is.length + 1) cp)) ∧ (s'.imports ++ [Se.mk sk snm sns sas sp sks]).length ≤ 20) := ⟨HR.out.1.trans ((HBB.out.2.bt HBr.out).trans HB.out.1.2), ⟨is ++ [⟨Se.mk sk snm sns sas sp sks, .slice na nn nc, .slice aa an ac, .slice ka kn2 kc⟩], es, ev, _, bv, HB.out.1.1, by rw [List.map_append, H1E.out.1]; rfl, H1E.out.2⟩, by simp; omega⟩
                generalize (World.setCell ((sixW (w4) g (is.length * 6) (.int .i64 sk) (.string snm) (.slice na nn nc) (.slice aa an ac) (.string sp) (.slice ka kn2 kc))) ⟨pb, 5, none⟩ (.slice (some ⟨g, 0, none⟩) (is.length + 1) cp)) = Wf at HF ⊢
                clear HB HBB H4 HP4 hS
                go_wp2_with fail
                go_roundw
                case rel => exact ⟨j + 1, { s' with imports := s'.imports ++ [Se.mk sk snm sns sas sp sks] }, hlt, by go_num, HF.out.1, HF.out.2.1, HST2.out, HF.out.2.2⟩
                case measure => simp [intOf]; omega
              · have hpu : (World.heap (w4))[pb]? = _ := HP4.out
                have y5 : World.cell? (w4) ⟨pb, 5, none⟩ = some (.slice ia is.length ic) := (cellO hpu).trans rfl
                have u5 : World.frozen? (w4) ⟨pb, 5, none⟩ = false := looseO hpu
                clear hpu
                go_simp
                clear y5 u5
                have hS3 : (World.heap (World.setCell (w4) ⟨pb, 5, none⟩ (.slice (some ⟨g, 0, none⟩) (is.length + 1) cp)))[wr.heap.size]? = some (.cells #[.int .i64 d.kind, .int .i64 d.n, .string d.name, .int .i64 d.stamp, .int .i64 d.lib, .slice a' kn cap'] 26 (0, 0)) := (Below.heap_setCell _ _ _ _ (show wr.heap.size ≠ pb from H4.out.2.2.2.1)).trans hS
                show K _ (World.setCell (w4) ⟨pb, 5, none⟩ (.slice (some ⟨g, 0, none⟩) (is.length + 1) cp))
                refine hK.out _ _ hS3 (fun hS => ?_)
                clear hK K
                refine wpAnyH_ready (rs := [11]) (by kernel_rfl) (by simp) (AllReadyH.cons (o := { dst := none, op := Op.store 73 (Operand.tmp 30) (Operand.tmp 26), type := 0, pos := _, after := _, guard := none }) rfl (fun K hK => ?_) AllReadyH.nil)
                have hcu : (World.heap ((World.setCell (w4) ⟨pb, 5, none⟩ (.slice (some ⟨g, 0, none⟩) (is.length + 1) cp))))[g]? = some (.cells cur 73 (0, 0)) := ((Below.heap_setCell _ _ _ _ (show g ≠ pb from H4.out.2.2.2.2)).trans H4.out.1)
                have hcs := H4.out.2.1
                obtain ⟨x0, y0⟩ : ∃ x, World.cell? ((World.setCell (w4) ⟨pb, 5, none⟩ (.slice (some ⟨g, 0, none⟩) (is.length + 1) cp))) ⟨g, is.length * 6, none⟩ = some x := ⟨_, (cellO hcu).trans (Array.getElem?_eq_getElem (by omega))⟩
                have u0 : World.frozen? ((World.setCell (w4) ⟨pb, 5, none⟩ (.slice (some ⟨g, 0, none⟩) (is.length + 1) cp))) ⟨g, is.length * 6, none⟩ = false := looseO hcu
                obtain ⟨x1, y1⟩ : ∃ x, World.cell? ((World.setCell (w4) ⟨pb, 5, none⟩ (.slice (some ⟨g, 0, none⟩) (is.length + 1) cp))) ⟨g, is.length * 6 + 1, none⟩ = some x := ⟨_, (cellO hcu).trans (Array.getElem?_eq_getElem (by omega))⟩
                have u1 : World.frozen? ((World.setCell (w4) ⟨pb, 5, none⟩ (.slice (some ⟨g, 0, none⟩) (is.length + 1) cp))) ⟨g, is.length * 6 + 1, none⟩ = false := looseO hcu
                obtain ⟨x2, y2⟩ : ∃ x, World.cell? ((World.setCell (w4) ⟨pb, 5, none⟩ (.slice (some ⟨g, 0, none⟩) (is.length + 1) cp))) ⟨g, is.length * 6 + 2, none⟩ = some x := ⟨_, (cellO hcu).trans (Array.getElem?_eq_getElem (by omega))⟩
                have u2 : World.frozen? ((World.setCell (w4) ⟨pb, 5, none⟩ (.slice (some ⟨g, 0, none⟩) (is.length + 1) cp))) ⟨g, is.length * 6 + 2, none⟩ = false := looseO hcu
                obtain ⟨x3, y3⟩ : ∃ x, World.cell? ((World.setCell (w4) ⟨pb, 5, none⟩ (.slice (some ⟨g, 0, none⟩) (is.length + 1) cp))) ⟨g, is.length * 6 + 3, none⟩ = some x := ⟨_, (cellO hcu).trans (Array.getElem?_eq_getElem (by omega))⟩
                have u3 : World.frozen? ((World.setCell (w4) ⟨pb, 5, none⟩ (.slice (some ⟨g, 0, none⟩) (is.length + 1) cp))) ⟨g, is.length * 6 + 3, none⟩ = false := looseO hcu
                obtain ⟨x4, y4⟩ : ∃ x, World.cell? ((World.setCell (w4) ⟨pb, 5, none⟩ (.slice (some ⟨g, 0, none⟩) (is.length + 1) cp))) ⟨g, is.length * 6 + 4, none⟩ = some x := ⟨_, (cellO hcu).trans (Array.getElem?_eq_getElem (by omega))⟩
                have u4 : World.frozen? ((World.setCell (w4) ⟨pb, 5, none⟩ (.slice (some ⟨g, 0, none⟩) (is.length + 1) cp))) ⟨g, is.length * 6 + 4, none⟩ = false := looseO hcu
                obtain ⟨x5, y5⟩ : ∃ x, World.cell? ((World.setCell (w4) ⟨pb, 5, none⟩ (.slice (some ⟨g, 0, none⟩) (is.length + 1) cp))) ⟨g, is.length * 6 + 5, none⟩ = some x := ⟨_, (cellO hcu).trans (Array.getElem?_eq_getElem (by omega))⟩
                have u5 : World.frozen? ((World.setCell (w4) ⟨pb, 5, none⟩ (.slice (some ⟨g, 0, none⟩) (is.length + 1) cp))) ⟨g, is.length * 6 + 5, none⟩ = false := looseO hcu
                clear hcu hcs
                go_simp
                clear y0 u0 y1 u1 y2 u2 y3 u3 y4 u4 y5 u5
                have hS4 : (World.heap (sixW ((World.setCell (w4) ⟨pb, 5, none⟩ (.slice (some ⟨g, 0, none⟩) (is.length + 1) cp))) g (is.length * 6) (.int .i64 sk) (.string snm) (.slice na nn nc) (.slice aa an ac) (.string sp) (.slice ka kn2 kc)))[wr.heap.size]? = some (.cells #[.int .i64 d.kind, .int .i64 d.n, .string d.name, .int .i64 d.stamp, .int .i64 d.lib, .slice a' kn cap'] 26 (0, 0)) := (sixW_far _ g _ _ H4.out.2.2.1 _ _ _ _ _ _).trans hS
                show K _ (sixW ((World.setCell (w4) ⟨pb, 5, none⟩ (.slice (some ⟨g, 0, none⟩) (is.length + 1) cp))) g (is.length * 6) (.int .i64 sk) (.string snm) (.slice na nn nc) (.slice aa an ac) (.string sp) (.slice ka kn2 kc))
                refine hK.out _ _ hS4 (fun hS => ?_)
                clear hK K
                refine wpAnyH_done (by kernel_rfl) ?_ _
                have HF : Hid (BT B w ((sixW ((World.setCell (w4) ⟨pb, 5, none⟩ (.slice (some ⟨g, 0, none⟩) (is.length + 1) cp))) g (is.length * 6) (.int .i64 sk) (.string snm) (.slice na nn nc) (.slice aa an ac) (.string sp) (.slice ka kn2 kc))) ∧ PS B pb f1 f2 f3 { s' with imports := s'.imports ++ [Se.mk sk snm sns sas sp sks] } (sixW ((World.setCell (w4) ⟨pb, 5, none⟩ (.slice (some ⟨g, 0, none⟩) (is.length + 1) cp))) g (is.length * 6) (.int .i64 sk) (.string snm) (.slice na nn nc) (.slice aa an ac) (.string sp) (.slice ka kn2 kc)) ∧ (s'.imports ++ [Se.mk sk snm sns sas sp sks]).length ≤ 20) := ⟨HR.out.1.trans ((HBB.out.2.bt HBr.out).trans HB.out.2.2), ⟨is ++ [⟨Se.mk sk snm sns sas sp sks, .slice na nn nc, .slice aa an ac, .slice ka kn2 kc⟩], es, ev, _, bv, HB.out.2.1, by rw [List.map_append, H1E.out.1]; rfl, H1E.out.2⟩, by simp; omega⟩
                generalize (sixW ((World.setCell (w4) ⟨pb, 5, none⟩ (.slice (some ⟨g, 0, none⟩) (is.length + 1) cp))) g (is.length * 6) (.int .i64 sk) (.string snm) (.slice na nn nc) (.slice aa an ac) (.string sp) (.slice ka kn2 kc)) = Wf at HF ⊢
                clear HB HBB H4 HP4 hS
                go_wp2_with fail
                go_roundw
                case rel => exact ⟨j + 1, { s' with imports := s'.imports ++ [Se.mk sk snm sns sas sp sks] }, hlt, by go_num, HF.out.1, HF.out.2.1, HST2.out, HF.out.2.2⟩
                case measure => simp [intOf]; omega
          · go_simp
            have hb1 : Below (Array.size (World.heap (w5.drew))) (w5.drew) (World.alloc (w5.drew) (.cells #[.int .i64 0, .string ⟨#[]⟩, .slice none 0 0, .slice none 0 0, .string ⟨#[]⟩, .slice none 0 0] 73)) := (Below.refl _ _).alloc (Nat.le_refl _) _
            have hz1 : (World.heap (World.alloc (w5.drew) (.cells #[.int .i64 0, .string ⟨#[]⟩, .slice none 0 0, .slice none 0 0, .string ⟨#[]⟩, .slice none 0 0] 73)))[(Array.size (World.heap (w5.drew)))]? = some (.cells #[.int .i64 0, .string ⟨#[]⟩, .slice none 0 0, .slice none 0 0, .string ⟨#[]⟩, .slice none 0 0] 73 (0, 0)) := World.alloc_heap_new _ _
            have hS1 : (World.heap (World.alloc (w5.drew) (.cells #[.int .i64 0, .string ⟨#[]⟩, .slice none 0 0, .slice none 0 0, .string ⟨#[]⟩, .slice none 0 0] 73)))[wr.heap.size]? = some (.cells #[.int .i64 d.kind, .int .i64 d.n, .string d.name, .int .i64 d.stamp, .int .i64 d.lib, .slice a' kn cap'] 26 (0, 0)) := (hb1.block _ (Array.getElem?_eq_some_iff.1 hS).1).trans hS
            change K _ (World.alloc (w5.drew) (.cells #[.int .i64 0, .string ⟨#[]⟩, .slice none 0 0, .slice none 0 0, .string ⟨#[]⟩, .slice none 0 0] 73))
            generalize (World.alloc (w5.drew) (.cells #[.int .i64 0, .string ⟨#[]⟩, .slice none 0 0, .slice none 0 0, .string ⟨#[]⟩, .slice none 0 0] 73)) = W1 at hb1 hz1 hS1 ⊢
            have PX_1 : Hid (PSx B pb f1 f2 f3 s'.name s'.exports is es ev (.slice ia is.length ic) bv (W1) ∧ Below wr.heap.size wr (W1)) := ⟨PX_0.out.1.below hb1, PX_0.out.2.trans (hb1.mono PX_0.out.2.size)⟩
            have ZZ_1 : Hid (W1.heap[(Array.size (World.heap (w5.drew)))]? = some (.cells #[.int .i64 0, .string ⟨#[]⟩, .slice none 0 0, .slice none 0 0, .string ⟨#[]⟩, .slice none 0 0] 73 (0, 0))) := hz1
            clear hb1 hz1
            refine hK.out _ _ hS1 (fun hS => ?_)
            clear hK K
            refine wpAnyH_ready (rs := [4, 6]) (by kernel_rfl) (by simp) (AllReadyH.cons (o := { dst := some 24, op := Op.load 28 (Operand.tmp 23), type := 28, pos := _, after := _, guard := none }) rfl (fun K hK => ?_) (AllReadyH.cons (o := { dst := some 26, op := Op.call { callee := Callee.value (Operand.func 130), args := #[Operand.tmp 25, Operand.const (Value.int IntKind.i64 1)], argTypes := #[26, 3] }, type := 73, pos := _, after := _, guard := none }) rfl (fun K hK => ?_) AllReadyH.nil))
            · have zo : World.cell? (W1) ⟨pb, 5, none⟩ = some (.slice ia is.length ic) := (cellO PX_1.out.1.blk).trans rfl
              go_simp
              clear zo
              refine hK.out _ _ hS (fun hS => ?_)
              clear hK K
              refine wpAnyH_take (i := 7) (oi := { dst := some 27, op := Op.call { callee := Callee.builtin Builtin.len, args := #[Operand.tmp 24], argTypes := #[28] }, type := 3, pos := _, after := _, guard := none }) (v := .int .i64 is.length) rfl (by kernel_rfl) (by kernel_rfl) (by kernel_rfl) (fun _ _ _ h => h) (Or.inl ⟨by rfl, fun u hu => by go_simp⟩) hS ?_
              simp only [Act.put, List.setIfInBounds_toArray, List.set_cons_zero, List.set_cons_succ]
              refine wpAnyH_ready (rs := [6]) (by kernel_rfl) (by simp) (AllReadyH.cons (o := { dst := some 26, op := Op.call { callee := Callee.value (Operand.func 130), args := #[Operand.tmp 25, Operand.const (Value.int IntKind.i64 1)], argTypes := #[26, 3] }, type := 73, pos := _, after := _, guard := none }) rfl (fun K hK => ?_) AllReadyH.nil)
              go_simp
              refine (CA.out (W1) PX_1.out.2).mono ?_
              rintro e W2 ⟨hb2, v, rfl, nv, av, kv, rfl, g1, g2, g3⟩
              obtain ⟨na, nn, nc, rfl⟩ := SV.slice g1
              obtain ⟨aa, an, ac, rfl⟩ := SV.slice g2
              obtain ⟨ka, kn2, kc, rfl⟩ := SeL.slice g3
              have PX_2 : Hid (PSx B pb f1 f2 f3 s'.name s'.exports is es ev (.slice ia is.length ic) bv (W2) ∧ Below wr.heap.size wr (W2)) := ⟨PX_1.out.1.below hb2, PX_1.out.2.trans (hb2.mono PX_1.out.2.size)⟩
              have ZZ_2 : Hid ((World.heap (W2))[(Array.size (World.heap (w5.drew)))]? = some (.cells #[.int .i64 0, .string ⟨#[]⟩, .slice none 0 0, .slice none 0 0, .string ⟨#[]⟩, .slice none 0 0] 73 (0, 0))) := (hb2.block _ (Array.getElem?_eq_some_iff.1 ZZ_1.out).1).trans ZZ_1.out
              have IK_2 : Hid (IE.ok (Fre B pb ev (.slice ia is.length ic) bv W2) W2 ⟨Se.mk sk snm sns sas sp sks, .slice na nn nc, .slice aa an ac, .slice ka kn2 kc⟩) := IE.stay (ok := fun k => Array.size (World.heap (W1)) ≤ k ∧ k < W2.heap.size) (w := W2) (e := ⟨Se.mk sk snm sns sas sp sks, .slice na nn nc, .slice aa an ac, .slice ka kn2 kc⟩) ⟨g1, g2, g3⟩ (fun k hk => rfl) (fun k hk => PSx.fresh PX_1.out.1 hk.1 hk.2)
              have hS2 : W2.heap[wr.heap.size]? = some (.cells #[.int .i64 d.kind, .int .i64 d.n, .string d.name, .int .i64 d.stamp, .int .i64 d.lib, .slice a' kn cap'] 26 (0, 0)) := (hb2.block _ (Array.getElem?_eq_some_iff.1 hS).1).trans hS
              clear hb2 g1 g2 g3
              show K _ W2
              refine hK.out _ _ hS2 (fun hS => ?_)
              clear hK K
              refine wpAnyH_ready (rs := [9]) (by kernel_rfl) (by simp) (AllReadyH.cons (o := { dst := some 29, op := Op.call { callee := Callee.builtin Builtin.append, args := #[Operand.tmp 24, Operand.tmp 28], argTypes := #[28, 28] }, type := 28, pos := _, after := _, guard := none }) rfl (fun K hK => ?_) AllReadyH.nil)
              refine step_append_lies _ rfl (.tmp 24) (.tmp 28) 28 rfl B 73 i0 _ 6 112 Tryz.underlying28 hinf hz0 hz1 hz2 rfl (by decide) (.slice ia is.length ic) is.length (flatI is) rfl (by exact PX_2.out.1.io) ⟨(Array.size (World.heap (w5))), 0, none⟩ 1 1 zeroI rfl rfl ?_ ?_ (by decide) ?_ ?_ ?_ (Array.size (World.heap (W2))) rfl ?_
              · intro q u hq
                rw [addr_add]
                exact (cellO ZZ_2.out).trans (by simpa [zeroI] using hq)
              · intro u hu
                simp [zeroI] at hu
                rcases hu with rfl | rfl | rfl | rfl | rfl | rfl <;> rfl
              · have := HISL.out; unfold maxLen; omega
              · have := HISL.out; omega
              · exact PSx.hs PX_2.out.1
              intro g cp w4 hown hgrow hat hlt4
              have HB := hidd (imp_both (e := ⟨Se.mk sk snm sns sas sp sks, .slice na nn nc, .slice aa an ac, .slice ka kn2 kc⟩) PX_2.out.1 IK_2.out hown hgrow hat rfl)
              obtain ⟨g', cp', cur, hs, hbg, hgl, hcur, hcl, -⟩ := own_six hown (flatI_len is) rfl
              have hs1 : g = g' ∧ cp = cp' := by simpa using hs
              obtain ⟨rfl, rfl⟩ := hs1
              clear hs
              have hpb4 : w4.heap[pb]? = some (.cells #[f1, f2, f3, .string s'.name, ev, .slice ia is.length ic, bv] 57 (0, 0)) := (hgrow.block pb (Array.getElem?_eq_some_iff.1 PX_2.out.1.blk).1 (fun e => own_pb PX_2.out.1.io PX_2.out.1.blk (by decide) e.symm rfl)).trans PX_2.out.1.blk
              have hS4 : w4.heap[wr.heap.size]? = some (.cells #[.int .i64 d.kind, .int .i64 d.n, .string d.name, .int .i64 d.stamp, .int .i64 d.lib, .slice a' kn cap'] 26 (0, 0)) := (hgrow.block _ (Array.getElem?_eq_some_iff.1 hS).1 (fun e => own_box PX_2.out.1.io hS (by decide) e.symm)).trans hS
              have hgb : wr.heap.size ≠ g := fun e => own_box' hcur hS4 (by decide) e.symm
              have hpbb : wr.heap.size ≠ pb := fun e => own_box' hpb4 hS4 (by decide) e.symm
              have hgp : g ≠ pb := fun e => own_box' hcur hpb4 (by decide) e
              have H4 : Hid (w4.heap[g]? = some (.cells cur 73 (0, 0)) ∧ (is.length + 1) * 6 ≤ cur.size ∧ wr.heap.size ≠ g ∧ wr.heap.size ≠ pb ∧ g ≠ pb) := ⟨hcur, hcl, hgb, hpbb, hgp⟩
              have HP4 := hidd hpb4
              have HBB : Hid (True ∧ Below wr.heap.size wr (W2)) := ⟨trivial, PX_2.out.2⟩
              clear hown hgrow hat hlt4 hbg hgl hcur hcl hpb4 hgb hpbb hgp
              show K _ w4
              refine hK.out _ _ hS4 (fun hS => ?_)
              clear hK K
              refine wpAnyH_take (i := 10) (oi := { dst := some 30, op := Op.indexAddr 28 (Operand.tmp 29) (Operand.tmp 27), type := 0, pos := _, after := _, guard := none }) (v := .pointer (some ⟨g, is.length * 6, none⟩)) rfl (by kernel_rfl) (by kernel_rfl) (by kernel_rfl) (fun _ _ _ h => h) (Or.inl ⟨by rfl, fun u hu => by go_simp⟩) hS ?_
              simp only [Act.put, List.setIfInBounds_toArray, List.set_cons_zero, List.set_cons_succ]
              refine wpAnyH_take (i := 12) (oi := { dst := some 31, op := Op.nilCheck (Operand.tmp 20), type := 0, pos := _, after := _, guard := none }) (v := .pointer (some ⟨pb, 0, none⟩)) rfl (by kernel_rfl) (by kernel_rfl) (by kernel_rfl) (fun _ _ _ h => h) (Or.inl ⟨by rfl, fun u hu => by go_simp⟩) hS ?_
              simp only [Act.put, List.setIfInBounds_toArray, List.set_cons_zero, List.set_cons_succ]
              refine wpAnyH_take (i := 13) (oi := { dst := some 32, op := Op.fieldAddr 57 (Operand.tmp 31) 3, type := 0, pos := _, after := _, guard := none }) (v := .pointer (some ⟨pb, 3, none⟩)) rfl (by kernel_rfl) (by kernel_rfl) (by kernel_rfl) (fun _ _ _ h => h) (Or.inl ⟨by rfl, fun u hu => by go_simp⟩) hS ?_
              simp only [Act.put, List.setIfInBounds_toArray, List.set_cons_zero, List.set_cons_succ]
              refine wpAnyH_take (i := 14) (oi := { dst := some 33, op := Op.fieldAddr 30 (Operand.tmp 32) 2, type := 0, pos := _, after := _, guard := none }) (v := .pointer (some ⟨pb, 5, none⟩)) rfl (by kernel_rfl) (by kernel_rfl) (by kernel_rfl) (fun _ _ _ h => h) (Or.inl ⟨by rfl, fun u hu => by go_simp⟩) hS ?_
              simp only [Act.put, List.setIfInBounds_toArray, List.set_cons_zero, List.set_cons_succ]
              refine wpAnyH_ready (rs := [11, 15]) (by kernel_rfl) (by simp) (AllReadyH.cons (o := { dst := none, op := Op.store 73 (Operand.tmp 30) (Operand.tmp 26), type := 0, pos := _, after := _, guard := none }) rfl (fun K hK => ?_) (AllReadyH.cons (o := { dst := none, op := Op.store 28 (Operand.tmp 33) (Operand.tmp 29), type := 0, pos := _, after := _, guard := none }) rfl (fun K hK => ?_) AllReadyH.nil))
              · have hcu : (World.heap (w4))[g]? = some (.cells cur 73 (0, 0)) := H4.out.1
                have hcs := H4.out.2.1
                obtain ⟨x0, y0⟩ : ∃ x, World.cell? (w4) ⟨g, is.length * 6, none⟩ = some x := ⟨_, (cellO hcu).trans (Array.getElem?_eq_getElem (by omega))⟩
                have u0 : World.frozen? (w4) ⟨g, is.length * 6, none⟩ = false := looseO hcu
                obtain ⟨x1, y1⟩ : ∃ x, World.cell? (w4) ⟨g, is.length * 6 + 1, none⟩ = some x := ⟨_, (cellO hcu).trans (Array.getElem?_eq_getElem (by omega))⟩
                have u1 : World.frozen? (w4) ⟨g, is.length * 6 + 1, none⟩ = false := looseO hcu
                obtain ⟨x2, y2⟩ : ∃ x, World.cell? (w4) ⟨g, is.length * 6 + 2, none⟩ = some x := ⟨_, (cellO hcu).trans (Array.getElem?_eq_getElem (by omega))⟩
                have u2 : World.frozen? (w4) ⟨g, is.length * 6 + 2, none⟩ = false := looseO hcu
                obtain ⟨x3, y3⟩ : ∃ x, World.cell? (w4) ⟨g, is.length * 6 + 3, none⟩ = some x := ⟨_, (cellO hcu).trans (Array.getElem?_eq_getElem (by omega))⟩
                have u3 : World.frozen? (w4) ⟨g, is.length * 6 + 3, none⟩ = false := looseO hcu
                obtain ⟨x4, y4⟩ : ∃ x, World.cell? (w4) ⟨g, is.length * 6 + 4, none⟩ = some x := ⟨_, (cellO hcu).trans (Array.getElem?_eq_getElem (by omega))⟩
                have u4 : World.frozen? (w4) ⟨g, is.length * 6 + 4, none⟩ = false := looseO hcu
                obtain ⟨x5, y5⟩ : ∃ x, World.cell? (w4) ⟨g, is.length * 6 + 5, none⟩ = some x := ⟨_, (cellO hcu).trans (Array.getElem?_eq_getElem (by omega))⟩
                have u5 : World.frozen? (w4) ⟨g, is.length * 6 + 5, none⟩ = false := looseO hcu
                clear hcu hcs
                go_simp
                clear y0 u0 y1 u1 y2 u2 y3 u3 y4 u4 y5 u5
                have hS3 : (World.heap (sixW (w4) g (is.length * 6) (.int .i64 sk) (.string snm) (.slice na nn nc) (.slice aa an ac) (.string sp) (.slice ka kn2 kc)))[wr.heap.size]? = some (.cells #[.int .i64 d.kind, .int .i64 d.n, .string d.name, .int .i64 d.stamp, .int .i64 d.lib, .slice a' kn cap'] 26 (0, 0)) := (sixW_far _ g _ _ H4.out.2.2.1 _ _ _ _ _ _).trans hS
                show K _ (sixW (w4) g (is.length * 6) (.int .i64 sk) (.string snm) (.slice na nn nc) (.slice aa an ac) (.string sp) (.slice ka kn2 kc))
                refine hK.out _ _ hS3 (fun hS => ?_)
                clear hK K
                refine wpAnyH_ready (rs := [15]) (by kernel_rfl) (by simp) (AllReadyH.cons (o := { dst := none, op := Op.store 28 (Operand.tmp 33) (Operand.tmp 29), type := 0, pos := _, after := _, guard := none }) rfl (fun K hK => ?_) AllReadyH.nil)
                have hpu : (World.heap ((sixW (w4) g (is.length * 6) (.int .i64 sk) (.string snm) (.slice na nn nc) (.slice aa an ac) (.string sp) (.slice ka kn2 kc))))[pb]? = _ := ((sixW_far _ g _ pb (fun e => H4.out.2.2.2.2 e.symm) _ _ _ _ _ _).trans HP4.out)
                have y5 : World.cell? ((sixW (w4) g (is.length * 6) (.int .i64 sk) (.string snm) (.slice na nn nc) (.slice aa an ac) (.string sp) (.slice ka kn2 kc))) ⟨pb, 5, none⟩ = some (.slice ia is.length ic) := (cellO hpu).trans rfl
                have u5 : World.frozen? ((sixW (w4) g (is.length * 6) (.int .i64 sk) (.string snm) (.slice na nn nc) (.slice aa an ac) (.string sp) (.slice ka kn2 kc))) ⟨pb, 5, none⟩ = false := looseO hpu
                clear hpu
                go_simp
                clear y5 u5
                have hS4 : (World.heap (World.setCell ((sixW (w4) g (is.length * 6) (.int .i64 sk) (.string snm) (.slice na nn nc) (.slice aa an ac) (.string sp) (.slice ka kn2 kc))) ⟨pb, 5, none⟩ (.slice (some ⟨g, 0, none⟩) (is.length + 1) cp)))[wr.heap.size]? = some (.cells #[.int .i64 d.kind, .int .i64 d.n, .string d.name, .int .i64 d.stamp, .int .i64 d.lib, .slice a' kn cap'] 26 (0, 0)) := (Below.heap_setCell _ _ _ _ (show wr.heap.size ≠ pb from H4.out.2.2.2.1)).trans hS
                show K _ (World.setCell ((sixW (w4) g (is.length * 6) (.int .i64 sk) (.string snm) (.slice na nn nc) (.slice aa an ac) (.string sp) (.slice ka kn2 kc))) ⟨pb, 5, none⟩ (.slice (some ⟨g, 0, none⟩) (is.length + 1) cp))
                refine hK.out _ _ hS4 (fun hS => ?_)
                clear hK K
                refine wpAnyH_done (by kernel_rfl) ?_ _
                have HF : Hid (BT B w ((World.setCell ((sixW (w4) g (is.length * 6) (.int .i64 sk) (.string snm) (.slice na nn nc) (.slice aa an ac) (.string sp) (.slice ka kn2 kc))) ⟨pb, 5, none⟩ (.slice (some ⟨g, 0, none⟩) (is.length + 1) cp))) ∧ PS B pb f1 f2 f3 { s' with imports := s'.imports ++ [Se.mk sk snm sns sas sp sks] } (World.setCell ((sixW (w4) g (is.length * 6) (.int .i64 sk) (.string snm) (.slice na nn nc) (.slice aa an ac) (.string sp) (.slice ka kn2 kc))) ⟨pb, 5, none⟩ (.slice (some ⟨g, 0, none⟩) (is.length + 1) cp)) ∧ (s'.imports ++ [Se.mk sk snm sns sas sp sks]).length ≤ 20) := ⟨HR.out.1.trans ((HBB.out.2.bt HBr.out).trans HB.out.1.2), ⟨is ++ [⟨Se.mk sk snm sns sas sp sks, .slice na nn nc, .slice aa an ac, .slice ka kn2 kc⟩], es, ev, _, bv, HB.out.1.1, by rw [List.map_append, H1E.out.1]; rfl, H1E.out.2⟩, by simp; omega⟩
                generalize (World.setCell ((sixW (w4) g (is.length * 6) (.int .i64 sk) (.string snm) (.slice na nn nc) (.slice aa an ac) (.string sp) (.slice ka kn2 kc))) ⟨pb, 5, none⟩ (.slice (some ⟨g, 0, none⟩) (is.length + 1) cp)) = Wf at HF ⊢
                clear HB HBB H4 HP4 hS
                go_wp2_with fail
                go_roundw
                case rel => exact ⟨j + 1, { s' with imports := s'.imports ++ [Se.mk sk snm sns sas sp sks] }, hlt, by go_num, HF.out.1, HF.out.2.1, HST2.out, HF.out.2.2⟩
                case measure => simp [intOf]; omega
              · have hpu : (World.heap (w4))[pb]? = _ := HP4.out
                have y5 : World.cell? (w4) ⟨pb, 5, none⟩ = some (.slice ia is.length ic) := (cellO hpu).trans rfl
                have u5 : World.frozen? (w4) ⟨pb, 5, none⟩ = false := looseO hpu
                clear hpu
                go_simp
                clear y5 u5
                have hS3 : (World.heap (World.setCell (w4) ⟨pb, 5, none⟩ (.slice (some ⟨g, 0, none⟩) (is.length + 1) cp)))[wr.heap.size]? = some (.cells #[.int .i64 d.kind, .int .i64 d.n, .string d.name, .int .i64 d.stamp, .int .i64 d.lib, .slice a' kn cap'] 26 (0, 0)) := (Below.heap_setCell _ _ _ _ (show wr.heap.size ≠ pb from H4.out.2.2.2.1)).trans hS
                show K _ (World.setCell (w4) ⟨pb, 5, none⟩ (.slice (some ⟨g, 0, none⟩) (is.length + 1) cp))
                refine hK.out _ _ hS3 (fun hS => ?_)
                clear hK K
                refine wpAnyH_ready (rs := [11]) (by kernel_rfl) (by simp) (AllReadyH.cons (o := { dst := none, op := Op.store 73 (Operand.tmp 30) (Operand.tmp 26), type := 0, pos := _, after := _, guard := none }) rfl (fun K hK => ?_) AllReadyH.nil)
                have hcu : (World.heap ((World.setCell (w4) ⟨pb, 5, none⟩ (.slice (some ⟨g, 0, none⟩) (is.length + 1) cp))))[g]? = some (.cells cur 73 (0, 0)) := ((Below.heap_setCell _ _ _ _ (show g ≠ pb from H4.out.2.2.2.2)).trans H4.out.1)
                have hcs := H4.out.2.1
                obtain ⟨x0, y0⟩ : ∃ x, World.cell? ((World.setCell (w4) ⟨pb, 5, none⟩ (.slice (some ⟨g, 0, none⟩) (is.length + 1) cp))) ⟨g, is.length * 6, none⟩ = some x := ⟨_, (cellO hcu).trans (Array.getElem?_eq_getElem (by omega))⟩
                have u0 : World.frozen? ((World.setCell (w4) ⟨pb, 5, none⟩ (.slice (some ⟨g, 0, none⟩) (is.length + 1) cp))) ⟨g, is.length * 6, none⟩ = false := looseO hcu
                obtain ⟨x1, y1⟩ : ∃ x, World.cell? ((World.setCell (w4) ⟨pb, 5, none⟩ (.slice (some ⟨g, 0, none⟩) (is.length + 1) cp))) ⟨g, is.length * 6 + 1, none⟩ = some x := ⟨_, (cellO hcu).trans (Array.getElem?_eq_getElem (by omega))⟩
                have u1 : World.frozen? ((World.setCell (w4) ⟨pb, 5, none⟩ (.slice (some ⟨g, 0, none⟩) (is.length + 1) cp))) ⟨g, is.length * 6 + 1, none⟩ = false := looseO hcu
                obtain ⟨x2, y2⟩ : ∃ x, World.cell? ((World.setCell (w4) ⟨pb, 5, none⟩ (.slice (some ⟨g, 0, none⟩) (is.length + 1) cp))) ⟨g, is.length * 6 + 2, none⟩ = some x := ⟨_, (cellO hcu).trans (Array.getElem?_eq_getElem (by omega))⟩
                have u2 : World.frozen? ((World.setCell (w4) ⟨pb, 5, none⟩ (.slice (some ⟨g, 0, none⟩) (is.length + 1) cp))) ⟨g, is.length * 6 + 2, none⟩ = false := looseO hcu
                obtain ⟨x3, y3⟩ : ∃ x, World.cell? ((World.setCell (w4) ⟨pb, 5, none⟩ (.slice (some ⟨g, 0, none⟩) (is.length + 1) cp))) ⟨g, is.length * 6 + 3, none⟩ = some x := ⟨_, (cellO hcu).trans (Array.getElem?_eq_getElem (by omega))⟩
                have u3 : World.frozen? ((World.setCell (w4) ⟨pb, 5, none⟩ (.slice (some ⟨g, 0, none⟩) (is.length + 1) cp))) ⟨g, is.length * 6 + 3, none⟩ = false := looseO hcu
                obtain ⟨x4, y4⟩ : ∃ x, World.cell? ((World.setCell (w4) ⟨pb, 5, none⟩ (.slice (some ⟨g, 0, none⟩) (is.length + 1) cp))) ⟨g, is.length * 6 + 4, none⟩ = some x := ⟨_, (cellO hcu).trans (Array.getElem?_eq_getElem (by omega))⟩
                have u4 : World.frozen? ((World.setCell (w4) ⟨pb, 5, none⟩ (.slice (some ⟨g, 0, none⟩) (is.length + 1) cp))) ⟨g, is.length * 6 + 4, none⟩ = false := looseO hcu
                obtain ⟨x5, y5⟩ : ∃ x, World.cell? ((World.setCell (w4) ⟨pb, 5, none⟩ (.slice (some ⟨g, 0, none⟩) (is.length + 1) cp))) ⟨g, is.length * 6 + 5, none⟩ = some x := ⟨_, (cellO hcu).trans (Array.getElem?_eq_getElem (by omega))⟩
                have u5 : World.frozen? ((World.setCell (w4) ⟨pb, 5, none⟩ (.slice (some ⟨g, 0, none⟩) (is.length + 1) cp))) ⟨g, is.length * 6 + 5, none⟩ = false := looseO hcu
                clear hcu hcs
                go_simp
                clear y0 u0 y1 u1 y2 u2 y3 u3 y4 u4 y5 u5
                have hS4 : (World.heap (sixW ((World.setCell (w4) ⟨pb, 5, none⟩ (.slice (some ⟨g, 0, none⟩) (is.length + 1) cp))) g (is.length * 6) (.int .i64 sk) (.string snm) (.slice na nn nc) (.slice aa an ac) (.string sp) (.slice ka kn2 kc)))[wr.heap.size]? = some (.cells #[.int .i64 d.kind, .int .i64 d.n, .string d.name, .int .i64 d.stamp, .int .i64 d.lib, .slice a' kn cap'] 26 (0, 0)) := (sixW_far _ g _ _ H4.out.2.2.1 _ _ _ _ _ _).trans hS
                show K _ (sixW ((World.setCell (w4) ⟨pb, 5, none⟩ (.slice (some ⟨g, 0, none⟩) (is.length + 1) cp))) g (is.length * 6) (.int .i64 sk) (.string snm) (.slice na nn nc) (.slice aa an ac) (.string sp) (.slice ka kn2 kc))
                refine hK.out _ _ hS4 (fun hS => ?_)
                clear hK K
                refine wpAnyH_done (by kernel_rfl) ?_ _
                have HF : Hid (BT B w ((sixW ((World.setCell (w4) ⟨pb, 5, none⟩ (.slice (some ⟨g, 0, none⟩) (is.length + 1) cp))) g (is.length * 6) (.int .i64 sk) (.string snm) (.slice na nn nc) (.slice aa an ac) (.string sp) (.slice ka kn2 kc))) ∧ PS B pb f1 f2 f3 { s' with imports := s'.imports ++ [Se.mk sk snm sns sas sp sks] } (sixW ((World.setCell (w4) ⟨pb, 5, none⟩ (.slice (some ⟨g, 0, none⟩) (is.length + 1) cp))) g (is.length * 6) (.int .i64 sk) (.string snm) (.slice na nn nc) (.slice aa an ac) (.string sp) (.slice ka kn2 kc)) ∧ (s'.imports ++ [Se.mk sk snm sns sas sp sks]).length ≤ 20) := ⟨HR.out.1.trans ((HBB.out.2.bt HBr.out).trans HB.out.2.2), ⟨is ++ [⟨Se.mk sk snm sns sas sp sks, .slice na nn nc, .slice aa an ac, .slice ka kn2 kc⟩], es, ev, _, bv, HB.out.2.1, by rw [List.map_append, H1E.out.1]; rfl, H1E.out.2⟩, by simp; omega⟩
                generalize (sixW ((World.setCell (w4) ⟨pb, 5, none⟩ (.slice (some ⟨g, 0, none⟩) (is.length + 1) cp))) g (is.length * 6) (.int .i64 sk) (.string snm) (.slice na nn nc) (.slice aa an ac) (.string sp) (.slice ka kn2 kc)) = Wf at HF ⊢
                clear HB HBB H4 HP4 hS
                go_wp2_with fail
                go_roundw
                case rel => exact ⟨j + 1, { s' with imports := s'.imports ++ [Se.mk sk snm sns sas sp sks] }, hlt, by go_num, HF.out.1, HF.out.2.1, HST2.out, HF.out.2.2⟩
                case measure => simp [intOf]; omega
            · go_simp
              refine (CA.out (W1) PX_1.out.2).mono ?_
              rintro e W2 ⟨hb2, v, rfl, nv, av, kv, rfl, g1, g2, g3⟩
              obtain ⟨na, nn, nc, rfl⟩ := SV.slice g1
              obtain ⟨aa, an, ac, rfl⟩ := SV.slice g2
              obtain ⟨ka, kn2, kc, rfl⟩ := SeL.slice g3
              have PX_2 : Hid (PSx B pb f1 f2 f3 s'.name s'.exports is es ev (.slice ia is.length ic) bv (W2) ∧ Below wr.heap.size wr (W2)) := ⟨PX_1.out.1.below hb2, PX_1.out.2.trans (hb2.mono PX_1.out.2.size)⟩
              have ZZ_2 : Hid ((World.heap (W2))[(Array.size (World.heap (w5.drew)))]? = some (.cells #[.int .i64 0, .string ⟨#[]⟩, .slice none 0 0, .slice none 0 0, .string ⟨#[]⟩, .slice none 0 0] 73 (0, 0))) := (hb2.block _ (Array.getElem?_eq_some_iff.1 ZZ_1.out).1).trans ZZ_1.out
              have IK_2 : Hid (IE.ok (Fre B pb ev (.slice ia is.length ic) bv W2) W2 ⟨Se.mk sk snm sns sas sp sks, .slice na nn nc, .slice aa an ac, .slice ka kn2 kc⟩) := IE.stay (ok := fun k => Array.size (World.heap (W1)) ≤ k ∧ k < W2.heap.size) (w := W2) (e := ⟨Se.mk sk snm sns sas sp sks, .slice na nn nc, .slice aa an ac, .slice ka kn2 kc⟩) ⟨g1, g2, g3⟩ (fun k hk => rfl) (fun k hk => PSx.fresh PX_1.out.1 hk.1 hk.2)
              have hS2 : W2.heap[wr.heap.size]? = some (.cells #[.int .i64 d.kind, .int .i64 d.n, .string d.name, .int .i64 d.stamp, .int .i64 d.lib, .slice a' kn cap'] 26 (0, 0)) := (hb2.block _ (Array.getElem?_eq_some_iff.1 hS).1).trans hS
              clear hb2 g1 g2 g3
              show K _ W2
              refine hK.out _ _ hS2 (fun hS => ?_)
              clear hK K
              refine wpAnyH_ready (rs := [4]) (by kernel_rfl) (by simp) (AllReadyH.cons (o := { dst := some 24, op := Op.load 28 (Operand.tmp 23), type := 28, pos := _, after := _, guard := none }) rfl (fun K hK => ?_) AllReadyH.nil)
              have zo : World.cell? (W2) ⟨pb, 5, none⟩ = some (.slice ia is.length ic) := (cellO PX_2.out.1.blk).trans rfl
              go_simp
              clear zo
              refine hK.out _ _ hS (fun hS => ?_)
              clear hK K
              refine wpAnyH_take (i := 7) (oi := { dst := some 27, op := Op.call { callee := Callee.builtin Builtin.len, args := #[Operand.tmp 24], argTypes := #[28] }, type := 3, pos := _, after := _, guard := none }) (v := .int .i64 is.length) rfl (by kernel_rfl) (by kernel_rfl) (by kernel_rfl) (fun _ _ _ h => h) (Or.inl ⟨by rfl, fun u hu => by go_simp⟩) hS ?_
              simp only [Act.put, List.setIfInBounds_toArray, List.set_cons_zero, List.set_cons_succ]
              refine wpAnyH_ready (rs := [9]) (by kernel_rfl) (by simp) (AllReadyH.cons (o := { dst := some 29, op := Op.call { callee := Callee.builtin Builtin.append, args := #[Operand.tmp 24, Operand.tmp 28], argTypes := #[28, 28] }, type := 28, pos := _, after := _, guard := none }) rfl (fun K hK => ?_) AllReadyH.nil)
              refine step_append_lies _ rfl (.tmp 24) (.tmp 28) 28 rfl B 73 i0 _ 6 112 Tryz.underlying28 hinf hz0 hz1 hz2 rfl (by decide) (.slice ia is.length ic) is.length (flatI is) rfl (by exact PX_2.out.1.io) ⟨(Array.size (World.heap (w5))), 0, none⟩ 1 1 zeroI rfl rfl ?_ ?_ (by decide) ?_ ?_ ?_ (Array.size (World.heap (W2))) rfl ?_
              · intro q u hq
                rw [addr_add]
                exact (cellO ZZ_2.out).trans (by simpa [zeroI] using hq)
              · intro u hu
                simp [zeroI] at hu
                rcases hu with rfl | rfl | rfl | rfl | rfl | rfl <;> rfl
              · have := HISL.out; unfold maxLen; omega
              · have := HISL.out; omega
              · exact PSx.hs PX_2.out.1
              intro g cp w4 hown hgrow hat hlt4
              have HB := hidd (imp_both (e := ⟨Se.mk sk snm sns sas sp sks, .slice na nn nc, .slice aa an ac, .slice ka kn2 kc⟩) PX_2.out.1 IK_2.out hown hgrow hat rfl)
              obtain ⟨g', cp', cur, hs, hbg, hgl, hcur, hcl, -⟩ := own_six hown (flatI_len is) rfl
              have hs1 : g = g' ∧ cp = cp' := by simpa using hs
              obtain ⟨rfl, rfl⟩ := hs1
              clear hs
              have hpb4 : w4.heap[pb]? = some (.cells #[f1, f2, f3, .string s'.name, ev, .slice ia is.length ic, bv] 57 (0, 0)) := (hgrow.block pb (Array.getElem?_eq_some_iff.1 PX_2.out.1.blk).1 (fun e => own_pb PX_2.out.1.io PX_2.out.1.blk (by decide) e.symm rfl)).trans PX_2.out.1.blk
              have hS4 : w4.heap[wr.heap.size]? = some (.cells #[.int .i64 d.kind, .int .i64 d.n, .string d.name, .int .i64 d.stamp, .int .i64 d.lib, .slice a' kn cap'] 26 (0, 0)) := (hgrow.block _ (Array.getElem?_eq_some_iff.1 hS).1 (fun e => own_box PX_2.out.1.io hS (by decide) e.symm)).trans hS
              have hgb : wr.heap.size ≠ g := fun e => own_box' hcur hS4 (by decide) e.symm
              have hpbb : wr.heap.size ≠ pb := fun e => own_box' hpb4 hS4 (by decide) e.symm
              have hgp : g ≠ pb := fun e => own_box' hcur hpb4 (by decide) e
              have H4 : Hid (w4.heap[g]? = some (.cells cur 73 (0, 0)) ∧ (is.length + 1) * 6 ≤ cur.size ∧ wr.heap.size ≠ g ∧ wr.heap.size ≠ pb ∧ g ≠ pb) := ⟨hcur, hcl, hgb, hpbb, hgp⟩
              have HP4 := hidd hpb4
              have HBB : Hid (True ∧ Below wr.heap.size wr (W2)) := ⟨trivial, PX_2.out.2⟩
              clear hown hgrow hat hlt4 hbg hgl hcur hcl hpb4 hgb hpbb hgp
              show K _ w4
              refine hK.out _ _ hS4 (fun hS => ?_)
              clear hK K
              refine wpAnyH_take (i := 10) (oi := { dst := some 30, op := Op.indexAddr 28 (Operand.tmp 29) (Operand.tmp 27), type := 0, pos := _, after := _, guard := none }) (v := .pointer (some ⟨g, is.length * 6, none⟩)) rfl (by kernel_rfl) (by kernel_rfl) (by kernel_rfl) (fun _ _ _ h => h) (Or.inl ⟨by rfl, fun u hu => by go_simp⟩) hS ?_
              simp only [Act.put, List.setIfInBounds_toArray, List.set_cons_zero, List.set_cons_succ]
              refine wpAnyH_take (i := 12) (oi := { dst := some 31, op := Op.nilCheck (Operand.tmp 20), type := 0, pos := _, after := _, guard := none }) (v := .pointer (some ⟨pb, 0, none⟩)) rfl (by kernel_rfl) (by kernel_rfl) (by kernel_rfl) (fun _ _ _ h => h) (Or.inl ⟨by rfl, fun u hu => by go_simp⟩) hS ?_
              simp only [Act.put, List.setIfInBounds_toArray, List.set_cons_zero, List.set_cons_succ]
              refine wpAnyH_take (i := 13) (oi := { dst := some 32, op := Op.fieldAddr 57 (Operand.tmp 31) 3, type := 0, pos := _, after := _, guard := none }) (v := .pointer (some ⟨pb, 3, none⟩)) rfl (by kernel_rfl) (by kernel_rfl) (by kernel_rfl) (fun _ _ _ h => h) (Or.inl ⟨by rfl, fun u hu => by go_simp⟩) hS ?_
              simp only [Act.put, List.setIfInBounds_toArray, List.set_cons_zero, List.set_cons_succ]
              refine wpAnyH_take (i := 14) (oi := { dst := some 33, op := Op.fieldAddr 30 (Operand.tmp 32) 2, type := 0, pos := _, after := _, guard := none }) (v := .pointer (some ⟨pb, 5, none⟩)) rfl (by kernel_rfl) (by kernel_rfl) (by kernel_rfl) (fun _ _ _ h => h) (Or.inl ⟨by rfl, fun u hu => by go_simp⟩) hS ?_
              simp only [Act.put, List.setIfInBounds_toArray, List.set_cons_zero, List.set_cons_succ]
              refine wpAnyH_ready (rs := [11, 15]) (by kernel_rfl) (by simp) (AllReadyH.cons (o := { dst := none, op := Op.store 73 (Operand.tmp 30) (Operand.tmp 26), type := 0, pos := _, after := _, guard := none }) rfl (fun K hK => ?_) (AllReadyH.cons (o := { dst := none, op := Op.store 28 (Operand.tmp 33) (Operand.tmp 29), type := 0, pos := _, after := _, guard := none }) rfl (fun K hK => ?_) AllReadyH.nil))
              · have hcu : (World.heap (w4))[g]? = some (.cells cur 73 (0, 0)) := H4.out.1
                have hcs := H4.out.2.1
                obtain ⟨x0, y0⟩ : ∃ x, World.cell? (w4) ⟨g, is.length * 6, none⟩ = some x := ⟨_, (cellO hcu).trans (Array.getElem?_eq_getElem (by omega))⟩
                have u0 : World.frozen? (w4) ⟨g, is.length * 6, none⟩ = false := looseO hcu
                obtain ⟨x1, y1⟩ : ∃ x, World.cell? (w4) ⟨g, is.length * 6 + 1, none⟩ = some x := ⟨_, (cellO hcu).trans (Array.getElem?_eq_getElem (by omega))⟩
                have u1 : World.frozen? (w4) ⟨g, is.length * 6 + 1, none⟩ = false := looseO hcu
                obtain ⟨x2, y2⟩ : ∃ x, World.cell? (w4) ⟨g, is.length * 6 + 2, none⟩ = some x := ⟨_, (cellO hcu).trans (Array.getElem?_eq_getElem (by omega))⟩
                have u2 : World.frozen? (w4) ⟨g, is.length * 6 + 2, none⟩ = false := looseO hcu
                obtain ⟨x3, y3⟩ : ∃ x, World.cell? (w4) ⟨g, is.length * 6 + 3, none⟩ = some x := ⟨_, (cellO hcu).trans (Array.getElem?_eq_getElem (by omega))⟩
                have u3 : World.frozen? (w4) ⟨g, is.length * 6 + 3, none⟩ = false := looseO hcu
                obtain ⟨x4, y4⟩ : ∃ x, World.cell? (w4) ⟨g, is.length * 6 + 4, none⟩ = some x := ⟨_, (cellO hcu).trans (Array.getElem?_eq_getElem (by omega))⟩
                have u4 : World.frozen? (w4) ⟨g, is.length * 6 + 4, none⟩ = false := looseO hcu
                obtain ⟨x5, y5⟩ : ∃ x, World.cell? (w4) ⟨g, is.length * 6 + 5, none⟩ = some x := ⟨_, (cellO hcu).trans (Array.getElem?_eq_getElem (by omega))⟩
                have u5 : World.frozen? (w4) ⟨g, is.length * 6 + 5, none⟩ = false := looseO hcu
                clear hcu hcs
                go_simp
                clear y0 u0 y1 u1 y2 u2 y3 u3 y4 u4 y5 u5
                have hS3 : (World.heap (sixW (w4) g (is.length * 6) (.int .i64 sk) (.string snm) (.slice na nn nc) (.slice aa an ac) (.string sp) (.slice ka kn2 kc)))[wr.heap.size]? = some (.cells #[.int .i64 d.kind, .int .i64 d.n, .string d.name, .int .i64 d.stamp, .int .i64 d.lib, .slice a' kn cap'] 26 (0, 0)) := (sixW_far _ g _ _ H4.out.2.2.1 _ _ _ _ _ _).trans hS
                show K _ (sixW (w4) g (is.length * 6) (.int .i64 sk) (.string snm) (.slice na nn nc) (.slice aa an ac) (.string sp) (.slice ka kn2 kc))
                refine hK.out _ _ hS3 (fun hS => ?_)
                clear hK K
                refine wpAnyH_ready (rs := [15]) (by kernel_rfl) (by simp) (AllReadyH.cons (o := { dst := none, op := Op.store 28 (Operand.tmp 33) (Operand.tmp 29), type := 0, pos := _, after := _, guard := none }) rfl (fun K hK => ?_) AllReadyH.nil)
                have hpu : (World.heap ((sixW (w4) g (is.length * 6) (.int .i64 sk) (.string snm) (.slice na nn nc) (.slice aa an ac) (.string sp) (.slice ka kn2 kc))))[pb]? = _ := ((sixW_far _ g _ pb (fun e => H4.out.2.2.2.2 e.symm) _ _ _ _ _ _).trans HP4.out)
                have y5 : World.cell? ((sixW (w4) g (is.length * 6) (.int .i64 sk) (.string snm) (.slice na nn nc) (.slice aa an ac) (.string sp) (.slice ka kn2 kc))) ⟨pb, 5, none⟩ = some (.slice ia is.length ic) := (cellO hpu).trans rfl
                have u5 : World.frozen? ((sixW (w4) g (is.length * 6) (.int .i64 sk) (.string snm) (.slice na nn nc) (.slice aa an ac) (.string sp) (.slice ka kn2 kc))) ⟨pb, 5, none⟩ = false := looseO hpu
                clear hpu
                go_simp
                clear y5 u5
                have hS4 : (World.heap (World.setCell ((sixW (w4) g (is.length * 6) (.int .i64 sk) (.string snm) (.slice na nn nc) (.slice aa an ac) (.string sp) (.slice ka kn2 kc))) ⟨pb, 5, none⟩ (.slice (some ⟨g, 0, none⟩) (is.length + 1) cp)))[wr.heap.size]? = some (.cells #[.int .i64 d.kind, .int .i64 d.n, .string d.name, .int .i64 d.stamp, .int .i64 d.lib, .slice a' kn cap'] 26 (0, 0)) := (Below.heap_setCell _ _ _ _ (show wr.heap.size ≠ pb from H4.out.2.2.2.1)).trans hS
                show K _ (World.setCell ((sixW (w4) g (is.length * 6) (.int .i64 sk) (.string snm) (.slice na nn nc) (.slice aa an ac) (.string sp) (.slice ka kn2 kc))) ⟨pb, 5, none⟩ (.slice (some ⟨g, 0, none⟩) (is.length + 1) cp))
                refine hK.out _ _ hS4 (fun hS => ?_)
                clear hK K
                refine wpAnyH_done (by kernel_rfl) ?_ _
                have HF : Hid (BT B w ((World.setCell ((sixW (w4) g (is.length * 6) (.int .i64 sk) (.string snm) (.slice na nn nc) (.slice aa an ac) (.string sp) (.slice ka kn2 kc))) ⟨pb, 5, none⟩ (.slice (some ⟨g, 0, none⟩) (is.length + 1) cp))) ∧ PS B pb f1 f2 f3 { s' with imports := s'.imports ++ [Se.mk sk snm sns sas sp sks] } (World.setCell ((sixW (w4) g (is.length * 6) (.int .i64 sk) (.string snm) (.slice na nn nc) (.slice aa an ac) (.string sp) (.slice ka kn2 kc))) ⟨pb, 5, none⟩ (.slice (some ⟨g, 0, none⟩) (is.length + 1) cp)) ∧ (s'.imports ++ [Se.mk sk snm sns sas sp sks]).length ≤ 20) := ⟨HR.out.1.trans ((HBB.out.2.bt HBr.out).trans HB.out.1.2), ⟨is ++ [⟨Se.mk sk snm sns sas sp sks, .slice na nn nc, .slice aa an ac, .slice ka kn2 kc⟩], es, ev, _, bv, HB.out.1.1, by rw [List.map_append, H1E.out.1]; rfl, H1E.out.2⟩, by simp; omega⟩
                generalize (World.setCell ((sixW (w4) g (is.length * 6) (.int .i64 sk) (.string snm) (.slice na nn nc) (.slice aa an ac) (.string sp) (.slice ka kn2 kc))) ⟨pb, 5, none⟩ (.slice (some ⟨g, 0, none⟩) (is.length + 1) cp)) = Wf at HF ⊢
                clear HB HBB H4 HP4 hS
                go_wp2_with fail
                go_roundw
                case rel => exact ⟨j + 1, { s' with imports := s'.imports ++ [Se.mk sk snm sns sas sp sks] }, hlt, by go_num, HF.out.1, HF.out.2.1, HST2.out, HF.out.2.2⟩
                case measure => simp [intOf]; omega
              · have hpu : (World.heap (w4))[pb]? = _ := HP4.out
                have y5 : World.cell? (w4) ⟨pb, 5, none⟩ = some (.slice ia is.length ic) := (cellO hpu).trans rfl
                have u5 : World.frozen? (w4) ⟨pb, 5, none⟩ = false := looseO hpu
                clear hpu
                go_simp
                clear y5 u5
                have hS3 : (World.heap (World.setCell (w4) ⟨pb, 5, none⟩ (.slice (some ⟨g, 0, none⟩) (is.length + 1) cp)))[wr.heap.size]? = some (.cells #[.int .i64 d.kind, .int .i64 d.n, .string d.name, .int .i64 d.stamp, .int .i64 d.lib, .slice a' kn cap'] 26 (0, 0)) := (Below.heap_setCell _ _ _ _ (show wr.heap.size ≠ pb from H4.out.2.2.2.1)).trans hS
                show K _ (World.setCell (w4) ⟨pb, 5, none⟩ (.slice (some ⟨g, 0, none⟩) (is.length + 1) cp))
                refine hK.out _ _ hS3 (fun hS => ?_)
                clear hK K
                refine wpAnyH_ready (rs := [11]) (by kernel_rfl) (by simp) (AllReadyH.cons (o := { dst := none, op := Op.store 73 (Operand.tmp 30) (Operand.tmp 26), type := 0, pos := _, after := _, guard := none }) rfl (fun K hK => ?_) AllReadyH.nil)
                have hcu : (World.heap ((World.setCell (w4) ⟨pb, 5, none⟩ (.slice (some ⟨g, 0, none⟩) (is.length + 1) cp))))[g]? = some (.cells cur 73 (0, 0)) := ((Below.heap_setCell _ _ _ _ (show g ≠ pb from H4.out.2.2.2.2)).trans H4.out.1)
                have hcs := H4.out.2.1
                obtain ⟨x0, y0⟩ : ∃ x, World.cell? ((World.setCell (w4) ⟨pb, 5, none⟩ (.slice (some ⟨g, 0, none⟩) (is.length + 1) cp))) ⟨g, is.length * 6, none⟩ = some x := ⟨_, (cellO hcu).trans (Array.getElem?_eq_getElem (by omega))⟩
                have u0 : World.frozen? ((World.setCell (w4) ⟨pb, 5, none⟩ (.slice (some ⟨g, 0, none⟩) (is.length + 1) cp))) ⟨g, is.length * 6, none⟩ = false := looseO hcu
                obtain ⟨x1, y1⟩ : ∃ x, World.cell? ((World.setCell (w4) ⟨pb, 5, none⟩ (.slice (some ⟨g, 0, none⟩) (is.length + 1) cp))) ⟨g, is.length * 6 + 1, none⟩ = some x := ⟨_, (cellO hcu).trans (Array.getElem?_eq_getElem (by omega))⟩
                have u1 : World.frozen? ((World.setCell (w4) ⟨pb, 5, none⟩ (.slice (some ⟨g, 0, none⟩) (is.length + 1) cp))) ⟨g, is.length * 6 + 1, none⟩ = false := looseO hcu
                obtain ⟨x2, y2⟩ : ∃ x, World.cell? ((World.setCell (w4) ⟨pb, 5, none⟩ (.slice (some ⟨g, 0, none⟩) (is.length + 1) cp))) ⟨g, is.length * 6 + 2, none⟩ = some x := ⟨_, (cellO hcu).trans (Array.getElem?_eq_getElem (by omega))⟩
                have u2 : World.frozen? ((World.setCell (w4) ⟨pb, 5, none⟩ (.slice (some ⟨g, 0, none⟩) (is.length + 1) cp))) ⟨g, is.length * 6 + 2, none⟩ = false := looseO hcu
                obtain ⟨x3, y3⟩ : ∃ x, World.cell? ((World.setCell (w4) ⟨pb, 5, none⟩ (.slice (some ⟨g, 0, none⟩) (is.length + 1) cp))) ⟨g, is.length * 6 + 3, none⟩ = some x := ⟨_, (cellO hcu).trans (Array.getElem?_eq_getElem (by omega))⟩
                have u3 : World.frozen? ((World.setCell (w4) ⟨pb, 5, none⟩ (.slice (some ⟨g, 0, none⟩) (is.length + 1) cp))) ⟨g, is.length * 6 + 3, none⟩ = false := looseO hcu
                obtain ⟨x4, y4⟩ : ∃ x, World.cell? ((World.setCell (w4) ⟨pb, 5, none⟩ (.slice (some ⟨g, 0, none⟩) (is.length + 1) cp))) ⟨g, is.length * 6 + 4, none⟩ = some x := ⟨_, (cellO hcu).trans (Array.getElem?_eq_getElem (by omega))⟩
                have u4 : World.frozen? ((World.setCell (w4) ⟨pb, 5, none⟩ (.slice (some ⟨g, 0, none⟩) (is.length + 1) cp))) ⟨g, is.length * 6 + 4, none⟩ = false := looseO hcu
                obtain ⟨x5, y5⟩ : ∃ x, World.cell? ((World.setCell (w4) ⟨pb, 5, none⟩ (.slice (some ⟨g, 0, none⟩) (is.length + 1) cp))) ⟨g, is.length * 6 + 5, none⟩ = some x := ⟨_, (cellO hcu).trans (Array.getElem?_eq_getElem (by omega))⟩
                have u5 : World.frozen? ((World.setCell (w4) ⟨pb, 5, none⟩ (.slice (some ⟨g, 0, none⟩) (is.length + 1) cp))) ⟨g, is.length * 6 + 5, none⟩ = false := looseO hcu
                clear hcu hcs
                go_simp
                clear y0 u0 y1 u1 y2 u2 y3 u3 y4 u4 y5 u5
                have hS4 : (World.heap (sixW ((World.setCell (w4) ⟨pb, 5, none⟩ (.slice (some ⟨g, 0, none⟩) (is.length + 1) cp))) g (is.length * 6) (.int .i64 sk) (.string snm) (.slice na nn nc) (.slice aa an ac) (.string sp) (.slice ka kn2 kc)))[wr.heap.size]? = some (.cells #[.int .i64 d.kind, .int .i64 d.n, .string d.name, .int .i64 d.stamp, .int .i64 d.lib, .slice a' kn cap'] 26 (0, 0)) := (sixW_far _ g _ _ H4.out.2.2.1 _ _ _ _ _ _).trans hS
                show K _ (sixW ((World.setCell (w4) ⟨pb, 5, none⟩ (.slice (some ⟨g, 0, none⟩) (is.length + 1) cp))) g (is.length * 6) (.int .i64 sk) (.string snm) (.slice na nn nc) (.slice aa an ac) (.string sp) (.slice ka kn2 kc))
                refine hK.out _ _ hS4 (fun hS => ?_)
                clear hK K
                refine wpAnyH_done (by kernel_rfl) ?_ _
                have HF : Hid (BT B w ((sixW ((World.setCell (w4) ⟨pb, 5, none⟩ (.slice (some ⟨g, 0, none⟩) (is.length + 1) cp))) g (is.length * 6) (.int .i64 sk) (.string snm) (.slice na nn nc) (.slice aa an ac) (.string sp) (.slice ka kn2 kc))) ∧ PS B pb f1 f2 f3 { s' with imports := s'.imports ++ [Se.mk sk snm sns sas sp sks] } (sixW ((World.setCell (w4) ⟨pb, 5, none⟩ (.slice (some ⟨g, 0, none⟩) (is.length + 1) cp))) g (is.length * 6) (.int .i64 sk) (.string snm) (.slice na nn nc) (.slice aa an ac) (.string sp) (.slice ka kn2 kc)) ∧ (s'.imports ++ [Se.mk sk snm sns sas sp sks]).length ≤ 20) := ⟨HR.out.1.trans ((HBB.out.2.bt HBr.out).trans HB.out.2.2), ⟨is ++ [⟨Se.mk sk snm sns sas sp sks, .slice na nn nc, .slice aa an ac, .slice ka kn2 kc⟩], es, ev, _, bv, HB.out.2.1, by rw [List.map_append, H1E.out.1]; rfl, H1E.out.2⟩, by simp; omega⟩
                generalize (sixW ((World.setCell (w4) ⟨pb, 5, none⟩ (.slice (some ⟨g, 0, none⟩) (is.length + 1) cp))) g (is.length * 6) (.int .i64 sk) (.string snm) (.slice na nn nc) (.slice aa an ac) (.string sp) (.slice ka kn2 kc)) = Wf at HF ⊢
                clear HB HBB H4 HP4 hS
                go_wp2_with fail
                go_roundw
                case rel => exact ⟨j + 1, { s' with imports := s'.imports ++ [Se.mk sk snm sns sas sp sks] }, hlt, by go_num, HF.out.1, HF.out.2.1, HST2.out, HF.out.2.2⟩
                case measure => simp [intOf]; omega
      · rw [if_neg hlen] at hst
        have HST : Hid (importsF ds s = .no 5) := hst
        have k1 : decide ((is.length : Int) < 20) = false := by simp; omega
        have k2 : ¬ (is.length : Int) < 20 := by omega
        clear hst CA0 hlen hil
        go_wp2_with fail
        refine (HX0.out _ _).mono ?_
        rintro e w5 ⟨rfl, rfl⟩
        clear hw1
        go_wp2_with fail
        refine ⟨rfl, HBX.out, ?_⟩
        rw [HST.out]
    · obtain rfl : j = n := by omega
      have HE : Hid (importsF ds s = .ok s') := by
        show _ = _
        rw [HR.out.2.2.1, List.drop_eq_nil_of_le (by rw [← HN.out]; exact Nat.le_refl _), importsF]
      go_wp2_with fail
      go_end0
      refine ⟨HR.out.1, ?_⟩
      rw [HE.out]
      exact ⟨rfl, HR.out.2.1⟩
end Go.Proofs.YtonafbennobgdaaGreatDoor
