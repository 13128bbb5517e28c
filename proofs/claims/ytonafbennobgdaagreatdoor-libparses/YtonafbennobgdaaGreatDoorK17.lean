/- Chapter 3: what is brought in, one by one. -/
import Derived.Test.YtonafbennobgdaaGreatDoorK15
import Derived.Test.YtonafbennobgdaaGreatDoorK16
import Derived.OrdersHeld
import Derived.Test.YtonafbennobgdaaGreatDoorK16
namespace Go.Proofs.YtonafbennobgdaaGreatDoor
set_option linter.unusedVariables false
set_option linter.unusedSimpArgs false
open Go.RowKit
theorem own_box {w : World} {B t s n b : Nat} {t' : TypeId} {v : Value} {xs : List Value} {cs : Array Value} (h : w.ownsRow B t s v n xs) (hp : w.heap[b]? = some (.cells cs t' (0, 0))) (ht : t ≠ t') (hk : v.ownBlock = some b) : False := by
 obtain ⟨_, _, cs', h2⟩ := own_typeL h b hk
 rw [hp] at h2
 simp at h2
 exact ht h2.2.symm
theorem own_box' {w : World} {b c t t' : Nat} {cs cs' : Array Value} (h : w.heap[b]? = some (.cells cs t (0, 0))) (h' : w.heap[c]? = some (.cells cs' t' (0, 0))) (ht : t ≠ t') (e : b = c) : False := by
 subst e
 rw [h] at h'
 simp at h'
 exact ht h'.2
theorem SV.slice {ok : Nat → Prop} {l : List ByteArray} {v : Value} {w : World} (h : SV ok l v w) : ∃ a n c, v = .slice a n c := by
 obtain ⟨a, c, h1, _⟩ := h
 exact ⟨a, _, c, h1⟩
theorem SeL.slice {ok : Nat → Prop} {w : World} {ks : List Se} {v : Value} (h : SeL ok w ks v) : ∃ a n c, v = .slice a n c := by
 cases h with
 | none a c => exact ⟨a, 0, c, rfl⟩
 | some _ b o c => exact ⟨_, _, c, rfl⟩
theorem infoSetL : (Tryz.prog.info? 73).map (fun i => (i.zero, i.size, i.bytes)) = some (some (.agg #[.int .i64 0, .string ⟨#[]⟩, .slice none 0 0, .slice none 0 0, .string ⟨#[]⟩, .slice none 0 0]), 6, 112) := by kernel_rfl
theorem importsF_at {ds : List Dat} {j : Nat} {d : Dat} {s s' : LibS} (h : ds[j]? = some d) (hl : importsF ds s = importsF (ds.drop j) s') : importsF ds s =
 if s'.imports.length < 20 then (setF 12 d).bind fun x => importsF (ds.drop (j + 1)) { s' with imports := s'.imports ++ [x] } else .no 5 := by
 obtain ⟨hi, e⟩ := List.getElem?_eq_some_iff.1 h
 rw [hl, List.drop_eq_getElem_cons hi, e, importsF]
theorem hS_grown {B pb g cp b : Nat} {f1 f2 f3 : Value} {nm : ByteArray} {ex : List (ByteArray × ByteArray)} {is : List IE} {es : List (Dat × Option Addr × Nat)} {ev iv bv : Value} {w1 w2 : World} {cs : Array Value} (h : PSx B pb f1 f2 f3 nm ex is es ev iv bv w1)
 (hown : w2.ownsRow B 73 6 (.slice (some ⟨g, 0, none⟩) (is.length + 1) cp) (is.length + 1) (flatI is ++ zeroI)) (hgrow : w1.grownBy w2 iv.ownBlock) (hS : w1.heap[b]? = some (.cells cs 26 (0, 0))) :
 (∃ cur : Array Value, w2.heap[g]? = some (.cells cur 73 (0, 0)) ∧ (is.length + 1) * 6 ≤ cur.size) ∧ (b ≠ g ∧ b ≠ pb ∧ g ≠ pb) ∧ w2.heap[b]? = some (.cells cs 26 (0, 0)) ∧ w2.heap[pb]? = some (.cells #[f1, f2, f3, .string nm, ev, iv, bv] 57 (0, 0)) := by
 obtain ⟨g', cp', cur, hs, hbg, hgl, hcur, hcl, -⟩ := own_six hown (flatI_len is) rfl
 have hs1 : g = g' ∧ cp = cp' := by simpa using hs
 obtain ⟨rfl, rfl⟩ := hs1
 have hpb4 := (hgrow.block pb (Array.getElem?_eq_some_iff.1 h.blk).1 (fun e => own_pb h.io h.blk (by decide) e.symm rfl)).trans h.blk
 have hS4 := (hgrow.block _ (Array.getElem?_eq_some_iff.1 hS).1 (fun e => own_box h.io hS (by decide) e.symm)).trans hS
 exact ⟨⟨cur, hcur, hcl⟩, ⟨fun e => own_box' hcur hS4 (by decide) e.symm, fun e => own_box' hpb4 hS4 (by decide) e.symm, fun e => own_box' hcur hpb4 (by decide) e⟩, hS4, hpb4⟩
theorem imp_endB {B pb : Nat} {f1 f2 f3 : Value} {s' : LibS} {is : List IE} {es : List (Dat × Option Addr × Nat)} {ev iv bv : Value} {w wr w1 W : World} {e : IE} (h0 : BT B w wr) (hB : B ≤ wr.heap.size) (h1 : is.map IE.s = s'.imports ∧ es.map (·.1) = s'.body) (hb : Below wr.heap.size wr w1) (hl : s'.imports.length < 20)
 (h : PSx B pb f1 f2 f3 s'.name s'.exports (is ++ [e]) es ev iv bv W ∧ BT B w1 W) : BT B w W ∧ PS B pb f1 f2 f3 { s' with imports := s'.imports ++ [e.s] } W ∧ (s'.imports ++ [e.s]).length ≤ 20 :=
 ⟨h0.trans ((hb.bt hB).trans h.2), ⟨is ++ [e], es, ev, iv, bv, h.1, by rw [List.map_append, h1.1]; rfl, h1.2⟩, by simp; omega⟩
theorem six_in {w : World} {g : Nat} {cs : Array Value} {t : TypeId} (h : w.heap[g]? = some (.cells cs t (0, 0))) (q : Nat) (hq : q + 6 ≤ cs.size) : ∃ x0 x1 x2 x3 x4 x5, w.cell? ⟨g, q, none⟩ = some x0 ∧ w.cell? ⟨g, q + 1, none⟩ = some x1 ∧ w.cell? ⟨g, q + 2, none⟩ = some x2 ∧ w.cell? ⟨g, q + 3, none⟩ = some x3 ∧ w.cell? ⟨g, q + 4, none⟩ = some x4 ∧ w.cell? ⟨g, q + 5, none⟩ = some x5 ∧
 w.frozen? ⟨g, q, none⟩ = false ∧ w.frozen? ⟨g, q + 1, none⟩ = false ∧ w.frozen? ⟨g, q + 2, none⟩ = false ∧ w.frozen? ⟨g, q + 3, none⟩ = false ∧ w.frozen? ⟨g, q + 4, none⟩ = false ∧ w.frozen? ⟨g, q + 5, none⟩ = false :=
 have c : ∀ i, i < cs.size → w.cell? ⟨g, i, none⟩ = some cs[i]! := fun i hi => (cellO h).trans (by simp [hi])
 ⟨_, _, _, _, _, _, c _ (by omega), c _ (by omega), c _ (by omega), c _ (by omega), c _ (by omega), c _ (by omega), looseO h, looseO h, looseO h, looseO h, looseO h, looseO h⟩
theorem cutI {P : Program} {md : Region.Mode} {ops : Array Oper} {Q : Exit → Act → World → Prop} {S : World → Prop} {fuel : Nat} {listed : Array Bool} {a : Act} {w : World} {G : Nat → Nat → World → Nat → Option Addr → Nat → Nat → Option Addr → Nat → Nat → Option Addr → Nat → Nat → Prop} (C : Nat → Nat → World → Nat → Option Addr → Nat → Nat → Option Addr → Nat → Nat → Option Addr → Nat → Nat → Prop)
 (h : Hid (∀ g cp w nb x0 x1 x2 x3 x4 x5 x6 x7 x8, C g cp w nb x0 x1 x2 x3 x4 x5 x6 x7 x8 → G g cp w nb x0 x1 x2 x3 x4 x5 x6 x7 x8) → wpAnyH P md ops Q S fuel listed a w) (t : ∀ g cp w nb x0 x1 x2 x3 x4 x5 x6 x7 x8, C g cp w nb x0 x1 x2 x3 x4 x5 x6 x7 x8 → G g cp w nb x0 x1 x2 x3 x4 x5 x6 x7 x8) : wpAnyH P md ops Q S fuel listed a w := h (hidd t)
set_option maxRecDepth 100000 in
set_option maxHeartbeats 12800000 in
theorem imports_any (J : JoinOk) (A B pb f : Nat) (f1 f2 f3 : Value) (s : LibS) (ds : List Dat) (a : Option Addr) (cap : Nat) (w : World) (hA : A ≤ B) (hA0 : 0 < A) (hp : PS B pb f1 f2 f3 s w) (hd : Dc (fun k => k < A) w f a ds) (hn : ds.length ≤ 2000) (hc : ds.length ≤ cap) (ho : okL ds) (he : s.imports.length ≤ 20) (htw : TabW w) :
 Calls Tryz.prog 108 #[.pointer (some ⟨pb, 0, none⟩), .slice a ds.length cap] w (ToldP B pb f1 f2 f3 (importsF ds s) w) := by
 have HD : Hid (∀ W j d, Below B w W → ds[j]? = some d → ∃ b o a' cap' g, a = some ⟨b, o, none⟩ ∧ f = g + 1 ∧ DAt (fun k => k < A) W b (o + j * 6) d a' cap' ∧ Dc (fun k => k < A) W g a' d.kids) := fun W j d hb hj => by
  obtain ⟨g, b, o, a', cap', h0, h1, h2, h3⟩ := hd.at hj
  exact ⟨b, o, a', cap', g, h1, h0, h2.below (hb.mono hA), h3.below (hb.mono hA)⟩
 have HO : Hid (∀ d ∈ ds, okD d) := okL_mem ho
 have HL : Hid (∀ j, j < ds.length → ∃ d, ds[j]? = some d) := fun j hj => ⟨_, List.getElem?_eq_getElem hj⟩
 obtain ⟨i0, hinf, hz0, hz1, hz2⟩ := info_partsL infoSetL
 obtain ⟨n, hn'⟩ : ∃ n, n = ds.length := ⟨_, rfl⟩
 have HN := hidd hn'
 rw [← hn'] at hn hc HL ⊢
 have HS : Hid (s.imports.length ≤ 20) := he
 have HY := hidd must_yes
 have HX0 := hidd must_no
 have HP := hidd hp
 have HA : Hid (A ≤ B ∧ 0 < A) := ⟨hA, hA0⟩
 have HT := hidd htw
 have HJ := hidd J
 clear hp hd ho he hn' hA hA0 htw J
 go_enter Tryz.func108, Tryz.ntmps108
 go_wp2_with fail
 go_loopw [5, 8] (fun _ ix wr => ∃ (j : Nat) (s' : LibS), j ≤ n ∧ ix = .int .i64 j ∧ Hid (BT B w wr ∧ PS B pb f1 f2 f3 s' wr ∧ importsF ds s = importsF (ds.drop j) s' ∧ s'.imports.length ≤ 20)) (fun _ ix _ => n - (intOf ix).toNat)
 case atStart => exact ⟨0, s, Nat.zero_le _, rfl, BT.refl _ _, HP.out, by rw [List.drop_zero], HS.out⟩
 obtain ⟨j, s', hj, rfl, HR⟩ := hrel
 by_cases hlt : j < n
 rotate_left
 ·obtain rfl : j = n := by omega
  have HE : Hid (importsF ds s = .ok s') := by
   show _ = _
   rw [HR.out.2.2.1, List.drop_eq_nil_of_le (by rw [← HN.out]; exact Nat.le_refl _), importsF]
  go_wp2_with fail
  go_end0
  refine ⟨HR.out.1, ?_⟩
  rw [HE.out]
  exact ⟨rfl, HR.out.2.1⟩
 obtain ⟨d, hdj⟩ := HL.out j hlt
 obtain ⟨b, o, a', cap', g0, rfl, hf0, hA, hK⟩ := HD.out wr j d HR.out.1.toBelow hdj
 obtain ⟨_, c0, c1, c2, c3, c4, c5, hnm, hlk⟩ := hA
 have i1 : (0 : Int) ≤ (j : Int) := by omega
 have i2 : (j : Int) < (n : Int) := by omega
 have hBr : B ≤ wr.heap.size := PS.hs HR.out.2.1
 have HBr := hidd hBr
 have CA0 : ∀ W, Below wr.heap.size wr W → Calls Tryz.prog 130 #[dv d a' cap', .int .i64 1] W (ToldE (setF 12 d) (SeT W) W) := fun W hb => set_any HJ.out 12 (Nat.le_refl _) A g0 d a' cap' W (Nat.le_trans HA.out.1 (Nat.le_trans hBr hb.size)) HA.out.2 (hK.below (hb.mono (Nat.le_trans HA.out.1 hBr))) hlk (HO.out d (List.mem_of_getElem? hdj)) ((HT.out.below HR.out.1.toBelow (Nat.lt_of_lt_of_le HA.out.2 HA.out.1)).below hb (Nat.lt_of_lt_of_le (Nat.lt_of_lt_of_le HA.out.2 HA.out.1) hBr))
 have hst := importsF_at hdj HR.out.2.2.1
 unfold dv at CA0
 clear hK hf0 hdj hnm hlk
 generalize d.kids.length = kn at *
 obtain ⟨is, es, ev, iv, bv, h1, h2, h3⟩ := HR.out.2.1
 obtain ⟨ia, ic, rfl, hec⟩ := own_sliceL h1.io
 have hil : is.length = s'.imports.length := by rw [← h2]; simp
 have hbx : Below wr.heap.size wr (wr.alloc (.cells #[.int .i64 d.kind, .int .i64 d.n, .string d.name, .int .i64 d.stamp, .int .i64 d.lib, .slice a' kn cap'] 26)) := (Below.refl _ _).alloc (Nat.le_refl _) _
 have h1' := h1.below hbx
 obtain ⟨W1, hW1⟩ : ∃ W1, W1 = wr.alloc (.cells #[.int .i64 d.kind, .int .i64 d.n, .string d.name, .int .i64 d.stamp, .int .i64 d.lib, .slice a' kn cap'] 26) := ⟨_, rfl⟩
 have hS1 : W1.heap[wr.heap.size]? = some (.cells #[.int .i64 d.kind, .int .i64 d.n, .string d.name, .int .i64 d.stamp, .int .i64 d.lib, .slice a' kn cap'] 26 (0, 0)) := by rw [hW1]; exact World.alloc_heap_new wr _
 rw [← hW1] at hbx h1'
 have HS1 := hidd hS1
 have e5 : W1.cell? ⟨pb, 5, none⟩ = some (.slice ia is.length ic) := (cellO h1'.blk).trans rfl
 have y0 : W1.cell? ⟨wr.heap.size, 0, none⟩ = some (.int .i64 d.kind) := (cellO hS1).trans rfl
 have y1 : W1.cell? ⟨wr.heap.size, 1, none⟩ = some (.int .i64 d.n) := (cellO hS1).trans rfl
 have y2 : W1.cell? ⟨wr.heap.size, 2, none⟩ = some (.string d.name) := (cellO hS1).trans rfl
 have y3 : W1.cell? ⟨wr.heap.size, 3, none⟩ = some (.int .i64 d.stamp) := (cellO hS1).trans rfl
 have y4 : W1.cell? ⟨wr.heap.size, 4, none⟩ = some (.int .i64 d.lib) := (cellO hS1).trans rfl
 have y5 : W1.cell? ⟨wr.heap.size, 5, none⟩ = some (.slice a' kn cap') := (cellO hS1).trans rfl
 have hw1 := hW1.symm
 have PX_0 : Hid (PSx B pb f1 f2 f3 s'.name s'.exports is es ev (.slice ia is.length ic) bv W1.drew ∧ Below wr.heap.size wr W1.drew) := ⟨h1.below hbx.drew, hbx.drew⟩
 have H1E : Hid (is.map IE.s = s'.imports ∧ es.map (·.1) = s'.body) := ⟨h2, h3⟩
 have HISL : Hid (is.length ≤ 20) := by show _ ≤ _; have := HR.out.2.2.2; omega
 have hisl : is.length ≤ 20 := HISL.out
 have HBX : Hid (BT B w W1) := HR.out.1.trans (hbx.bt hBr)
 clear h1 h2 h3 hec h1' hbx hS1 hW1
 by_cases hlen : s'.imports.length < 20
 rotate_left
 ·rw [if_neg hlen] at hst
  have HST : Hid (importsF ds s = .no 5) := hst
  have k1 : decide ((is.length : Int) < 20) = false := by simp; omega
  have k2 : ¬ (is.length : Int) < 20 := by omega
  clear hst CA0 hlen hil
  go_wp2_with fail
  refine (HX0.out _ _).mono ?_
  rintro e w5 ⟨rfl, rfl⟩
  clear hw1
  go_wp2_with fail
  refine ⟨rfl, HBX.out, ?_⟩
  rw [HST.out]
 rw [if_pos hlen] at hst
 have k1 : decide ((is.length : Int) < 20) = true := by simp; omega
 have k2 : (is.length : Int) < 20 := by omega
 cases hE : setF 12 d with
 | no x =>
  rw [hE] at CA0 hst
  have CA : Hid (∀ W, Below wr.heap.size wr W → Calls Tryz.prog 130 #[.agg #[.int .i64 d.kind, .int .i64 d.n, .string d.name, .int .i64 d.stamp, .int .i64 d.lib, .slice a' kn cap'], .int .i64 1] W fun e w' => Below W.heap.size W w' ∧ e = .panicked (thrownL x)) := CA0
  have HST : Hid (importsF ds s = .no x) := hst
  clear CA0 hst hE hlen hil
  go_wp2_with fail
  refine (HY.out _ _).mono ?_
  rintro e w5 ⟨rfl, rfl⟩
  clear hw1
  go_upto_region 4 with fail
  clear e5 c0 c1 c2 c3 c4 c5 y0 y1 y2 y3 y4 y5
  refine wp_region_held_drew (S := fun u => u.heap[wr.heap.size]? = some (.cells #[.int .i64 d.kind, .int .i64 d.n, .string d.name, .int .i64 d.stamp, .int .i64 d.lib, .slice a' kn cap'] 26 (0, 0))) (by kernel_rfl) (HS1.out) (fun hS => ?_)
  refine tko 0 { dst := some 20, op := Op.move (Operand.tmp 0), type := 84, pos := _, after := _, guard := none } (.pointer (some ⟨pb, 0, none⟩)) rfl (Or.inl ⟨by rfl, fun u hu => by go_simp⟩) hS ?_
  simp only [Act.put, aP]
  refine tko 1 { dst := some 21, op := Op.nilCheck (Operand.tmp 20), type := 0, pos := _, after := _, guard := none } (.pointer (some ⟨pb, 0, none⟩)) rfl (Or.inl ⟨by rfl, fun u hu => by go_simp⟩) hS ?_
  simp only [Act.put, aP]
  refine tko 2 { dst := some 22, op := Op.fieldAddr 57 (Operand.tmp 21) 3, type := 0, pos := _, after := _, guard := none } (.pointer (some ⟨pb, 3, none⟩)) rfl (Or.inl ⟨by rfl, fun u hu => by go_simp⟩) hS ?_
  simp only [Act.put, aP]
  refine tko 3 { dst := some 23, op := Op.fieldAddr 30 (Operand.tmp 22) 2, type := 0, pos := _, after := _, guard := none } (.pointer (some ⟨pb, 5, none⟩)) rfl (Or.inl ⟨by rfl, fun u hu => by go_simp⟩) hS ?_
  simp only [Act.put, aP]
  refine tko 5 { dst := some 25, op := Op.load 26 (Operand.tmp 5), type := 26, pos := _, after := _, guard := none } (.agg #[.int .i64 d.kind, .int .i64 d.n, .string d.name, .int .i64 d.stamp, .int .i64 d.lib, .slice a' kn cap']) rfl (Or.inl ⟨by rfl, fun u hu => by (have z : ∀ q, u.cell? ⟨wr.heap.size, q, none⟩ = #[.int .i64 d.kind, .int .i64 d.n, .string d.name, .int .i64 d.stamp, .int .i64 d.lib, .slice a' kn cap'][q]? := (fun q => by simp [World.cell?, show u.heap[wr.heap.size]? = _ from hu]); have z0 := z 0; have z1 := z 1; have z2 := z 2; have z3 := z 3; have z4 := z 4; have z5 := z 5; simp at z0 z1 z2 z3 z4 z5; go_simp)⟩) hS ?_
  simp only [Act.put, aP]
  refine wpAnyH_ready (rs := [4, 6, 8]) (by kernel_rfl) (by simp) (AllReadyH.cons (o := { dst := some 24, op := Op.load 28 (Operand.tmp 23), type := 28, pos := _, after := _, guard := none }) rfl (fun K hK => ?_) (AllReadyH.cons (o := { dst := some 26, op := Op.call { callee := Callee.value (Operand.func 130), args := #[Operand.tmp 25, Operand.const (Value.int IntKind.i64 1)], argTypes := #[26, 3] }, type := 73, pos := _, after := _, guard := none }) rfl (fun K hK => ?_) (AllReadyH.cons (o := { dst := some 28, op := Op.buildSlice 28 1 #[(0, Operand.const (Value.agg #[Value.int IntKind.i64 0, Value.string { data := #[] }, Value.slice none 0 0, Value.slice none 0 0, Value.string { data := #[] }, Value.slice none 0 0]))], type := 28, pos := _, after := _, guard := none }) rfl (fun K hK => ?_) AllReadyH.nil)))
  ·have zo := (cellO PX_0.out.1.blk (q := 5)).trans rfl
   go_simp
   clear zo
   refine hK.out _ _ hS (fun hS => ?_)
   clear hK K
   refine tko 7 { dst := some 27, op := Op.call { callee := Callee.builtin Builtin.len, args := #[Operand.tmp 24], argTypes := #[28] }, type := 3, pos := _, after := _, guard := none } (.int .i64 is.length) rfl (Or.inl ⟨by rfl, fun u hu => by go_simp⟩) hS ?_
   simp only [Act.put, aP]
   refine wpAnyH_ready (rs := [6, 8]) (by kernel_rfl) (by simp) (AllReadyH.cons (o := { dst := some 26, op := Op.call { callee := Callee.value (Operand.func 130), args := #[Operand.tmp 25, Operand.const (Value.int IntKind.i64 1)], argTypes := #[26, 3] }, type := 73, pos := _, after := _, guard := none }) rfl (fun K hK => ?_) (AllReadyH.cons (o := { dst := some 28, op := Op.buildSlice 28 1 #[(0, Operand.const (Value.agg #[Value.int IntKind.i64 0, Value.string { data := #[] }, Value.slice none 0 0, Value.slice none 0 0, Value.string { data := #[] }, Value.slice none 0 0]))], type := 28, pos := _, after := _, guard := none }) rfl (fun K hK => ?_) AllReadyH.nil))
   ·go_simp
    refine (CA.out (w5.drew) PX_0.out.2).mono ?_
    rintro e w6 ⟨hb6, rfl⟩
    go_wp2_with fail
    refine ⟨rfl, HR.out.1.trans ((PX_0.out.2.trans (hb6.mono PX_0.out.2.size)).bt HBr.out), ?_⟩
    rw [HST.out]
   go_simp
   refine allocKe (K := K) (w5.heap.size) rfl (fun W1 hb hN => ?_)
   have hS1 := upH hS hb
   have PX_1 := hidd (And.intro (PX_0.out.1.below hb) (PX_0.out.2.trans (hb.mono PX_0.out.2.size)))
   generalize w5.heap.size = nb at hN ⊢
   have ZZ_1 := hidd hN
   clear hb hN
   refine hK.out _ _ hS1 (fun hS => ?_)
   clear hK K
   refine wpAnyH_ready (rs := [6]) (by kernel_rfl) (by simp) (AllReadyH.cons (o := { dst := some 26, op := Op.call { callee := Callee.value (Operand.func 130), args := #[Operand.tmp 25, Operand.const (Value.int IntKind.i64 1)], argTypes := #[26, 3] }, type := 73, pos := _, after := _, guard := none }) rfl (fun K hK => ?_) AllReadyH.nil)
   go_simp
   refine (CA.out (W1) PX_1.out.2).mono ?_
   rintro e w6 ⟨hb6, rfl⟩
   go_wp2_with fail
   refine ⟨rfl, HR.out.1.trans ((PX_1.out.2.trans (hb6.mono PX_1.out.2.size)).bt HBr.out), ?_⟩
   rw [HST.out]
  ·go_simp
   refine (CA.out (w5.drew) PX_0.out.2).mono ?_
   rintro e w6 ⟨hb6, rfl⟩
   go_wp2_with fail
   refine ⟨rfl, HR.out.1.trans ((PX_0.out.2.trans (hb6.mono PX_0.out.2.size)).bt HBr.out), ?_⟩
   rw [HST.out]
  go_simp
  refine allocKe (K := K) (w5.heap.size) rfl (fun W1 hb hN => ?_)
  have hS1 := upH hS hb
  have PX_1 := hidd (And.intro (PX_0.out.1.below hb) (PX_0.out.2.trans (hb.mono PX_0.out.2.size)))
  generalize w5.heap.size = nb at hN ⊢
  have ZZ_1 := hidd hN
  clear hb hN
  refine hK.out _ _ hS1 (fun hS => ?_)
  clear hK K
  refine wpAnyH_ready (rs := [4, 6]) (by kernel_rfl) (by simp) (AllReadyH.cons (o := { dst := some 24, op := Op.load 28 (Operand.tmp 23), type := 28, pos := _, after := _, guard := none }) rfl (fun K hK => ?_) (AllReadyH.cons (o := { dst := some 26, op := Op.call { callee := Callee.value (Operand.func 130), args := #[Operand.tmp 25, Operand.const (Value.int IntKind.i64 1)], argTypes := #[26, 3] }, type := 73, pos := _, after := _, guard := none }) rfl (fun K hK => ?_) AllReadyH.nil))
  ·have zo := (cellO PX_1.out.1.blk (q := 5)).trans rfl
   go_simp
   clear zo
   refine hK.out _ _ hS (fun hS => ?_)
   clear hK K
   refine tko 7 { dst := some 27, op := Op.call { callee := Callee.builtin Builtin.len, args := #[Operand.tmp 24], argTypes := #[28] }, type := 3, pos := _, after := _, guard := none } (.int .i64 is.length) rfl (Or.inl ⟨by rfl, fun u hu => by go_simp⟩) hS ?_
   simp only [Act.put, aP]
   refine wpAnyH_ready (rs := [6]) (by kernel_rfl) (by simp) (AllReadyH.cons (o := { dst := some 26, op := Op.call { callee := Callee.value (Operand.func 130), args := #[Operand.tmp 25, Operand.const (Value.int IntKind.i64 1)], argTypes := #[26, 3] }, type := 73, pos := _, after := _, guard := none }) rfl (fun K hK => ?_) AllReadyH.nil)
   go_simp
   refine (CA.out (W1) PX_1.out.2).mono ?_
   rintro e w6 ⟨hb6, rfl⟩
   go_wp2_with fail
   refine ⟨rfl, HR.out.1.trans ((PX_1.out.2.trans (hb6.mono PX_1.out.2.size)).bt HBr.out), ?_⟩
   rw [HST.out]
  go_simp
  refine (CA.out (W1) PX_1.out.2).mono ?_
  rintro e w6 ⟨hb6, rfl⟩
  go_wp2_with fail
  refine ⟨rfl, HR.out.1.trans ((PX_1.out.2.trans (hb6.mono PX_1.out.2.size)).bt HBr.out), ?_⟩
  rw [HST.out]
 | ok sx =>
  obtain ⟨sk, snm, sns, sas, sp, sks⟩ := sx
  rw [hE] at CA0 hst
  have CA : Hid (∀ W, Below wr.heap.size wr W → Calls Tryz.prog 130 #[.agg #[.int .i64 d.kind, .int .i64 d.n, .string d.name, .int .i64 d.stamp, .int .i64 d.lib, .slice a' kn cap'], .int .i64 1] W fun e w' => Below W.heap.size W w' ∧ ∃ v, e = .returned v ∧ SeT W (Se.mk sk snm sns sas sp sks) v w') := CA0
  have HST2 : Hid (importsF ds s = importsF (ds.drop (j + 1)) { s' with imports := s'.imports ++ [Se.mk sk snm sns sas sp sks] }) := hst
  clear CA0 hst hE hil
  go_wp2_with fail
  refine (HY.out _ _).mono ?_
  rintro e w5 ⟨rfl, rfl⟩
  clear hw1
  go_upto_region 4 with fail
  have k3 : (0 : Int) ≤ (is.length : Int) := by omega
  have k4 : (is.length : Int) < (is.length : Int) + 1 := by omega
  clear e5 c0 c1 c2 c3 c4 c5 y0 y1 y2 y3 y4 y5
  refine wp_region_held_drew (S := fun u => u.heap[wr.heap.size]? = some (.cells #[.int .i64 d.kind, .int .i64 d.n, .string d.name, .int .i64 d.stamp, .int .i64 d.lib, .slice a' kn cap'] 26 (0, 0))) (by kernel_rfl) (HS1.out) (fun hS => ?_)
  have HLEN := hidd hlen
  apply cutI (fun g cp w4 nb na nn nc aa an ac ka kn2 kc => w4.heap[wr.heap.size]? = some (.cells #[.int .i64 d.kind, .int .i64 d.n, .string d.name, .int .i64 d.stamp, .int .i64 d.lib, .slice a' kn cap'] 26 (0, 0)) ∧ (∃ cur : Array Value, w4.heap[g]? = some (.cells cur 73 (0, 0)) ∧ (is.length + 1) * 6 ≤ cur.size) ∧ (wr.heap.size ≠ g ∧ wr.heap.size ≠ pb ∧ g ≠ pb) ∧ w4.heap[pb]? = some (.cells #[f1, f2, f3, .string s'.name, ev, .slice ia is.length ic, bv] 57 (0, 0)) ∧ (BT B w (World.setCell (sixW w4 g (is.length * 6) (.int .i64 sk) (.string snm) (.slice na nn nc) (.slice aa an ac) (.string sp) (.slice ka kn2 kc)) ⟨pb, 5, none⟩ (.slice (some ⟨g, 0, none⟩) (is.length + 1) cp)) ∧ PS B pb f1 f2 f3 { s' with imports := s'.imports ++ [Se.mk sk snm sns sas sp sks] } (World.setCell (sixW w4 g (is.length * 6) (.int .i64 sk) (.string snm) (.slice na nn nc) (.slice aa an ac) (.string sp) (.slice ka kn2 kc)) ⟨pb, 5, none⟩ (.slice (some ⟨g, 0, none⟩) (is.length + 1) cp)) ∧ (s'.imports ++ [Se.mk sk snm sns sas sp sks]).length ≤ 20) ∧ (BT B w (sixW (World.setCell w4 ⟨pb, 5, none⟩ (.slice (some ⟨g, 0, none⟩) (is.length + 1) cp)) g (is.length * 6) (.int .i64 sk) (.string snm) (.slice na nn nc) (.slice aa an ac) (.string sp) (.slice ka kn2 kc)) ∧ PS B pb f1 f2 f3 { s' with imports := s'.imports ++ [Se.mk sk snm sns sas sp sks] } (sixW (World.setCell w4 ⟨pb, 5, none⟩ (.slice (some ⟨g, 0, none⟩) (is.length + 1) cp)) g (is.length * 6) (.int .i64 sk) (.string snm) (.slice na nn nc) (.slice aa an ac) (.string sp) (.slice ka kn2 kc)) ∧ (s'.imports ++ [Se.mk sk snm sns sas sp sks]).length ≤ 20))
  ·intro TL
   refine tko 0 { dst := some 20, op := Op.move (Operand.tmp 0), type := 84, pos := _, after := _, guard := none } (.pointer (some ⟨pb, 0, none⟩)) rfl (Or.inl ⟨by rfl, fun u hu => by go_simp⟩) hS ?_
   simp only [Act.put, aP]
   refine tko 1 { dst := some 21, op := Op.nilCheck (Operand.tmp 20), type := 0, pos := _, after := _, guard := none } (.pointer (some ⟨pb, 0, none⟩)) rfl (Or.inl ⟨by rfl, fun u hu => by go_simp⟩) hS ?_
   simp only [Act.put, aP]
   refine tko 2 { dst := some 22, op := Op.fieldAddr 57 (Operand.tmp 21) 3, type := 0, pos := _, after := _, guard := none } (.pointer (some ⟨pb, 3, none⟩)) rfl (Or.inl ⟨by rfl, fun u hu => by go_simp⟩) hS ?_
   simp only [Act.put, aP]
   refine tko 3 { dst := some 23, op := Op.fieldAddr 30 (Operand.tmp 22) 2, type := 0, pos := _, after := _, guard := none } (.pointer (some ⟨pb, 5, none⟩)) rfl (Or.inl ⟨by rfl, fun u hu => by go_simp⟩) hS ?_
   simp only [Act.put, aP]
   refine tko 5 { dst := some 25, op := Op.load 26 (Operand.tmp 5), type := 26, pos := _, after := _, guard := none } (.agg #[.int .i64 d.kind, .int .i64 d.n, .string d.name, .int .i64 d.stamp, .int .i64 d.lib, .slice a' kn cap']) rfl (Or.inl ⟨by rfl, fun u hu => by (have z : ∀ q, u.cell? ⟨wr.heap.size, q, none⟩ = #[.int .i64 d.kind, .int .i64 d.n, .string d.name, .int .i64 d.stamp, .int .i64 d.lib, .slice a' kn cap'][q]? := (fun q => by simp [World.cell?, show u.heap[wr.heap.size]? = _ from hu]); have z0 := z 0; have z1 := z 1; have z2 := z 2; have z3 := z 3; have z4 := z 4; have z5 := z 5; simp at z0 z1 z2 z3 z4 z5; go_simp)⟩) hS ?_
   simp only [Act.put, aP]
   refine wpAnyH_ready (rs := [4, 6, 8]) (by kernel_rfl) (by simp) (AllReadyH.cons (o := { dst := some 24, op := Op.load 28 (Operand.tmp 23), type := 28, pos := _, after := _, guard := none }) rfl (fun K hK => ?_) (AllReadyH.cons (o := { dst := some 26, op := Op.call { callee := Callee.value (Operand.func 130), args := #[Operand.tmp 25, Operand.const (Value.int IntKind.i64 1)], argTypes := #[26, 3] }, type := 73, pos := _, after := _, guard := none }) rfl (fun K hK => ?_) (AllReadyH.cons (o := { dst := some 28, op := Op.buildSlice 28 1 #[(0, Operand.const (Value.agg #[Value.int IntKind.i64 0, Value.string { data := #[] }, Value.slice none 0 0, Value.slice none 0 0, Value.string { data := #[] }, Value.slice none 0 0]))], type := 28, pos := _, after := _, guard := none }) rfl (fun K hK => ?_) AllReadyH.nil)))
   ·have zo := (cellO PX_0.out.1.blk (q := 5)).trans rfl
    go_simp
    clear zo
    refine hK.out _ _ hS (fun hS => ?_)
    clear hK K
    refine tko 7 { dst := some 27, op := Op.call { callee := Callee.builtin Builtin.len, args := #[Operand.tmp 24], argTypes := #[28] }, type := 3, pos := _, after := _, guard := none } (.int .i64 is.length) rfl (Or.inl ⟨by rfl, fun u hu => by go_simp⟩) hS ?_
    simp only [Act.put, aP]
    refine wpAnyH_ready (rs := [6, 8]) (by kernel_rfl) (by simp) (AllReadyH.cons (o := { dst := some 26, op := Op.call { callee := Callee.value (Operand.func 130), args := #[Operand.tmp 25, Operand.const (Value.int IntKind.i64 1)], argTypes := #[26, 3] }, type := 73, pos := _, after := _, guard := none }) rfl (fun K hK => ?_) (AllReadyH.cons (o := { dst := some 28, op := Op.buildSlice 28 1 #[(0, Operand.const (Value.agg #[Value.int IntKind.i64 0, Value.string { data := #[] }, Value.slice none 0 0, Value.slice none 0 0, Value.string { data := #[] }, Value.slice none 0 0]))], type := 28, pos := _, after := _, guard := none }) rfl (fun K hK => ?_) AllReadyH.nil))
    ·go_simp
     refine (CA.out (w5.drew) PX_0.out.2).mono ?_
     rintro e W1 ⟨hb, v, rfl, nv, av, kv, rfl, g1, g2, g3⟩
     obtain ⟨na, nn, nc, rfl⟩ := SV.slice g1
     obtain ⟨aa, an, ac, rfl⟩ := SV.slice g2
     obtain ⟨ka, kn2, kc, rfl⟩ := SeL.slice g3
     have PX_1 := hidd (And.intro (PX_0.out.1.below hb) (PX_0.out.2.trans (hb.mono PX_0.out.2.size)))
     have IK_1 : Hid (IE.ok (Fre B pb ev (.slice ia is.length ic) bv W1) W1 ⟨Se.mk sk snm sns sas sp sks, .slice na nn nc, .slice aa an ac, .slice ka kn2 kc⟩) := IE.stay (ok := fun k => (w5.drew).heap.size ≤ k ∧ k < W1.heap.size) (w := W1) (e := ⟨Se.mk sk snm sns sas sp sks, .slice na nn nc, .slice aa an ac, .slice ka kn2 kc⟩) ⟨g1, g2, g3⟩ (fun k hk => rfl) (fun k hk => PSx.fresh PX_0.out.1 hk.1 hk.2)
     have hS1 := upH hS hb
     clear hb g1 g2 g3
     refine hK.out _ W1 hS1 (fun hS => ?_)
     clear hK K
     refine wpAnyH_ready (rs := [8]) (by kernel_rfl) (by simp) (AllReadyH.cons (o := { dst := some 28, op := Op.buildSlice 28 1 #[(0, Operand.const (Value.agg #[Value.int IntKind.i64 0, Value.string { data := #[] }, Value.slice none 0 0, Value.slice none 0 0, Value.string { data := #[] }, Value.slice none 0 0]))], type := 28, pos := _, after := _, guard := none }) rfl (fun K hK => ?_) AllReadyH.nil)
     go_simp
     refine allocK (K := K) (W1.heap.size) rfl (fun W2 hb hN => ?_)
     have hS2 := upH hS hb
     have PX_2 := hidd (And.intro (PX_1.out.1.below hb) (PX_1.out.2.trans (hb.mono PX_1.out.2.size)))
     have IK_2 := hidd (IE.after IK_1.out hb)
     generalize W1.heap.size = nb at hN ⊢
     have ZZ_2 := hidd hN
     clear hb hN
     refine hK.out _ _ hS2 (fun hS => ?_)
     clear hK K
     refine wpAnyH_ready (rs := [9]) (by kernel_rfl) (by simp) (AllReadyH.cons (o := { dst := some 29, op := Op.call { callee := Callee.builtin Builtin.append, args := #[Operand.tmp 24, Operand.tmp 28], argTypes := #[28, 28] }, type := 28, pos := _, after := _, guard := none }) rfl (fun K hK => ?_) AllReadyH.nil)
     refine step_append_lies _ rfl (.tmp 24) (.tmp 28) 28 rfl B 73 i0 _ 6 112 Tryz.underlying28 hinf hz0 hz1 hz2 rfl (by decide) (.slice ia is.length ic) is.length (flatI is) rfl (by exact PX_2.out.1.io) ⟨nb, 0, none⟩ 1 1 zeroI rfl rfl ?_ ?_ (by decide) ?_ ?_ ?_ W2.heap.size rfl ?_
     ·intro q u hq
      rw [addr_add]
      exact (cellO ZZ_2.out).trans (by simpa [zeroI] using hq)
     ·intro u hu
      simp [zeroI] at hu
      rcases hu with rfl | rfl | rfl | rfl | rfl | rfl <;> rfl
     ·have := HISL.out; unfold maxLen; omega
     ·have := HISL.out; omega
     ·exact PSx.hs PX_2.out.1
     intro g cp w4 hown hgrow hat hlt4
     have hS4 := hS_grown PX_2.out.1 hown hgrow hS
     have HI := imp_both (e := ⟨Se.mk sk snm sns sas sp sks, .slice na nn nc, .slice aa an ac, .slice ka kn2 kc⟩) PX_2.out.1 IK_2.out hown hgrow hat rfl
     refine hK.out _ _ hS4.2.2.1 (fun hS => ?_)
     exact TL.out g cp w4 nb na nn nc aa an ac ka kn2 kc ⟨hS, hS4.1, hS4.2.1, hS4.2.2.2, imp_endB HR.out.1 HBr.out H1E.out PX_2.out.2 HLEN.out HI.1, imp_endB HR.out.1 HBr.out H1E.out PX_2.out.2 HLEN.out HI.2⟩
    go_simp
    refine allocKe (K := K) (w5.heap.size) rfl (fun W1 hb hN => ?_)
    have hS1 := upH hS hb
    have PX_1 := hidd (And.intro (PX_0.out.1.below hb) (PX_0.out.2.trans (hb.mono PX_0.out.2.size)))
    generalize w5.heap.size = nb at hN ⊢
    have ZZ_1 := hidd hN
    clear hb hN
    refine hK.out _ _ hS1 (fun hS => ?_)
    clear hK K
    refine wpAnyH_ready (rs := [6]) (by kernel_rfl) (by simp) (AllReadyH.cons (o := { dst := some 26, op := Op.call { callee := Callee.value (Operand.func 130), args := #[Operand.tmp 25, Operand.const (Value.int IntKind.i64 1)], argTypes := #[26, 3] }, type := 73, pos := _, after := _, guard := none }) rfl (fun K hK => ?_) AllReadyH.nil)
    go_simp
    refine (CA.out (W1) PX_1.out.2).mono ?_
    rintro e W2 ⟨hb, v, rfl, nv, av, kv, rfl, g1, g2, g3⟩
    obtain ⟨na, nn, nc, rfl⟩ := SV.slice g1
    obtain ⟨aa, an, ac, rfl⟩ := SV.slice g2
    obtain ⟨ka, kn2, kc, rfl⟩ := SeL.slice g3
    have PX_2 := hidd (And.intro (PX_1.out.1.below hb) (PX_1.out.2.trans (hb.mono PX_1.out.2.size)))
    have ZZ_2 := hidd (upH ZZ_1.out hb)
    have IK_2 : Hid (IE.ok (Fre B pb ev (.slice ia is.length ic) bv W2) W2 ⟨Se.mk sk snm sns sas sp sks, .slice na nn nc, .slice aa an ac, .slice ka kn2 kc⟩) := IE.stay (ok := fun k => (W1).heap.size ≤ k ∧ k < W2.heap.size) (w := W2) (e := ⟨Se.mk sk snm sns sas sp sks, .slice na nn nc, .slice aa an ac, .slice ka kn2 kc⟩) ⟨g1, g2, g3⟩ (fun k hk => rfl) (fun k hk => PSx.fresh PX_1.out.1 hk.1 hk.2)
    have hS2 := upH hS hb
    clear hb g1 g2 g3
    refine hK.out _ W2 hS2 (fun hS => ?_)
    clear hK K
    refine wpAnyH_ready (rs := [9]) (by kernel_rfl) (by simp) (AllReadyH.cons (o := { dst := some 29, op := Op.call { callee := Callee.builtin Builtin.append, args := #[Operand.tmp 24, Operand.tmp 28], argTypes := #[28, 28] }, type := 28, pos := _, after := _, guard := none }) rfl (fun K hK => ?_) AllReadyH.nil)
    refine step_append_lies _ rfl (.tmp 24) (.tmp 28) 28 rfl B 73 i0 _ 6 112 Tryz.underlying28 hinf hz0 hz1 hz2 rfl (by decide) (.slice ia is.length ic) is.length (flatI is) rfl (by exact PX_2.out.1.io) ⟨nb, 0, none⟩ 1 1 zeroI rfl rfl ?_ ?_ (by decide) ?_ ?_ ?_ W2.heap.size rfl ?_
    ·intro q u hq
     rw [addr_add]
     exact (cellO ZZ_2.out).trans (by simpa [zeroI] using hq)
    ·intro u hu
     simp [zeroI] at hu
     rcases hu with rfl | rfl | rfl | rfl | rfl | rfl <;> rfl
    ·have := HISL.out; unfold maxLen; omega
    ·have := HISL.out; omega
    ·exact PSx.hs PX_2.out.1
    intro g cp w4 hown hgrow hat hlt4
    have hS4 := hS_grown PX_2.out.1 hown hgrow hS
    have HI := imp_both (e := ⟨Se.mk sk snm sns sas sp sks, .slice na nn nc, .slice aa an ac, .slice ka kn2 kc⟩) PX_2.out.1 IK_2.out hown hgrow hat rfl
    refine hK.out _ _ hS4.2.2.1 (fun hS => ?_)
    exact TL.out g cp w4 nb na nn nc aa an ac ka kn2 kc ⟨hS, hS4.1, hS4.2.1, hS4.2.2.2, imp_endB HR.out.1 HBr.out H1E.out PX_2.out.2 HLEN.out HI.1, imp_endB HR.out.1 HBr.out H1E.out PX_2.out.2 HLEN.out HI.2⟩
   ·go_simp
    refine (CA.out (w5.drew) PX_0.out.2).mono ?_
    rintro e W1 ⟨hb, v, rfl, nv, av, kv, rfl, g1, g2, g3⟩
    obtain ⟨na, nn, nc, rfl⟩ := SV.slice g1
    obtain ⟨aa, an, ac, rfl⟩ := SV.slice g2
    obtain ⟨ka, kn2, kc, rfl⟩ := SeL.slice g3
    have PX_1 := hidd (And.intro (PX_0.out.1.below hb) (PX_0.out.2.trans (hb.mono PX_0.out.2.size)))
    have IK_1 : Hid (IE.ok (Fre B pb ev (.slice ia is.length ic) bv W1) W1 ⟨Se.mk sk snm sns sas sp sks, .slice na nn nc, .slice aa an ac, .slice ka kn2 kc⟩) := IE.stay (ok := fun k => (w5.drew).heap.size ≤ k ∧ k < W1.heap.size) (w := W1) (e := ⟨Se.mk sk snm sns sas sp sks, .slice na nn nc, .slice aa an ac, .slice ka kn2 kc⟩) ⟨g1, g2, g3⟩ (fun k hk => rfl) (fun k hk => PSx.fresh PX_0.out.1 hk.1 hk.2)
    have hS1 := upH hS hb
    clear hb g1 g2 g3
    refine hK.out _ W1 hS1 (fun hS => ?_)
    clear hK K
    refine wpAnyH_ready (rs := [4, 8]) (by kernel_rfl) (by simp) (AllReadyH.cons (o := { dst := some 24, op := Op.load 28 (Operand.tmp 23), type := 28, pos := _, after := _, guard := none }) rfl (fun K hK => ?_) (AllReadyH.cons (o := { dst := some 28, op := Op.buildSlice 28 1 #[(0, Operand.const (Value.agg #[Value.int IntKind.i64 0, Value.string { data := #[] }, Value.slice none 0 0, Value.slice none 0 0, Value.string { data := #[] }, Value.slice none 0 0]))], type := 28, pos := _, after := _, guard := none }) rfl (fun K hK => ?_) AllReadyH.nil))
    ·have zo := (cellO PX_1.out.1.blk (q := 5)).trans rfl
     go_simp
     clear zo
     refine hK.out _ _ hS (fun hS => ?_)
     clear hK K
     refine tko 7 { dst := some 27, op := Op.call { callee := Callee.builtin Builtin.len, args := #[Operand.tmp 24], argTypes := #[28] }, type := 3, pos := _, after := _, guard := none } (.int .i64 is.length) rfl (Or.inl ⟨by rfl, fun u hu => by go_simp⟩) hS ?_
     simp only [Act.put, aP]
     refine wpAnyH_ready (rs := [8]) (by kernel_rfl) (by simp) (AllReadyH.cons (o := { dst := some 28, op := Op.buildSlice 28 1 #[(0, Operand.const (Value.agg #[Value.int IntKind.i64 0, Value.string { data := #[] }, Value.slice none 0 0, Value.slice none 0 0, Value.string { data := #[] }, Value.slice none 0 0]))], type := 28, pos := _, after := _, guard := none }) rfl (fun K hK => ?_) AllReadyH.nil)
     go_simp
     refine allocK (K := K) (W1.heap.size) rfl (fun W2 hb hN => ?_)
     have hS2 := upH hS hb
     have PX_2 := hidd (And.intro (PX_1.out.1.below hb) (PX_1.out.2.trans (hb.mono PX_1.out.2.size)))
     have IK_2 := hidd (IE.after IK_1.out hb)
     generalize W1.heap.size = nb at hN ⊢
     have ZZ_2 := hidd hN
     clear hb hN
     refine hK.out _ _ hS2 (fun hS => ?_)
     clear hK K
     refine wpAnyH_ready (rs := [9]) (by kernel_rfl) (by simp) (AllReadyH.cons (o := { dst := some 29, op := Op.call { callee := Callee.builtin Builtin.append, args := #[Operand.tmp 24, Operand.tmp 28], argTypes := #[28, 28] }, type := 28, pos := _, after := _, guard := none }) rfl (fun K hK => ?_) AllReadyH.nil)
     refine step_append_lies _ rfl (.tmp 24) (.tmp 28) 28 rfl B 73 i0 _ 6 112 Tryz.underlying28 hinf hz0 hz1 hz2 rfl (by decide) (.slice ia is.length ic) is.length (flatI is) rfl (by exact PX_2.out.1.io) ⟨nb, 0, none⟩ 1 1 zeroI rfl rfl ?_ ?_ (by decide) ?_ ?_ ?_ W2.heap.size rfl ?_
     ·intro q u hq
      rw [addr_add]
      exact (cellO ZZ_2.out).trans (by simpa [zeroI] using hq)
     ·intro u hu
      simp [zeroI] at hu
      rcases hu with rfl | rfl | rfl | rfl | rfl | rfl <;> rfl
     ·have := HISL.out; unfold maxLen; omega
     ·have := HISL.out; omega
     ·exact PSx.hs PX_2.out.1
     intro g cp w4 hown hgrow hat hlt4
     have hS4 := hS_grown PX_2.out.1 hown hgrow hS
     have HI := imp_both (e := ⟨Se.mk sk snm sns sas sp sks, .slice na nn nc, .slice aa an ac, .slice ka kn2 kc⟩) PX_2.out.1 IK_2.out hown hgrow hat rfl
     refine hK.out _ _ hS4.2.2.1 (fun hS => ?_)
     exact TL.out g cp w4 nb na nn nc aa an ac ka kn2 kc ⟨hS, hS4.1, hS4.2.1, hS4.2.2.2, imp_endB HR.out.1 HBr.out H1E.out PX_2.out.2 HLEN.out HI.1, imp_endB HR.out.1 HBr.out H1E.out PX_2.out.2 HLEN.out HI.2⟩
    go_simp
    refine allocK (K := K) (W1.heap.size) rfl (fun W2 hb hN => ?_)
    have hS2 := upH hS hb
    have PX_2 := hidd (And.intro (PX_1.out.1.below hb) (PX_1.out.2.trans (hb.mono PX_1.out.2.size)))
    have IK_2 := hidd (IE.after IK_1.out hb)
    generalize W1.heap.size = nb at hN ⊢
    have ZZ_2 := hidd hN
    clear hb hN
    refine hK.out _ _ hS2 (fun hS => ?_)
    clear hK K
    refine wpAnyH_ready (rs := [4]) (by kernel_rfl) (by simp) (AllReadyH.cons (o := { dst := some 24, op := Op.load 28 (Operand.tmp 23), type := 28, pos := _, after := _, guard := none }) rfl (fun K hK => ?_) AllReadyH.nil)
    have zo := (cellO PX_2.out.1.blk (q := 5)).trans rfl
    go_simp
    clear zo
    refine hK.out _ _ hS (fun hS => ?_)
    clear hK K
    refine tko 7 { dst := some 27, op := Op.call { callee := Callee.builtin Builtin.len, args := #[Operand.tmp 24], argTypes := #[28] }, type := 3, pos := _, after := _, guard := none } (.int .i64 is.length) rfl (Or.inl ⟨by rfl, fun u hu => by go_simp⟩) hS ?_
    simp only [Act.put, aP]
    refine wpAnyH_ready (rs := [9]) (by kernel_rfl) (by simp) (AllReadyH.cons (o := { dst := some 29, op := Op.call { callee := Callee.builtin Builtin.append, args := #[Operand.tmp 24, Operand.tmp 28], argTypes := #[28, 28] }, type := 28, pos := _, after := _, guard := none }) rfl (fun K hK => ?_) AllReadyH.nil)
    refine step_append_lies _ rfl (.tmp 24) (.tmp 28) 28 rfl B 73 i0 _ 6 112 Tryz.underlying28 hinf hz0 hz1 hz2 rfl (by decide) (.slice ia is.length ic) is.length (flatI is) rfl (by exact PX_2.out.1.io) ⟨nb, 0, none⟩ 1 1 zeroI rfl rfl ?_ ?_ (by decide) ?_ ?_ ?_ W2.heap.size rfl ?_
    ·intro q u hq
     rw [addr_add]
     exact (cellO ZZ_2.out).trans (by simpa [zeroI] using hq)
    ·intro u hu
     simp [zeroI] at hu
     rcases hu with rfl | rfl | rfl | rfl | rfl | rfl <;> rfl
    ·have := HISL.out; unfold maxLen; omega
    ·have := HISL.out; omega
    ·exact PSx.hs PX_2.out.1
    intro g cp w4 hown hgrow hat hlt4
    have hS4 := hS_grown PX_2.out.1 hown hgrow hS
    have HI := imp_both (e := ⟨Se.mk sk snm sns sas sp sks, .slice na nn nc, .slice aa an ac, .slice ka kn2 kc⟩) PX_2.out.1 IK_2.out hown hgrow hat rfl
    refine hK.out _ _ hS4.2.2.1 (fun hS => ?_)
    exact TL.out g cp w4 nb na nn nc aa an ac ka kn2 kc ⟨hS, hS4.1, hS4.2.1, hS4.2.2.2, imp_endB HR.out.1 HBr.out H1E.out PX_2.out.2 HLEN.out HI.1, imp_endB HR.out.1 HBr.out H1E.out PX_2.out.2 HLEN.out HI.2⟩
   go_simp
   refine allocKe (K := K) (w5.heap.size) rfl (fun W1 hb hN => ?_)
   have hS1 := upH hS hb
   have PX_1 := hidd (And.intro (PX_0.out.1.below hb) (PX_0.out.2.trans (hb.mono PX_0.out.2.size)))
   generalize w5.heap.size = nb at hN ⊢
   have ZZ_1 := hidd hN
   clear hb hN
   refine hK.out _ _ hS1 (fun hS => ?_)
   clear hK K
   refine wpAnyH_ready (rs := [4, 6]) (by kernel_rfl) (by simp) (AllReadyH.cons (o := { dst := some 24, op := Op.load 28 (Operand.tmp 23), type := 28, pos := _, after := _, guard := none }) rfl (fun K hK => ?_) (AllReadyH.cons (o := { dst := some 26, op := Op.call { callee := Callee.value (Operand.func 130), args := #[Operand.tmp 25, Operand.const (Value.int IntKind.i64 1)], argTypes := #[26, 3] }, type := 73, pos := _, after := _, guard := none }) rfl (fun K hK => ?_) AllReadyH.nil))
   ·have zo := (cellO PX_1.out.1.blk (q := 5)).trans rfl
    go_simp
    clear zo
    refine hK.out _ _ hS (fun hS => ?_)
    clear hK K
    refine tko 7 { dst := some 27, op := Op.call { callee := Callee.builtin Builtin.len, args := #[Operand.tmp 24], argTypes := #[28] }, type := 3, pos := _, after := _, guard := none } (.int .i64 is.length) rfl (Or.inl ⟨by rfl, fun u hu => by go_simp⟩) hS ?_
    simp only [Act.put, aP]
    refine wpAnyH_ready (rs := [6]) (by kernel_rfl) (by simp) (AllReadyH.cons (o := { dst := some 26, op := Op.call { callee := Callee.value (Operand.func 130), args := #[Operand.tmp 25, Operand.const (Value.int IntKind.i64 1)], argTypes := #[26, 3] }, type := 73, pos := _, after := _, guard := none }) rfl (fun K hK => ?_) AllReadyH.nil)
    go_simp
    refine (CA.out (W1) PX_1.out.2).mono ?_
    rintro e W2 ⟨hb, v, rfl, nv, av, kv, rfl, g1, g2, g3⟩
    obtain ⟨na, nn, nc, rfl⟩ := SV.slice g1
    obtain ⟨aa, an, ac, rfl⟩ := SV.slice g2
    obtain ⟨ka, kn2, kc, rfl⟩ := SeL.slice g3
    have PX_2 := hidd (And.intro (PX_1.out.1.below hb) (PX_1.out.2.trans (hb.mono PX_1.out.2.size)))
    have ZZ_2 := hidd (upH ZZ_1.out hb)
    have IK_2 : Hid (IE.ok (Fre B pb ev (.slice ia is.length ic) bv W2) W2 ⟨Se.mk sk snm sns sas sp sks, .slice na nn nc, .slice aa an ac, .slice ka kn2 kc⟩) := IE.stay (ok := fun k => (W1).heap.size ≤ k ∧ k < W2.heap.size) (w := W2) (e := ⟨Se.mk sk snm sns sas sp sks, .slice na nn nc, .slice aa an ac, .slice ka kn2 kc⟩) ⟨g1, g2, g3⟩ (fun k hk => rfl) (fun k hk => PSx.fresh PX_1.out.1 hk.1 hk.2)
    have hS2 := upH hS hb
    clear hb g1 g2 g3
    refine hK.out _ W2 hS2 (fun hS => ?_)
    clear hK K
    refine wpAnyH_ready (rs := [9]) (by kernel_rfl) (by simp) (AllReadyH.cons (o := { dst := some 29, op := Op.call { callee := Callee.builtin Builtin.append, args := #[Operand.tmp 24, Operand.tmp 28], argTypes := #[28, 28] }, type := 28, pos := _, after := _, guard := none }) rfl (fun K hK => ?_) AllReadyH.nil)
    refine step_append_lies _ rfl (.tmp 24) (.tmp 28) 28 rfl B 73 i0 _ 6 112 Tryz.underlying28 hinf hz0 hz1 hz2 rfl (by decide) (.slice ia is.length ic) is.length (flatI is) rfl (by exact PX_2.out.1.io) ⟨nb, 0, none⟩ 1 1 zeroI rfl rfl ?_ ?_ (by decide) ?_ ?_ ?_ W2.heap.size rfl ?_
    ·intro q u hq
     rw [addr_add]
     exact (cellO ZZ_2.out).trans (by simpa [zeroI] using hq)
    ·intro u hu
     simp [zeroI] at hu
     rcases hu with rfl | rfl | rfl | rfl | rfl | rfl <;> rfl
    ·have := HISL.out; unfold maxLen; omega
    ·have := HISL.out; omega
    ·exact PSx.hs PX_2.out.1
    intro g cp w4 hown hgrow hat hlt4
    have hS4 := hS_grown PX_2.out.1 hown hgrow hS
    have HI := imp_both (e := ⟨Se.mk sk snm sns sas sp sks, .slice na nn nc, .slice aa an ac, .slice ka kn2 kc⟩) PX_2.out.1 IK_2.out hown hgrow hat rfl
    refine hK.out _ _ hS4.2.2.1 (fun hS => ?_)
    exact TL.out g cp w4 nb na nn nc aa an ac ka kn2 kc ⟨hS, hS4.1, hS4.2.1, hS4.2.2.2, imp_endB HR.out.1 HBr.out H1E.out PX_2.out.2 HLEN.out HI.1, imp_endB HR.out.1 HBr.out H1E.out PX_2.out.2 HLEN.out HI.2⟩
   go_simp
   refine (CA.out (W1) PX_1.out.2).mono ?_
   rintro e W2 ⟨hb, v, rfl, nv, av, kv, rfl, g1, g2, g3⟩
   obtain ⟨na, nn, nc, rfl⟩ := SV.slice g1
   obtain ⟨aa, an, ac, rfl⟩ := SV.slice g2
   obtain ⟨ka, kn2, kc, rfl⟩ := SeL.slice g3
   have PX_2 := hidd (And.intro (PX_1.out.1.below hb) (PX_1.out.2.trans (hb.mono PX_1.out.2.size)))
   have ZZ_2 := hidd (upH ZZ_1.out hb)
   have IK_2 : Hid (IE.ok (Fre B pb ev (.slice ia is.length ic) bv W2) W2 ⟨Se.mk sk snm sns sas sp sks, .slice na nn nc, .slice aa an ac, .slice ka kn2 kc⟩) := IE.stay (ok := fun k => (W1).heap.size ≤ k ∧ k < W2.heap.size) (w := W2) (e := ⟨Se.mk sk snm sns sas sp sks, .slice na nn nc, .slice aa an ac, .slice ka kn2 kc⟩) ⟨g1, g2, g3⟩ (fun k hk => rfl) (fun k hk => PSx.fresh PX_1.out.1 hk.1 hk.2)
   have hS2 := upH hS hb
   clear hb g1 g2 g3
   refine hK.out _ W2 hS2 (fun hS => ?_)
   clear hK K
   refine wpAnyH_ready (rs := [4]) (by kernel_rfl) (by simp) (AllReadyH.cons (o := { dst := some 24, op := Op.load 28 (Operand.tmp 23), type := 28, pos := _, after := _, guard := none }) rfl (fun K hK => ?_) AllReadyH.nil)
   have zo := (cellO PX_2.out.1.blk (q := 5)).trans rfl
   go_simp
   clear zo
   refine hK.out _ _ hS (fun hS => ?_)
   clear hK K
   refine tko 7 { dst := some 27, op := Op.call { callee := Callee.builtin Builtin.len, args := #[Operand.tmp 24], argTypes := #[28] }, type := 3, pos := _, after := _, guard := none } (.int .i64 is.length) rfl (Or.inl ⟨by rfl, fun u hu => by go_simp⟩) hS ?_
   simp only [Act.put, aP]
   refine wpAnyH_ready (rs := [9]) (by kernel_rfl) (by simp) (AllReadyH.cons (o := { dst := some 29, op := Op.call { callee := Callee.builtin Builtin.append, args := #[Operand.tmp 24, Operand.tmp 28], argTypes := #[28, 28] }, type := 28, pos := _, after := _, guard := none }) rfl (fun K hK => ?_) AllReadyH.nil)
   refine step_append_lies _ rfl (.tmp 24) (.tmp 28) 28 rfl B 73 i0 _ 6 112 Tryz.underlying28 hinf hz0 hz1 hz2 rfl (by decide) (.slice ia is.length ic) is.length (flatI is) rfl (by exact PX_2.out.1.io) ⟨nb, 0, none⟩ 1 1 zeroI rfl rfl ?_ ?_ (by decide) ?_ ?_ ?_ W2.heap.size rfl ?_
   ·intro q u hq
    rw [addr_add]
    exact (cellO ZZ_2.out).trans (by simpa [zeroI] using hq)
   ·intro u hu
    simp [zeroI] at hu
    rcases hu with rfl | rfl | rfl | rfl | rfl | rfl <;> rfl
   ·have := HISL.out; unfold maxLen; omega
   ·have := HISL.out; omega
   ·exact PSx.hs PX_2.out.1
   intro g cp w4 hown hgrow hat hlt4
   have hS4 := hS_grown PX_2.out.1 hown hgrow hS
   have HI := imp_both (e := ⟨Se.mk sk snm sns sas sp sks, .slice na nn nc, .slice aa an ac, .slice ka kn2 kc⟩) PX_2.out.1 IK_2.out hown hgrow hat rfl
   refine hK.out _ _ hS4.2.2.1 (fun hS => ?_)
   exact TL.out g cp w4 nb na nn nc aa an ac ka kn2 kc ⟨hS, hS4.1, hS4.2.1, hS4.2.2.2, imp_endB HR.out.1 HBr.out H1E.out PX_2.out.2 HLEN.out HI.1, imp_endB HR.out.1 HBr.out H1E.out PX_2.out.2 HLEN.out HI.2⟩
  intro g cp w4 nb na nn nc aa an ac ka kn2 kc ⟨hS, ⟨cur, HG⟩, HNE, HP4, HF2⟩
  replace HG := hidd HG
  replace HNE := hidd HNE
  replace HP4 := hidd HP4
  replace HF2 := hidd (And.intro HF2.1 HF2.2)
  refine tko 10 { dst := some 30, op := Op.indexAddr 28 (Operand.tmp 29) (Operand.tmp 27), type := 0, pos := _, after := _, guard := none } (.pointer (some ⟨g, is.length * 6, none⟩)) rfl (Or.inl ⟨by rfl, fun u hu => by go_simp⟩) hS ?_
  simp only [Act.put, aP]
  refine tko 12 { dst := some 31, op := Op.nilCheck (Operand.tmp 20), type := 0, pos := _, after := _, guard := none } (.pointer (some ⟨pb, 0, none⟩)) rfl (Or.inl ⟨by rfl, fun u hu => by go_simp⟩) hS ?_
  simp only [Act.put, aP]
  refine tko 13 { dst := some 32, op := Op.fieldAddr 57 (Operand.tmp 31) 3, type := 0, pos := _, after := _, guard := none } (.pointer (some ⟨pb, 3, none⟩)) rfl (Or.inl ⟨by rfl, fun u hu => by go_simp⟩) hS ?_
  simp only [Act.put, aP]
  refine tko 14 { dst := some 33, op := Op.fieldAddr 30 (Operand.tmp 32) 2, type := 0, pos := _, after := _, guard := none } (.pointer (some ⟨pb, 5, none⟩)) rfl (Or.inl ⟨by rfl, fun u hu => by go_simp⟩) hS ?_
  simp only [Act.put, aP]
  refine wpAnyH_ready (rs := [11, 15]) (by kernel_rfl) (by simp) (AllReadyH.cons (o := { dst := none, op := Op.store 73 (Operand.tmp 30) (Operand.tmp 26), type := 0, pos := _, after := _, guard := none }) rfl (fun K hK => ?_) (AllReadyH.cons (o := { dst := none, op := Op.store 28 (Operand.tmp 33) (Operand.tmp 29), type := 0, pos := _, after := _, guard := none }) rfl (fun K hK => ?_) AllReadyH.nil))
  ·obtain ⟨x0, x1, x2, x3, x4, x5, y0, y1, y2, y3, y4, y5, u0, u1, u2, u3, u4, u5⟩ := six_in HG.out.1 (is.length * 6) (by have := HG.out.2; omega)
   go_simp
   clear y0 u0 y1 u1 y2 u2 y3 u3 y4 u4 y5 u5
   refine hK.out _ (sixW (w4) g (is.length * 6) (.int .i64 sk) (.string snm) (.slice na nn nc) (.slice aa an ac) (.string sp) (.slice ka kn2 kc)) (show (World.heap (sixW (w4) g (is.length * 6) (.int .i64 sk) (.string snm) (.slice na nn nc) (.slice aa an ac) (.string sp) (.slice ka kn2 kc)))[wr.heap.size]? = _ from (sixW_far _ g _ _ HNE.out.1 _ _ _ _ _ _).trans hS) (fun hS => ?_)
   clear hK K
   refine wpAnyH_ready (rs := [15]) (by kernel_rfl) (by simp) (AllReadyH.cons (o := { dst := none, op := Op.store 28 (Operand.tmp 33) (Operand.tmp 29), type := 0, pos := _, after := _, guard := none }) rfl (fun K hK => ?_) AllReadyH.nil)
   have hpu : (World.heap ((sixW (w4) g (is.length * 6) (.int .i64 sk) (.string snm) (.slice na nn nc) (.slice aa an ac) (.string sp) (.slice ka kn2 kc))))[pb]? = _ := ((sixW_far _ g _ pb (fun e => HNE.out.2.2 e.symm) _ _ _ _ _ _).trans HP4.out)
   have y5 := (cellO hpu (q := 5)).trans rfl
   have u5 := looseO hpu (q := 5)
   clear hpu
   go_simp
   clear y5 u5
   refine hK.out _ (World.setCell ((sixW (w4) g (is.length * 6) (.int .i64 sk) (.string snm) (.slice na nn nc) (.slice aa an ac) (.string sp) (.slice ka kn2 kc))) ⟨pb, 5, none⟩ (.slice (some ⟨g, 0, none⟩) (is.length + 1) cp)) (show (World.heap (World.setCell ((sixW (w4) g (is.length * 6) (.int .i64 sk) (.string snm) (.slice na nn nc) (.slice aa an ac) (.string sp) (.slice ka kn2 kc))) ⟨pb, 5, none⟩ (.slice (some ⟨g, 0, none⟩) (is.length + 1) cp)))[wr.heap.size]? = _ from (Below.heap_setCell _ _ _ _ (show wr.heap.size ≠ pb from HNE.out.2.1)).trans hS) (fun hS => ?_)
   clear hK K
   refine wpAnyH_done (by kernel_rfl) ?_ _
   have HF := hidd HF2.out.1
   generalize (World.setCell ((sixW (w4) g (is.length * 6) (.int .i64 sk) (.string snm) (.slice na nn nc) (.slice aa an ac) (.string sp) (.slice ka kn2 kc))) ⟨pb, 5, none⟩ (.slice (some ⟨g, 0, none⟩) (is.length + 1) cp)) = Wf at HF ⊢
   clear HF2 HG HP4 hS
   go_wp2_with fail
   go_roundw
   case rel => exact ⟨j + 1, { s' with imports := s'.imports ++ [Se.mk sk snm sns sas sp sks] }, hlt, by go_num, HF.out.1, HF.out.2.1, HST2.out, HF.out.2.2⟩
   case measure => simp [intOf]; omega
  have hpu : (World.heap (w4))[pb]? = _ := HP4.out
  have y5 := (cellO hpu (q := 5)).trans rfl
  have u5 := looseO hpu (q := 5)
  clear hpu
  go_simp
  clear y5 u5
  refine hK.out _ (World.setCell (w4) ⟨pb, 5, none⟩ (.slice (some ⟨g, 0, none⟩) (is.length + 1) cp)) (show (World.heap (World.setCell (w4) ⟨pb, 5, none⟩ (.slice (some ⟨g, 0, none⟩) (is.length + 1) cp)))[wr.heap.size]? = _ from (Below.heap_setCell _ _ _ _ (show wr.heap.size ≠ pb from HNE.out.2.1)).trans hS) (fun hS => ?_)
  clear hK K
  refine wpAnyH_ready (rs := [11]) (by kernel_rfl) (by simp) (AllReadyH.cons (o := { dst := none, op := Op.store 73 (Operand.tmp 30) (Operand.tmp 26), type := 0, pos := _, after := _, guard := none }) rfl (fun K hK => ?_) AllReadyH.nil)
  obtain ⟨x0, x1, x2, x3, x4, x5, y0, y1, y2, y3, y4, y5, u0, u1, u2, u3, u4, u5⟩ := six_in (show (World.heap ((World.setCell (w4) ⟨pb, 5, none⟩ (.slice (some ⟨g, 0, none⟩) (is.length + 1) cp))))[g]? = _ from (Below.heap_setCell _ _ _ _ (show g ≠ pb from HNE.out.2.2)).trans HG.out.1) (is.length * 6) (by have := HG.out.2; omega)
  go_simp
  clear y0 u0 y1 u1 y2 u2 y3 u3 y4 u4 y5 u5
  refine hK.out _ (sixW ((World.setCell (w4) ⟨pb, 5, none⟩ (.slice (some ⟨g, 0, none⟩) (is.length + 1) cp))) g (is.length * 6) (.int .i64 sk) (.string snm) (.slice na nn nc) (.slice aa an ac) (.string sp) (.slice ka kn2 kc)) (show (World.heap (sixW ((World.setCell (w4) ⟨pb, 5, none⟩ (.slice (some ⟨g, 0, none⟩) (is.length + 1) cp))) g (is.length * 6) (.int .i64 sk) (.string snm) (.slice na nn nc) (.slice aa an ac) (.string sp) (.slice ka kn2 kc)))[wr.heap.size]? = _ from (sixW_far _ g _ _ HNE.out.1 _ _ _ _ _ _).trans hS) (fun hS => ?_)
  clear hK K
  refine wpAnyH_done (by kernel_rfl) ?_ _
  have HF := hidd HF2.out.2
  generalize (sixW ((World.setCell (w4) ⟨pb, 5, none⟩ (.slice (some ⟨g, 0, none⟩) (is.length + 1) cp))) g (is.length * 6) (.int .i64 sk) (.string snm) (.slice na nn nc) (.slice aa an ac) (.string sp) (.slice ka kn2 kc)) = Wf at HF ⊢
  clear HF2 HG HP4 hS
  go_wp2_with fail
  go_roundw
  case rel => exact ⟨j + 1, { s' with imports := s'.imports ++ [Se.mk sk snm sns sas sp sks] }, hlt, by go_num, HF.out.1, HF.out.2.1, HST2.out, HF.out.2.2⟩
  case measure => simp [intOf]; omega
end Go.Proofs.YtonafbennobgdaaGreatDoor
