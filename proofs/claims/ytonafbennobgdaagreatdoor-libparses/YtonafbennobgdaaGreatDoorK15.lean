/- Chapter 3: whether a name is taken. -/
import Derived.Laws.EntriesVeiled
import Derived.Test.YtonafbennobgdaaGreatDoorK14
namespace Go.Proofs.YtonafbennobgdaaGreatDoor
set_option linter.unusedVariables false
set_option linter.unusedSimpArgs false
open Go.RowKit
set_option maxRecDepth 100000
set_option maxHeartbeats 6400000
theorem exp_eq (x y nm : ByteArray) (eb : Nat) (w : World) (he : w.cell? ⟨eb, 0, none⟩ = some (.string nm)) (hl : eb < w.heap.size) : Calls Tryz.prog 129 #[.agg #[.string x, .string y], .pointer (some ⟨eb, 0, none⟩)] w fun e w' => e = .returned (.bool (decide (x = nm))) ∧ Below w.heap.size w w' := by
 have hb : Below w.heap.size w (w.alloc (.cells #[.string x, .string y] 70)) := (Below.refl _ _).alloc (Nat.le_refl _) _
 have e1 : (w.alloc (.cells #[.string x, .string y] 70)).cell? ⟨eb, 0, none⟩ = some (.string nm) := (hb.cell (p := ⟨eb, 0, none⟩) hl).trans he
 have HB := hidd hb
 clear hb he
 by_cases h : x = nm
 ·have c : (x.toList == nm.toList) = true := by rw [h]; simp
  rw [decide_eq_true h]
  clear h
  go_enter Tryz.func129, Tryz.ntmps129
  go_wp2_with fail
  go_ret
  exact ⟨rfl, HB.out⟩
 have c := beqS_ne h
 rw [decide_eq_false h]
 clear h
 go_enter Tryz.func129, Tryz.ntmps129
 go_wp2_with fail
 go_ret
 exact ⟨rfl, HB.out⟩
theorem flatE_at : ∀ {ex : List (ByteArray × ByteArray)} {j : Nat} {p : ByteArray × ByteArray}, ex[j]? = some p → (flatE ex)[j * 2]? = some (.string p.1) ∧ (flatE ex)[j * 2 + 1]? = some (.string p.2)
 | [], j, p, h => by simp at h
 | q :: r, 0, p, h => by simp at h; subst h; exact ⟨rfl, rfl⟩
 | q :: r, j + 1, p, h => by
  have := flatE_at (ex := r) (j := j) (p := p) (by simpa using h)
  rw [show (j + 1) * 2 = j * 2 + 2 by omega]
  exact this
def PrR (w : World) (ex : List (ByteArray × ByteArray)) (a : Option Addr) : Prop := ∀ j p, ex[j]? = some p → ∃ g, a = some ⟨g, 0, none⟩ ∧ g < w.heap.size ∧ w.cell? ⟨g, j * 2, none⟩ = some (.string p.1) ∧ w.cell? ⟨g, j * 2 + 1, none⟩ = some (.string p.2)
theorem PrR.of {B : Nat} {w : World} {ex : List (ByteArray × ByteArray)} {a : Option Addr} {c : Nat} (h : w.ownsRow B 70 2 (.slice a ex.length c) ex.length (flatE ex)) : PrR w ex a := fun j p hj => by
 have hpos : 0 < ex.length := by have := (List.getElem?_eq_some_iff.1 hj).1; omega
 obtain ⟨g, cap, he, h1, h2⟩ := World.ownsRow.form h hpos
 cases he
 have q := flatE_at hj
 have c0 := World.ownsRow.cells h (g := g) rfl _ _ q.1
 have c1 := World.ownsRow.cells h (g := g) rfl _ _ q.2
 rw [addr_add] at c0 c1
 exact ⟨g, rfl, h2, c0, c1⟩
theorem expIndex_any (ex : List (ByteArray × ByteArray)) (nm : ByteArray) (a : Option Addr) (cap eb : Nat) (w : World) (hn : ex.length ≤ 200) (hl : PrR w ex a) (he : w.cell? ⟨eb, 0, none⟩ = some (.string nm)) (hlt : eb < w.heap.size) :
 Calls Tryz.prog 142 #[.slice a ex.length cap, .func (.func 129) #[] #[.pointer (some ⟨eb, 0, none⟩)]] w fun e w' => Below w.heap.size w w' ∧ ∃ k : Int, e = .returned (.int .i64 k) ∧ -1 ≤ k ∧ k ≤ 200 ∧ decide (k ≥ 0) = ex.any (fun x => decide (x.1 = nm)) := by
 have HEQ : Hid (∀ x y W, Below w.heap.size w W → Calls Tryz.prog 129 #[.agg #[.string x, .string y], .pointer (some ⟨eb, 0, none⟩)] W fun e w' => e = .returned (.bool (decide (x = nm))) ∧ Below W.heap.size W w') := fun x y W hb => exp_eq x y nm eb W ((hb.cell (p := ⟨eb, 0, none⟩) hlt).trans he) (Nat.lt_of_lt_of_le hlt hb.size)
 have HR : Hid (∀ W j p, Below w.heap.size w W → ex[j]? = some p → ∃ g, a = some ⟨g, 0, none⟩ ∧ W.cell? ⟨g, j * 2, none⟩ = some (.string p.1) ∧ W.cell? ⟨g, j * 2 + 1, none⟩ = some (.string p.2)) := fun W j p hb hj => by
  obtain ⟨g, h1, h2, h3, h4⟩ := hl j p hj
  exact ⟨g, h1, (hb.cell (p := ⟨g, j * 2, none⟩) h2).trans h3, (hb.cell (p := ⟨g, j * 2 + 1, none⟩) h2).trans h4⟩
 have HL : Hid (∀ j, j < ex.length → ∃ d, ex[j]? = some d) := fun j hj => ⟨_, List.getElem?_eq_getElem hj⟩
 obtain ⟨n, hn'⟩ : ∃ n, n = ex.length := ⟨_, rfl⟩
 have HN := hidd hn'
 rw [← hn'] at hn HL ⊢
 clear hl he hlt hn'
 go_enter Tryz.func142, Tryz.ntmps142
 go_wp2_with fail
 go_loopw [5, 8] (fun _ ix wr => ∃ (j : Nat), j ≤ n ∧ ix = .int .i64 j ∧ Hid (Below w.heap.size w wr ∧ ex.any (fun x => decide (x.1 = nm)) = (ex.drop j).any (fun x => decide (x.1 = nm)))) (fun _ ix _ => n - (intOf ix).toNat)
 case atStart => exact ⟨0, Nat.zero_le _, rfl, Below.refl _ _, by rw [List.drop_zero]⟩
 obtain ⟨j, hj, rfl, HI⟩ := hrel
 by_cases hlt : j < n
 rotate_left
 ·obtain rfl : j = n := by omega
  have HE : Hid (ex.any (fun x => decide (x.1 = nm)) = false) := by
   show _ = _
   rw [HI.out.2, List.drop_eq_nil_of_le (by rw [← HN.out]; exact Nat.le_refl _)]
   rfl
  go_wp2_with fail
  go_ret
  exact ⟨HI.out.1, -1, rfl, by omega, by omega, by rw [HE.out]; rfl⟩
 obtain ⟨p, hp⟩ := HL.out j hlt
 obtain ⟨g, rfl, c0, c1⟩ := HR.out wr j p HI.out.1 hp
 have i1 : (0 : Int) ≤ (j : Int) := by omega
 have i2 : (j : Int) < (n : Int) := by omega
 have HC := hidd (HEQ.out p.1 p.2 wr HI.out.1)
 have HD : Hid ((ex.drop j).any (fun x => decide (x.1 = nm)) = (decide (p.1 = nm) || (ex.drop (j + 1)).any (fun x => decide (x.1 = nm)))) := by
  show _ = _
  obtain ⟨hi, e⟩ := List.getElem?_eq_some_iff.1 hp
  rw [List.drop_eq_getElem_cons hi, e, List.any_cons]
 clear hp
 obtain ⟨p1, p2⟩ := p
 simp only at c0 c1 HC HD
 by_cases hq : p1 = nm
 ·rw [decide_eq_true hq] at HC HD
  have HE : Hid (ex.any (fun x => decide (x.1 = nm)) = true) := by show _ = _; rw [HI.out.2, HD.out, Bool.true_or]
  clear hq
  go_wp2_with fail
  refine HC.out.mono ?_
  rintro e w2 ⟨rfl, hb2⟩
  have HB2 : Hid (Below w.heap.size w w2) := HI.out.1.trans (hb2.mono HI.out.1.size)
  clear hb2
  go_wp2_with fail
  go_ret
  exact ⟨HB2.out, j, rfl, by omega, by omega, by rw [HE.out]; simp⟩
 rw [decide_eq_false hq] at HC HD
 have HE : Hid (ex.any (fun x => decide (x.1 = nm)) = (ex.drop (j + 1)).any (fun x => decide (x.1 = nm))) := by show _ = _; rw [HI.out.2, HD.out, Bool.false_or]
 clear hq
 go_wp2_with fail
 refine HC.out.mono ?_
 rintro e w2 ⟨rfl, hb2⟩
 have HB2 : Hid (Below w.heap.size w w2) := HI.out.1.trans (hb2.mono HI.out.1.size)
 clear hb2
 go_wp2_with fail
 go_roundw
 case rel => exact ⟨j + 1, hlt, by go_num, HB2.out, HE.out⟩
 case measure => simp [intOf]; omega
theorem expHas_any (ex : List (ByteArray × ByteArray)) (nm : ByteArray) (a : Option Addr) (cap eb : Nat) (w : World) (hn : ex.length ≤ 200) (hl : PrR w ex a) (he : w.cell? ⟨eb, 0, none⟩ = some (.string nm)) (hlt : eb < w.heap.size) :
 Calls Tryz.prog 128 #[.slice a ex.length cap, .func (.func 129) #[] #[.pointer (some ⟨eb, 0, none⟩)]] w fun e w' => Below w.heap.size w w' ∧ e = .returned (.bool (ex.any (fun x => decide (x.1 = nm)))) := by
 have HI := hidd (expIndex_any ex nm a cap eb w hn hl he hlt)
 clear hn hl he hlt
 generalize ex.any (fun x => decide (x.1 = nm)) = r at *
 generalize ex.length = n at *
 go_enter Tryz.func128, Tryz.ntmps128
 go_wp2_with fail
 refine HI.out.mono ?_
 rintro e w1 ⟨hb1, k, rfl, k1, k2, hk⟩
 have HB1 := hidd hb1
 have hk' : decide (0 ≤ k) = r := hk
 clear hb1
 cases r
 ·go_wp2_with fail
  go_ret
  exact ⟨HB1.out, rfl⟩
 go_wp2_with fail
 go_ret
 exact ⟨HB1.out, rfl⟩
def ToldP (B pb : Nat) (f1 f2 f3 : Value) (r : Er LibS) (w : World) (e : Ending) (w' : World) : Prop :=
 BT B w w' ∧ match r with
  | .ok s => e = .returned (.tuple #[]) ∧ PS B pb f1 f2 f3 s w'
  | .no x => e = .panicked (thrownL x)
theorem PS.hs {B pb : Nat} {f1 f2 f3 : Value} {s : LibS} {w : World} (h : PS B pb f1 f2 f3 s w) : B ≤ w.heap.size := by
 obtain ⟨_, _, _, _, _, h1, _⟩ := h
 exact h1.hs
theorem cell_allocL {W : World} {a : Addr} {v : Value} (o : Obj) (h : W.cell? a = some v) : (W.alloc o).cell? a = some v := by
 rw [World.cell?_alloc_old _ _ _ (Nat.ne_of_lt (World.block_lt_of_cell? _ _ h))]; exact h
theorem news2 (w : World) (v0 v1 : Value) (t : TypeId) : ∀ j u, [v0, v1][j]? = some u → (w.alloc (.cells #[v0, v1] t)).cell? ((⟨w.heap.size, 0, none⟩ : Addr).add j) = some u := by
 intro j u hj
 rw [addr_add, cellO (World.alloc_heap_new w _)]
 simpa using hj
theorem infoPairL : (Tryz.prog.info? 70).map (fun i => (i.zero, i.size, i.bytes)) = some (some (.agg #[.string ⟨#[]⟩, .string ⟨#[]⟩]), 2, 32) := by kernel_rfl
theorem exportsF_at {ds : List Dat} {j : Nat} {d : Dat} {s s' : LibS} (h : ds[j]? = some d) (hl : exportsF ds s = exportsF (ds.drop j) s') : exportsF ds s = (exportF d).bind fun e =>
 if s'.exports.any (fun x => decide (x.1 = e.1)) then .no 8
 else if s'.exports.length < 200 then exportsF (ds.drop (j + 1)) { s' with exports := s'.exports ++ [e] }
 else .no 5 := by
 obtain ⟨hi, e⟩ := List.getElem?_eq_some_iff.1 h
 rw [hl, List.drop_eq_getElem_cons hi, e, exportsF]
theorem flatE_append (a b : List (ByteArray × ByteArray)) : flatE (a ++ b) = flatE a ++ flatE b := by simp [flatE]
set_option maxRecDepth 100000 in
set_option maxHeartbeats 12800000 in
theorem exports_any (A B pb f : Nat) (f1 f2 f3 : Value) (s : LibS) (ds : List Dat) (a : Option Addr) (cap : Nat) (w : World) (hA : A ≤ B) (hp : PS B pb f1 f2 f3 s w) (hd : Dc (fun k => k < A) w f a ds) (hn : ds.length ≤ 2000) (hc : ds.length ≤ cap) (ho : okL ds) (hs : s.name ≠ ⟨#[]⟩) (he : s.exports.length ≤ 200) :
 Calls Tryz.prog 107 #[.pointer (some ⟨pb, 0, none⟩), .slice a ds.length cap] w (ToldP B pb f1 f2 f3 (exportsF ds s) w) := by
 have HD : Hid (∀ W j d, Below B w W → ds[j]? = some d → ∃ b o a' cap' g, a = some ⟨b, o, none⟩ ∧ f = g + 1 ∧ DAt (fun k => k < A) W b (o + j * 6) d a' cap' ∧ Dc (fun k => k < A) W g a' d.kids) := fun W j d hb hj => by
  obtain ⟨g, b, o, a', cap', h0, h1, h2, h3⟩ := hd.at hj
  exact ⟨b, o, a', cap', g, h1, h0, h2.below (hb.mono hA), h3.below (hb.mono hA)⟩
 have HO : Hid (∀ d ∈ ds, okD d) := okL_mem ho
 have HL : Hid (∀ j, j < ds.length → ∃ d, ds[j]? = some d) := fun j hj => ⟨_, List.getElem?_eq_getElem hj⟩
 obtain ⟨i0, hinf, hz0, hz1, hz2⟩ := info_partsL infoPairL
 obtain ⟨n, hn'⟩ : ∃ n, n = ds.length := ⟨_, rfl⟩
 have HN := hidd hn'
 rw [← hn'] at hn hc HL ⊢
 have HS : Hid (s.exports.length ≤ 200) := he
 have HY := hidd must_yes
 have HX0 := hidd must_no
 have hne := beqS_ne hs
 have hne' : s.name.toList.isEmpty = false := by simpa using hne
 have HP := hidd hp
 have HA := hidd hA
 obtain ⟨is, es, ev, iv, bv, hp1, hp2, hp3⟩ := hp
 have c3 : w.cell? ⟨pb, 3, none⟩ = some (.string s.name) := (cellO hp1.blk).trans rfl
 clear hp1 hp2 hp3 hd ho hs he hn' hA
 go_enter Tryz.func107, Tryz.ntmps107
 go_wp2_with fail
 refine (HY.out _ _).mono ?_
 rintro e w1 ⟨rfl, rfl⟩
 go_wp2_with fail
 go_loopw [5, 6, 7, 17] (fun _ _ _ ix wr => ∃ (j : Nat) (s' : LibS), j ≤ n ∧ ix = .int .i64 j ∧ Hid (BT B w1 wr ∧ PS B pb f1 f2 f3 s' wr ∧ exportsF ds s = exportsF (ds.drop j) s' ∧ s'.exports.length ≤ 200)) (fun _ _ _ ix _ => n - (intOf ix).toNat)
 case atStart => exact ⟨0, s, Nat.zero_le _, rfl, BT.refl _ _, HP.out, by rw [List.drop_zero], HS.out⟩
 obtain ⟨j, s', hj, rfl, HR⟩ := hrel
 by_cases hlt : j < n
 rotate_left
 ·obtain rfl : j = n := by omega
  have HE : Hid (exportsF ds s = .ok s') := by
   show _ = _
   rw [HR.out.2.2.1, List.drop_eq_nil_of_le (by rw [← HN.out]; exact Nat.le_refl _), exportsF]
  go_wp2_with fail
  go_end0
  refine ⟨HR.out.1, ?_⟩
  rw [HE.out]
  exact ⟨rfl, HR.out.2.1⟩
 obtain ⟨d, hdj⟩ := HL.out j hlt
 obtain ⟨b, o, a', cap', g0, rfl, hf0, hA, hK⟩ := HD.out wr j d HR.out.1.toBelow hdj
 obtain ⟨_, c0, c1, c2, c3, c4, c5, hnm, hlk⟩ := hA
 have i1 : (0 : Int) ≤ (j : Int) := by omega
 have i2 : (j : Int) < (n : Int) := by omega
 have HB1 : Hid (Below wr.heap.size wr (wr.alloc (.cells #[.int .i64 d.kind, .int .i64 d.n, .string d.name, .int .i64 d.stamp, .int .i64 d.lib, .slice a' d.kids.length cap'] 26))) := (Below.refl _ _).alloc (Nat.le_refl _) _
 have hBr : B ≤ wr.heap.size := PS.hs HR.out.2.1
 have EX0 : ∀ W, Below wr.heap.size wr W → Calls Tryz.prog 127 #[dv d a' cap'] W (ToldE (exportF d) (fun p v _ => v = .agg #[.string p.1, .string p.2]) W) := fun W hb => export_any A g0 d a' cap' W (Nat.le_trans HA.out (Nat.le_trans hBr hb.size)) (hK.below (hb.mono (Nat.le_trans HA.out hBr))) hlk (HO.out d (List.mem_of_getElem? hdj))
 have hst := exportsF_at hdj HR.out.2.2.1
 unfold dv at EX0
 clear hK hf0 hdj hnm hlk
 generalize d.kids.length = kn at *
 cases hE : exportF d with
 | no x =>
  rw [hE] at EX0 hst
  have EX : Hid (∀ W, Below wr.heap.size wr W → Calls Tryz.prog 127 #[.agg #[.int .i64 d.kind, .int .i64 d.n, .string d.name, .int .i64 d.stamp, .int .i64 d.lib, .slice a' kn cap']] W fun e w' => Below W.heap.size W w' ∧ e = .panicked (thrownL x)) := EX0
  have HST : Hid (exportsF ds s = .no x) := hst
  clear EX0 hst hE
  go_wp2_with fail
  refine (EX.out _ HB1.out).mono ?_
  rintro e w2 ⟨hb2, rfl⟩
  have HB2 : Hid (BT B w1 w2) := HR.out.1.trans ((HB1.out.trans (hb2.mono HB1.out.size)).bt hBr)
  clear hb2
  go_wp2_with fail
  refine ⟨rfl, HB2.out, ?_⟩
  rw [HST.out]
 | ok p =>
  obtain ⟨p1, p2⟩ := p
  rw [hE] at EX0 hst
  have EX : Hid (∀ W, Below wr.heap.size wr W → Calls Tryz.prog 127 #[.agg #[.int .i64 d.kind, .int .i64 d.n, .string d.name, .int .i64 d.stamp, .int .i64 d.lib, .slice a' kn cap']] W fun e w' => Below W.heap.size W w' ∧ ∃ v, e = .returned v ∧ v = .agg #[.string p1, .string p2]) := EX0
  have HST : Hid (exportsF ds s = if s'.exports.any (fun x => decide (x.1 = p1)) then .no 8 else if s'.exports.length < 200 then exportsF (ds.drop (j + 1)) { s' with exports := s'.exports ++ [(p1, p2)] } else .no 5) := hst
  clear EX0 hst hE
  go_wp2_with fail
  refine (EX.out _ HB1.out).mono ?_
  rintro e w2 ⟨hb2, v, rfl, rfl⟩
  have hb3 : Below wr.heap.size wr (w2.alloc (.cells #[.string p1, .string p2] 70)) := (HB1.out.trans (hb2.mono HB1.out.size)).alloc (Nat.le_trans HB1.out.size hb2.size) _
  obtain ⟨is, es, ev, iv, bv, h1, h2, h3⟩ := HR.out.2.1
  obtain ⟨ea, ec, rfl, hec⟩ := own_sliceL h1.eo
  have h1' := h1.below hb3
  have c4e : (w2.alloc (.cells #[.string p1, .string p2] 70)).cell? ⟨pb, 4, none⟩ = some (.slice ea s'.exports.length ec) := (cellO h1'.blk).trans rfl
  have bx : (w2.alloc (.cells #[.string p1, .string p2] 70)).heap[w2.heap.size]? = some (.cells #[.string p1, .string p2] 70 (0, 0)) := World.alloc_heap_new w2 _
  have EH := hidd (expHas_any s'.exports p1 ea ec w2.heap.size _ HR.out.2.2.2 (PrR.of h1'.eo) ((cellO bx).trans rfl) (by simp))
  have H1 : Hid (PSx B pb f1 f2 f3 s'.name s'.exports is es (.slice ea s'.exports.length ec) iv bv (w2.alloc (.cells #[.string p1, .string p2] 70)) ∧ is.map IE.s = s'.imports ∧ es.map (·.1) = s'.body) := ⟨h1', h2, h3⟩
  have HB3 : Hid (BT B w1 (w2.alloc (.cells #[.string p1, .string p2] 70))) := HR.out.1.trans (hb3.bt hBr)
  have HBX := hidd bx
  have HEL := hidd HR.out.2.2.2
  obtain ⟨W3, hW3⟩ : ∃ W3, W3 = w2.alloc (.cells #[.string p1, .string p2] 70) := ⟨_, rfl⟩
  obtain ⟨eb, heb⟩ : ∃ eb, eb = w2.heap.size := ⟨_, rfl⟩
  have hw3 := hW3.symm
  rw [hw3, ← heb] at EH
  rw [hw3] at H1 HB3 HBX c4e
  rw [← heb] at HBX
  have hxl : s'.exports.length ≤ 200 := HEL.out
  have heb' := heb.symm
  clear hb2 hb3 h1 h2 h3 h1' bx hec EX hW3 heb
  go_wp2_with fail
  clear hw3 heb'
  refine EH.out.mono ?_
  rintro e w4 ⟨hb4, rfl⟩
  have H4 : Hid (PSx B pb f1 f2 f3 s'.name s'.exports is es (.slice ea s'.exports.length ec) iv bv w4) := H1.out.1.below hb4
  have c4f : w4.cell? ⟨pb, 4, none⟩ = some (.slice ea s'.exports.length ec) := (cellO H4.out.blk).trans rfl
  have hel : eb < W3.heap.size := (Array.getElem?_eq_some_iff.1 HBX.out).1
  have bx4 : w4.heap[eb]? = some (.cells #[.string p1, .string p2] 70 (0, 0)) := (hb4.block _ hel).trans HBX.out
  have e0 : w4.cell? ⟨eb, 0, none⟩ = some (.string p1) := (cellO bx4).trans rfl
  have e1 : w4.cell? ⟨eb, 1, none⟩ = some (.string p2) := (cellO bx4).trans rfl
  have HB4 : Hid (BT B w1 w4) := HB3.out.trans (hb4.bt (PS.hs ⟨is, es, _, iv, bv, H1.out.1, H1.out.2⟩))
  clear hb4 EH c4e hel bx4
  generalize s'.exports.any (fun x => decide (x.1 = p1)) = tk at *
  cases tk with
  | true =>
   have HST' : Hid (exportsF ds s = .no 8) := HST.out
   clear HST
   go_wp2_with fail
   refine (HX0.out _ _).mono ?_
   rintro e w5 ⟨rfl, rfl⟩
   go_wp2_with fail
   refine ⟨rfl, HB4.out, ?_⟩
   rw [HST'.out]
  | false =>
   have HST' : Hid (exportsF ds s = if s'.exports.length < 200 then exportsF (ds.drop (j + 1)) { s' with exports := s'.exports ++ [(p1, p2)] } else .no 5) := HST.out
   clear HST
   by_cases hlen : s'.exports.length < 200
   ·have HST2 : Hid (exportsF ds s = exportsF (ds.drop (j + 1)) { s' with exports := s'.exports ++ [(p1, p2)] }) := by
     show _ = _
     rw [HST'.out, if_pos hlen]
    clear HST'
    have k1 : (s'.exports.length : Int) < 200 := by omega
    have k2 : decide ((s'.exports.length : Int) < 200) = true := by simpa using k1
    clear hlen hxl
    go_wp2_with fail
    refine (HY.out _ _).mono ?_
    rintro e w5 ⟨rfl, rfl⟩
    go_wp2_with fail
    refine (HY.out _ _).mono ?_
    rintro e w6 ⟨rfl, rfl⟩
    have HBN : Hid (Below w6.heap.size w6 (w6.alloc (.cells #[.string p1, .string p2] 70)).drew) := ((Below.refl _ w6).alloc (Nat.le_refl _) _).drew
    have H6 : Hid (PSx B pb f1 f2 f3 s'.name s'.exports is es (.slice ea s'.exports.length ec) iv bv (w6.alloc (.cells #[.string p1, .string p2] 70)).drew) := H4.out.below HBN.out
    have d4a := cell_allocL (.cells #[.string p1, .string p2] 70) c4f
    have HXL : Hid (s'.exports.length ≤ 200) := by show _ ≤ _; omega
    go_upto_region 8 with fail
    go_region_law (refine step_append_lies _ rfl (.tmp 46) (.tmp 48) 27 rfl B 70 i0 _ 2 32 Tryz.underlying27 hinf hz0 hz1 hz2 rfl (by decide) (.slice ea s'.exports.length ec) s'.exports.length (flatE s'.exports) rfl (by exact H6.out.eo) ⟨w6.heap.size, 0, none⟩ 1 1 [.string p1, .string p2] rfl rfl (by exact news2 w6 _ _ 70) (by intro u hu; simp at hu; rcases hu with rfl | rfl <;> rfl) (by decide) (by have := HXL.out; unfold maxLen; omega) (by have := HXL.out; omega) (by exact PSx.hs H6.out) (w6.heap.size + 1) (by simp) ?_; intro g cp w7 hown hgrow hat hlt4; have hp7 : w7.heap[pb]? = _ := (hgrow.block pb (Array.getElem?_eq_some_iff.1 H6.out.blk).1 (fun e => own_pb H6.out.eo H6.out.blk (by decide) e.symm rfl)).trans H6.out.blk; have r4 : w7.cell? ⟨pb, 4, none⟩ = some (.slice ea s'.exports.length ec) := (cellO hp7).trans rfl; have z4 : w7.frozen? ⟨pb, 4, none⟩ = false := looseO hp7)
    all_goals
     have HKT := hidd (kt_grow (q := 4) (v' := .slice (some ⟨g, 0, none⟩) (s'.exports.length + 1) cp) H6.out.eo (by decide) H6.out.blk hgrow)
     have HX := hidd (PSx.exps (new := [(p1, p2)]) H6.out (by rw [flatE_append]; exact hown) (by simp) hgrow (by rcases hat with h | h; exact Or.inl h.symm; exact Or.inr (congrArg some (h.trans (show w6.heap.size + 1 = (w6.alloc _).heap.size by simp)))))
     have HF : Hid (BT B w1 (w7.setCell ⟨pb, 4, none⟩ (.slice (some ⟨g, 0, none⟩) (s'.exports.length + 1) cp)) ∧ PS B pb f1 f2 f3 { s' with exports := s'.exports ++ [(p1, p2)] } (w7.setCell ⟨pb, 4, none⟩ (.slice (some ⟨g, 0, none⟩) (s'.exports.length + 1) cp)) ∧ (s'.exports ++ [(p1, p2)]).length ≤ 200) := ⟨HB4.out.trans ((HBN.out.bt (PSx.hs H4.out)).trans ⟨HX.out.2, HKT.out⟩), ⟨is, es, _, iv, bv, HX.out.1, H1.out.2.1, H1.out.2.2⟩, by simp; omega⟩
     clear hown hgrow hat hlt4 hp7 HX r4 z4
     go_wp2_with fail
     go_roundw
     case rel => exact ⟨j + 1, { s' with exports := s'.exports ++ [(p1, p2)] }, hlt, by go_num, HF.out.1, HF.out.2.1, HST2.out, HF.out.2.2⟩
     case measure => simp [intOf]; omega
   have HST2 : Hid (exportsF ds s = .no 5) := by
    show _ = _
    rw [HST'.out, if_neg hlen]
   clear HST'
   have k1 : ¬ (s'.exports.length : Int) < 200 := by omega
   have k2 : decide ((s'.exports.length : Int) < 200) = false := by simpa using k1
   clear hlen hxl
   go_wp2_with fail
   refine (HY.out _ _).mono ?_
   rintro e w5 ⟨rfl, rfl⟩
   go_wp2_with fail
   refine (HX0.out _ _).mono ?_
   rintro e w6 ⟨rfl, rfl⟩
   go_wp2_with fail
   refine ⟨rfl, HB4.out, ?_⟩
   rw [HST2.out]
theorem set_six (X Z : List Value) (n : Nat) (hX : X.length = n * 6) (hZ : Z.length = 6) (cur : Array Value) (h : cur.toList.take ((n + 1) * 6) = X ++ Z) (v0 v1 v2 v3 v4 v5 : Value) :
 ((((((cur.setIfInBounds (n * 6) v0).setIfInBounds (n * 6 + 1) v1).setIfInBounds (n * 6 + 2) v2).setIfInBounds (n * 6 + 3) v3).setIfInBounds (n * 6 + 4) v4).setIfInBounds (n * 6 + 5) v5).toList.take ((n + 1) * 6) = X ++ [v0, v1, v2, v3, v4, v5] := by
 match Z, hZ with
 | [z0, z1, z2, z3, z4, z5], _ =>
  simp only [Array.toList_setIfInBounds, List.take_set, h]
  have e : ∀ (i : Nat) (v : Value) (Y : List Value), (X ++ Y).set (n * 6 + i) v = X ++ Y.set i v := fun i v Y => by
   rw [List.set_append_right _ _ (by omega), show n * 6 + i - X.length = i by omega]
  have e0 : ∀ (v : Value) (Y : List Value), (X ++ Y).set (n * 6) v = X ++ Y.set 0 v := fun v Y => e 0 v Y
  rw [e0, e, e, e, e, e]
  try rfl
theorem own_six {B n : Nat} {v : Value} {w : World} {X Z : List Value} {t : TypeId} (h : w.ownsRow B t 6 v (n + 1) (X ++ Z)) (hX : X.length = n * 6) (hZ : Z.length = 6) :
 ∃ g cap cur, v = .slice (some ⟨g, 0, none⟩) (n + 1) cap ∧ B ≤ g ∧ g < w.heap.size ∧ w.heap[g]? = some (.cells cur t (0, 0)) ∧ (n + 1) * 6 ≤ cur.size ∧
  ∀ (v0 v1 v2 v3 v4 v5 : Value) (W : World), W.heap[g]? = some (.cells ((((((cur.setIfInBounds (n * 6) v0).setIfInBounds (n * 6 + 1) v1).setIfInBounds (n * 6 + 2) v2).setIfInBounds (n * 6 + 3) v3).setIfInBounds (n * 6 + 4) v4).setIfInBounds (n * 6 + 5) v5) t (0, 0)) → W.ownsRow B t 6 v (n + 1) (X ++ [v0, v1, v2, v3, v4, v5]) := by
 obtain ⟨h1, h2⟩ := h
 rcases h2 with ⟨_, h0⟩ | ⟨g, cap, cur, rfl, hbg, hg, hnc, hcm, hcs, htake⟩
 ·exact absurd h0 (by omega)
 refine ⟨g, cap, cur, rfl, hbg, (Array.getElem?_eq_some_iff.1 hg).1, hg, by rw [hcs]; exact Nat.mul_le_mul_right _ hnc, fun v0 v1 v2 v3 v4 v5 W hW => ?_⟩
 refine ⟨by simp [hX]; omega, Or.inr ⟨g, cap, _, rfl, hbg, hW, hnc, hcm, by simpa using hcs, ?_⟩⟩
 exact set_six X Z n hX hZ cur htake v0 v1 v2 v3 v4 v5
theorem flatI_append (a b : List IE) : flatI (a ++ b) = flatI a ++ flatI b := by simp [flatI]
theorem flatI_len : ∀ (is : List IE), (flatI is).length = is.length * 6
 | [] => rfl
 | e :: r => by
  have : flatI (e :: r) = e.cells ++ flatI r := by simp [flatI]
  rw [this, List.length_append, flatI_len r]
  obtain ⟨s, nv, av, kv⟩ := e
  cases s
  simp [IE.cells]
  omega
def zeroI : List Value := [.int .i64 0, .string ⟨#[]⟩, .slice none 0 0, .slice none 0 0, .string ⟨#[]⟩, .slice none 0 0]
theorem imp_end {B pb g cp : Nat} {f1 f2 f3 : Value} {nm : ByteArray} {ex : List (ByteArray × ByteArray)} {is : List IE} {es : List (Dat × Option Addr × Nat)} {ev iv bv : Value} {w1 w2 W : World} {e : IE} (h : PSx B pb f1 f2 f3 nm ex is es ev iv bv w1) (hn : e.ok (Fre B pb ev iv bv w1) w1)
 (hown : w2.ownsRow B 73 6 (.slice (some ⟨g, 0, none⟩) (is.length + 1) cp) (is.length + 1) (flatI is ++ zeroI)) (hgrow : w1.grownBy w2 iv.ownBlock) (hat : iv.ownBlock = some g ∨ g = w1.heap.size)
 {cur : Array Value} (hcur : w2.heap[g]? = some (.cells cur 73 (0, 0))) {v0 v1 v2 v3 v4 v5 : Value} (hv : e.cells = [v0, v1, v2, v3, v4, v5])
 (hset : ∀ (v0 v1 v2 v3 v4 v5 : Value) (W : World), W.heap[g]? = some (.cells ((((((cur.setIfInBounds (is.length * 6) v0).setIfInBounds (is.length * 6 + 1) v1).setIfInBounds (is.length * 6 + 2) v2).setIfInBounds (is.length * 6 + 3) v3).setIfInBounds (is.length * 6 + 4) v4).setIfInBounds (is.length * 6 + 5) v5) 73 (0, 0)) → W.ownsRow B 73 6 (.slice (some ⟨g, 0, none⟩) (is.length + 1) cp) (is.length + 1) (flatI is ++ [v0, v1, v2, v3, v4, v5]))
 (hWg : W.heap[g]? = some (.cells ((((((cur.setIfInBounds (is.length * 6) v0).setIfInBounds (is.length * 6 + 1) v1).setIfInBounds (is.length * 6 + 2) v2).setIfInBounds (is.length * 6 + 3) v3).setIfInBounds (is.length * 6 + 4) v4).setIfInBounds (is.length * 6 + 5) v5) 73 (0, 0)))
 (hWp : W.heap[pb]? = some (.cells #[f1, f2, f3, .string nm, ev, .slice (some ⟨g, 0, none⟩) (is.length + 1) cp, bv] 57 (0, 0)))
 (hWk : ∀ k, k ≠ g → k ≠ pb → W.heap[k]? = w2.heap[k]?) (hWB : Below B w1 W) :
 PSx B pb f1 f2 f3 nm ex (is ++ [e]) es ev (.slice (some ⟨g, 0, none⟩) (is.length + 1) cp) bv W := by
 have hpl := (Array.getElem?_eq_some_iff.1 h.blk).1
 have hgs := (Array.getElem?_eq_some_iff.1 hWg).1
 have far : ∀ k, k < w1.heap.size → k ≠ pb → some k ≠ iv.ownBlock → k ≠ g → W.heap[k]? = w1.heap[k]? := fun k h1 h2 h3 h4 => (hWk k h4 h2).trans (hgrow.block k h1 h3)
 have ng : ∀ k, k < w1.heap.size → some k ≠ iv.ownBlock → k ≠ g := fun k h1 h2 e => by
  subst e
  rcases hat with h' | h'
  ·exact h2 h'.symm
  omega
 have wsz : w1.heap.size ≤ W.heap.size := hWB.size
 have st : ∀ k, Fre B pb ev iv bv w1 k → W.heap[k]? = w1.heap[k]? := fun k hk => far k hk.2.1 hk.2.2.1 hk.2.2.2.2.1 (ng k hk.2.1 hk.2.2.2.2.1)
 have up : ∀ k, Fre B pb ev iv bv w1 k → Fre B pb ev (.slice (some ⟨g, 0, none⟩) (is.length + 1) cp) bv W k := fun k hk => ⟨hk.1, Nat.lt_of_lt_of_le hk.2.1 wsz, hk.2.2.1, hk.2.2.2.1, fun e => ng k hk.2.1 hk.2.2.2.2.1 (Option.some.inj e), hk.2.2.2.2.2⟩
 refine ⟨h.hB, Nat.lt_of_lt_of_le h.rl hWB.size, hWp, own_keepL h.eo (fun q hq => ?_), ?_, own_keepL h.bo (fun q hq => ?_), fun e' he => ?_, fun e' he => ?_⟩
 ·have t1 : some q ≠ iv.ownBlock := fun e => own_ne h.eo h.io (by decide) hq e.symm rfl
  have t2 := (own_typeL h.eo q hq).2.1
  exact far q t2 (own_pb h.eo h.blk (by decide) hq) t1 (ng q t2 t1)
 ·have := hset v0 v1 v2 v3 v4 v5 W hWg
  rw [flatI_append, show flatI [e] = e.cells by simp [flatI], hv, List.length_append]
  exact this
 ·have t1 : some q ≠ iv.ownBlock := fun e => own_ne h.bo h.io (by decide) hq e.symm rfl
  have t2 := (own_typeL h.bo q hq).2.1
  exact far q t2 (own_pb h.bo h.blk (by decide) hq) t1 (ng q t2 t1)
 ·rcases List.mem_append.1 he with he | he
  ·exact IE.stay (h.ik e' he) st up
  rcases List.mem_singleton.1 he with rfl
  exact IE.stay hn st up
 obtain ⟨a1, a2, f, a3⟩ := h.bk e' he
 exact ⟨a1, a2, f, Dc.stay st up f _ _ a3⟩
def sixW (W : World) (g q : Nat) (v0 v1 v2 v3 v4 v5 : Value) : World := (((((W.setCell ⟨g, q, none⟩ v0).setCell ⟨g, q + 1, none⟩ v1).setCell ⟨g, q + 2, none⟩ v2).setCell ⟨g, q + 3, none⟩ v3).setCell ⟨g, q + 4, none⟩ v4).setCell ⟨g, q + 5, none⟩ v5
theorem sixW_at {W : World} {g q : Nat} {cs : Array Value} {t : TypeId} (h : W.heap[g]? = some (.cells cs t (0, 0))) (v0 v1 v2 v3 v4 v5 : Value) : (sixW W g q v0 v1 v2 v3 v4 v5).heap[g]? = some (.cells ((((((cs.setIfInBounds q v0).setIfInBounds (q + 1) v1).setIfInBounds (q + 2) v2).setIfInBounds (q + 3) v3).setIfInBounds (q + 4) v4).setIfInBounds (q + 5) v5) t (0, 0)) :=
 cell_setL (cell_setL (cell_setL (cell_setL (cell_setL (cell_setL h v0) v1) v2) v3) v4) v5
theorem sixW_far (W : World) (g q k : Nat) (hk : k ≠ g) (v0 v1 v2 v3 v4 v5 : Value) : (sixW W g q v0 v1 v2 v3 v4 v5).heap[k]? = W.heap[k]? := by
 unfold sixW
 rw [Below.heap_setCell _ _ _ _ hk, Below.heap_setCell _ _ _ _ hk, Below.heap_setCell _ _ _ _ hk, Below.heap_setCell _ _ _ _ hk, Below.heap_setCell _ _ _ _ hk, Below.heap_setCell _ _ _ _ hk]
theorem sixW_below {B : Nat} {w W : World} {g q : Nat} (h : Below B w W) (hg : B ≤ g) (v0 v1 v2 v3 v4 v5 : Value) : Below B w (sixW W g q v0 v1 v2 v3 v4 v5) :=
 (((((h.setCell (p := ⟨g, q, none⟩) hg v0).setCell (p := ⟨g, q + 1, none⟩) hg v1).setCell (p := ⟨g, q + 2, none⟩) hg v2).setCell (p := ⟨g, q + 3, none⟩) hg v3).setCell (p := ⟨g, q + 4, none⟩) hg v4).setCell (p := ⟨g, q + 5, none⟩) hg v5
theorem IE.after {B pb : Nat} {ev iv bv : Value} {w w' : World} {e : IE} (h : e.ok (Fre B pb ev iv bv w) w) (hb : Below w.heap.size w w') : e.ok (Fre B pb ev iv bv w') w' :=
 IE.stay h (fun k hk => hb.block k hk.2.1) (fun k hk => ⟨hk.1, Nat.lt_of_lt_of_le hk.2.1 hb.size, hk.2.2⟩)
theorem imp_both {B pb g cp : Nat} {f1 f2 f3 : Value} {nm : ByteArray} {ex : List (ByteArray × ByteArray)} {is : List IE} {es : List (Dat × Option Addr × Nat)} {ev iv bv : Value} {w1 w2 : World} {e : IE} (h : PSx B pb f1 f2 f3 nm ex is es ev iv bv w1) (hn : e.ok (Fre B pb ev iv bv w1) w1)
 (hown : w2.ownsRow B 73 6 (.slice (some ⟨g, 0, none⟩) (is.length + 1) cp) (is.length + 1) (flatI is ++ zeroI)) (hgrow : w1.grownBy w2 iv.ownBlock) (hat : iv.ownBlock = some g ∨ g = w1.heap.size)
 {v0 v1 v2 v3 v4 v5 : Value} (hv : e.cells = [v0, v1, v2, v3, v4, v5]) :
 (PSx B pb f1 f2 f3 nm ex (is ++ [e]) es ev (.slice (some ⟨g, 0, none⟩) (is.length + 1) cp) bv ((sixW w2 g (is.length * 6) v0 v1 v2 v3 v4 v5).setCell ⟨pb, 5, none⟩ (.slice (some ⟨g, 0, none⟩) (is.length + 1) cp)) ∧ BT B w1 ((sixW w2 g (is.length * 6) v0 v1 v2 v3 v4 v5).setCell ⟨pb, 5, none⟩ (.slice (some ⟨g, 0, none⟩) (is.length + 1) cp))) ∧
 (PSx B pb f1 f2 f3 nm ex (is ++ [e]) es ev (.slice (some ⟨g, 0, none⟩) (is.length + 1) cp) bv (sixW (w2.setCell ⟨pb, 5, none⟩ (.slice (some ⟨g, 0, none⟩) (is.length + 1) cp)) g (is.length * 6) v0 v1 v2 v3 v4 v5) ∧ BT B w1 (sixW (w2.setCell ⟨pb, 5, none⟩ (.slice (some ⟨g, 0, none⟩) (is.length + 1) cp)) g (is.length * 6) v0 v1 v2 v3 v4 v5)) := by
 obtain ⟨g', cap', cur, hs, hbg, hgl, hcur, _, hset⟩ := own_six hown (flatI_len is) rfl
 simp at hs
 obtain ⟨rfl, rfl⟩ := hs
 have hpl := (Array.getElem?_eq_some_iff.1 h.blk).1
 have hb2 : Below B w1 w2 := grown_below hgrow h.hs (fun q hq => (own_typeL h.io q hq).1)
 have hpg : pb ≠ g := by
  intro e
  rcases hat with h' | h'
  ·exact own_pb h.io h.blk (by decide) h' e.symm
  omega
 have hpb2 : w2.heap[pb]? = some (.cells #[f1, f2, f3, .string nm, ev, iv, bv] 57 (0, 0)) := (hgrow.block pb hpl (fun e => own_pb h.io h.blk (by decide) e.symm rfl)).trans h.blk
 have hA : Below B w1 ((sixW w2 g (is.length * 6) v0 v1 v2 v3 v4 v5).setCell ⟨pb, 5, none⟩ (.slice (some ⟨g, 0, none⟩) (is.length + 1) cp)) := (sixW_below hb2 hbg _ _ _ _ _ _).setCell (p := ⟨pb, 5, none⟩) h.hB _
 have hC : Below B w1 (sixW (w2.setCell ⟨pb, 5, none⟩ (.slice (some ⟨g, 0, none⟩) (is.length + 1) cp)) g (is.length * 6) v0 v1 v2 v3 v4 v5) := sixW_below (hb2.setCell (p := ⟨pb, 5, none⟩) h.hB _) hbg _ _ _ _ _ _
 have kt : ∀ (k : Nat) (cs : Array Value), w1.heap[k]? = some (.cells cs 30 (0, 0)) → k ≠ g ∧ k ≠ pb ∧ w2.heap[k]? = some (.cells cs 30 (0, 0)) := fun k cs hk => by
  have h1 : k ≠ pb := by
   rintro rfl
   rw [h.blk] at hk
   simp at hk
  have h2 : some k ≠ iv.ownBlock := by
   intro e
   obtain ⟨_, _, cs2, h3⟩ := own_typeL h.io k e.symm
   rw [hk] at h3
   simp at h3
  have h3 := (hgrow.block k (Array.getElem?_eq_some_iff.1 hk).1 h2).trans hk
  refine ⟨?_, h1, h3⟩
  rintro rfl
  rw [hcur] at h3
  simp at h3
 refine ⟨⟨imp_end h hn hown hgrow hat hcur hv hset ?_ ?_ ?_ hA, ⟨hA, ?_⟩⟩, ⟨imp_end h hn hown hgrow hat hcur hv hset ?_ ?_ ?_ hC, ⟨hC, ?_⟩⟩⟩
 ·rw [Below.heap_setCell _ _ _ _ (show g ≠ pb from fun e => hpg e.symm)]
  exact sixW_at hcur _ _ _ _ _ _
 ·exact (cell_setL ((sixW_far w2 g _ pb hpg _ _ _ _ _ _).trans hpb2) _).trans rfl
 ·intro k h1 h2
  rw [Below.heap_setCell _ _ _ _ (show k ≠ pb from h2)]
  exact sixW_far w2 g _ k h1 _ _ _ _ _ _
 ·intro k cs hk
  obtain ⟨h1, h2, h3⟩ := kt k cs hk
  rw [Below.heap_setCell _ _ _ _ (show k ≠ pb from h2), sixW_far w2 g _ k h1]
  exact h3
 ·exact sixW_at ((Below.heap_setCell _ _ _ _ (show g ≠ pb from fun e => hpg e.symm)).trans hcur) _ _ _ _ _ _
 ·rw [sixW_far _ g _ pb hpg]
  exact (cell_setL hpb2 _).trans rfl
 ·intro k h1 h2
  rw [sixW_far _ g _ k h1]
  exact Below.heap_setCell _ _ _ _ (show k ≠ pb from h2)
 intro k cs hk
 obtain ⟨h1, h2, h3⟩ := kt k cs hk
 rw [sixW_far _ g _ k h1, Below.heap_setCell _ _ _ _ (show k ≠ pb from h2)]
 exact h3
end Go.Proofs.YtonafbennobgdaaGreatDoor
