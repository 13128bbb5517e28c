/- Chapter 3: what Show makes of what is brought out. -/
import Derived.Test.YtonafbennobgdaaGreatDoorK43
import Derived.Test.YtonafbennobgdaaGreatDoorK17
import Derived.Test.YtonafbennobgdaaGreatDoorK37
namespace Go.Proofs.YtonafbennobgdaaGreatDoor
set_option linter.unusedVariables false
set_option linter.unusedSimpArgs false
open Go.RowKit

theorem ret69 {ts : Array Value} {W : World} {R : Nat} {d : Dat} {v : Value} (h : Nod R d v W) (h6 : ts[2]? = some (.pointer (some ⟨R, 0, none⟩))) :
  (results Tryz.f69 ts).run Tryz.prog W = .ok (.agg #[.int .i64 d.kind, .int .i64 d.n, .string d.name, .int .i64 d.stamp, .int .i64 d.lib, v]) W := by
 obtain ⟨q, q0, q1, q2, q3, q4, q5, qz⟩ := h
 simp [results, Tryz.results69, go_sem, h6, q0, q1, q2, q3, q4, q5]
set_option maxRecDepth 100000 in
set_option maxHeartbeats 12800000 in
theorem shownExports69 (l : List (ByteArray × ByteArray)) (a : Option Addr) (c : Nat) (w : World) (hl : PrM (fun k => k < w.heap.size) l (.slice a l.length c) w) (hs : ∀ q ∈ l, q.1.size ≤ 1000 ∧ q.2.size ≤ 1000) (hn : l.length ≤ 1000) :
  Calls Tryz.prog 69 #[.slice a l.length c] w (TellF (liD (syD bExport :: l.map expD)) w) := by
 have HD : Hid (∀ W j q, Below w.heap.size w W → l[j]? = some q → (∃ b o, a = some ⟨b, o, none⟩ ∧ W.cell? ⟨b, o + j * 2, none⟩ = some (.string q.1) ∧ W.cell? ⟨b, o + j * 2 + 1, none⟩ = some (.string q.2)) ∧ q.1.size ≤ 1000 ∧ q.2.size ≤ 1000) := fun W j q hb hj => ⟨(hl.stay (ok' := fun _ => True) (w' := W) (fun k hk => hb.block k hk) (fun _ _ => trivial)).lookP hj, hs q (List.mem_of_getElem? hj)⟩
 have HL : Hid (∀ j, j < l.length → ∃ d, l[j]? = some d) := fun j hj => ⟨_, List.getElem?_eq_getElem hj⟩
 obtain ⟨W1, hW1⟩ : ∃ W1, W1 = w.alloc (.cells #[.int .i64 0, .int .i64 0, .string ⟨#[]⟩, .int .i64 0, .int .i64 0, .slice none 0 0] 26) := ⟨_, rfl⟩
 have hb1 : Below w.heap.size w W1 := by rw [hW1]; exact (Below.refl _ _).alloc (Nat.le_refl _) _
 have hsz : W1.heap.size = w.heap.size + 1 := by rw [hW1]; simp
 have N1 : Hid (Nod w.heap.size ⟨0, 0, ⟨#[]⟩, 0, 0, []⟩ (.slice none 0 0) W1) := by rw [hW1]; exact Nod.made w ⟨0, 0, ⟨#[]⟩, 0, 0, []⟩ (.slice none 0 0)
 have HB1 : Hid (Below w.heap.size w W1 ∧ W1.heap.size = w.heap.size + 1) := ⟨hb1, hsz⟩
 have HW := hidd hW1.symm
 have SW : Hid (∀ W, Calls Tryz.prog 67 #[.string bExport] W fun e w' => e = .returned (dv (syD bExport) none 0) ∧ Below W.heap.size W w') := fun W => symbol67 bExport W (by decide)
 have SL : Hid (∀ W, Calls Tryz.prog 66 #[dv (syD bExport) none 0, .slice none 0 0] W (TellR (fun b => False ∧ b < W.heap.size) [syD bExport] W)) := fun W => list66 (fun _ => False) (syD bExport) none 0 [] none 0 0 W (DE.sym _ _ (by decide)) rfl (by simp)
 obtain ⟨n, hn'⟩ : ∃ n, n = l.length := ⟨_, rfl⟩
 have HN := hidd hn'
 rw [← hn'] at hn HL ⊢
 generalize syD bExport = dw at *
 clear hl hs hn' hW1 hb1 hsz
 unfold dv at SW SL
 go_enter Tryz.func69, Tryz.ntmps69
 go_upto_region 1 with fail
 rw [HW.out]
 clear HW
 go_wp2_with fail
 refine (SW.out W1).mono ?_
 rintro e w2 ⟨rfl, hb2⟩
 have HB2 : Hid (Below W1.heap.size W1 w2) := hb2
 clear hb2
 go_wp2_with fail
 refine (SL.out w2).mono ?_
 rintro e w3 ⟨hb3, va0, vc0, es0, rfl, hes0, hre0⟩
 obtain ⟨m0, hm0⟩ : ∃ m, m = es0.length := ⟨_, rfl⟩
 have hm1 : m0 = 1 := by rw [hm0, ← List.length_map (f := fun x : Dat × Option Addr × Nat => x.1), hes0]; rfl
 have R0 : Hid (RowE (fun b => False ∧ b < w2.heap.size) w2.heap.size (.slice va0 es0.length vc0) es0 w3 ∧ es0.map (·.1) = [dw] ∧ es0.length = 1 ∧ Below W1.heap.size W1 w3) := ⟨hre0, hes0, hm0.symm.trans hm1, HB2.out.trans (hb3.mono HB2.out.size)⟩
 rw [← hm0]
 have HM0 := hidd hm0
 obtain ⟨V, hV⟩ : ∃ V, V = w3.alloc (.cells #[.int .i64 4, .int .i64 0, .string ⟨#[]⟩, .int .i64 0, .int .i64 0, .slice va0 m0 vc0] 26) := ⟨_, rfl⟩
 have bV : Below w3.heap.size w3 V := by rw [hV]; exact (Below.refl _ _).alloc (Nat.le_refl _) _
 have OV : V.heap[w3.heap.size]? = some (.cells #[.int .i64 4, .int .i64 0, .string ⟨#[]⟩, .int .i64 0, .int .i64 0, .slice va0 m0 vc0] 26 (0, 0)) := by rw [hV]; exact World.alloc_heap_new w3 _
 obtain ⟨O, hO⟩ : ∃ O, O = w3.heap.size := ⟨_, rfl⟩
 have HV0 : Hid (Below W1.heap.size W1 V ∧ V.heap[O]? = some (.cells #[.int .i64 4, .int .i64 0, .string ⟨#[]⟩, .int .i64 0, .int .i64 0, .slice va0 es0.length vc0] 26 (0, 0)) ∧ RowE (fun k => W1.heap.size ≤ k ∧ k ≠ O) W1.heap.size (.slice va0 es0.length vc0) es0 V ∧ (Value.slice va0 es0.length vc0).ownBlock ≠ some O ∧ W1.heap.size ≤ O) := by
  have h1 := R0.out.2.2.2
  refine ⟨h1.trans (bV.mono h1.size), by rw [hO, ← HM0.out]; exact OV, ((R0.out.1.below bV).to (fun k hk _ => absurd hk.1 id)).low HB2.out.size, fun e => ?_, by rw [hO]; exact h1.size⟩
  have := (R0.out.1.own.lt _ e).2
  omega
 have QV := hidd hV.symm
 have HES : Hid (es0.map (·.1) = [dw] ∧ es0.length = 1) := ⟨R0.out.2.1, R0.out.2.2.1⟩
 have HOO := hidd hO
 clear hb3 hes0 hre0 hm0 hm1 hV bV OV hO R0 SW SL HB2
 unfold dvK
 go_upto_region 2 with fail
 rw [QV.out, ← HOO.out]
 clear QV
 go_wp2_with fail
 go_loopw [5, 10] (fun _ ix wr => ∃ (j : Nat) (es : List (Dat × Option Addr × Nat)) (va : Option Addr) (vc : Nat), j ≤ n ∧ ix = .int .i64 j ∧ Hid (es.length = j + 1) ∧ Hid (Below W1.heap.size W1 wr ∧ wr.heap[O]? = some (.cells #[.int .i64 4, .int .i64 0, .string ⟨#[]⟩, .int .i64 0, .int .i64 0, .slice va es.length vc] 26 (0, 0)) ∧ RowE (fun k => W1.heap.size ≤ k ∧ k ≠ O) W1.heap.size (.slice va es.length vc) es wr ∧ (Value.slice va es.length vc).ownBlock ≠ some O ∧ W1.heap.size ≤ O ∧ es.map (·.1) = dw :: (l.take j).map expD)) (fun _ ix _ => n - (intOf ix).toNat)
 case atStart => exact ⟨0, es0, va0, vc0, Nat.zero_le _, rfl, HES.out.2, HV0.out.1, HV0.out.2.1, HV0.out.2.2.1, HV0.out.2.2.2.1, HV0.out.2.2.2.2, by simp [HES.out.1]⟩
 case round =>
  obtain ⟨j, es, va, vc, hj, rfl, HJ, HR⟩ := hrel
  clear HV0 HES HM0 HOO
  by_cases hlt : j < n
  ·obtain ⟨⟨h, t⟩, hp⟩ := HL.out j hlt
   obtain ⟨⟨b, o, rfl, c0, c1⟩, hz1, hz2⟩ := HD.out wr j _ (HB1.out.1.trans (HR.out.1.mono HB1.out.1.size)) hp
   simp only at c0 c1 hz1 hz2
   have IC : Hid (∀ W, Calls Tryz.prog 92 #[.agg #[.string h, .string t]] W (TellF (expD (h, t)) W)) := fun W => shownExport92 h t W hz1 hz2
   obtain ⟨dit, hdit⟩ : ∃ d, d = expD (h, t) := ⟨_, rfl⟩
   rw [← hdit] at IC
   clear hz1 hz2
   have i1 : (0 : Int) ≤ (j : Int) := by omega
   have i2 : (j : Int) < (n : Int) := by omega
   have hjj : j ≤ 100000 := by omega
   have HST : Hid ((l.take (j + 1)).map expD = (l.take j).map expD ++ [dit]) := by
    show _ = _
    rw [List.take_add_one, List.map_append, hp, hdit]
    rfl
   obtain ⟨W0, hW0⟩ : ∃ W0, W0 = wr.alloc (.cells #[.string h, .string t] 70) := ⟨_, rfl⟩
   have b0 : Below wr.heap.size wr W0 := by rw [hW0]; exact (Below.refl _ _).alloc (Nat.le_refl _) _
   have PX : W0.heap[wr.heap.size]? = some (.cells #[.string h, .string t] 70 (0, 0)) := by rw [hW0]; exact World.alloc_heap_new wr _
   obtain ⟨m, hm⟩ : ∃ m, m = es.length := ⟨_, rfl⟩
   obtain ⟨P, hP⟩ : ∃ P, P = wr.heap.size := ⟨_, rfl⟩
   have OX_0 : Hid (W0.drew.heap[O]? = some (.cells #[.int .i64 4, .int .i64 0, .string ⟨#[]⟩, .int .i64 0, .int .i64 0, .slice va m vc] 26 (0, 0)) ∧ O < P) := ⟨by rw [hm]; exact (b0.block _ (Array.getElem?_eq_some_iff.1 HR.out.2.1).1).trans HR.out.2.1, by rw [hP]; exact (Array.getElem?_eq_some_iff.1 HR.out.2.1).1⟩
   have RW_0 : Hid (RowE (fun k => W1.heap.size ≤ k ∧ k ≠ O) W1.heap.size (.slice va m vc) es W0.drew) := by
    rw [hm]
    exact (HR.out.2.2.1.below b0).below (Below.drew (Below.refl _ _))
   have OW : Hid ((Value.slice va m vc).ownBlock ≠ some O ∧ (∀ g, (Value.slice va m vc).ownBlock = some g → g < P) ∧ W1.heap.size ≤ O ∧ W1.heap.size ≤ P ∧ m = es.length ∧ m = j + 1) := by
    rw [hm]
    exact ⟨HR.out.2.2.2.1, fun g hg => by rw [hP]; exact (HR.out.2.2.1.own.lt g hg).2, HR.out.2.2.2.2.1, by rw [hP]; exact HR.out.1.size, rfl, HJ.out⟩
   have EM : Hid (es.map (·.1) = dw :: (l.take j).map expD) := HR.out.2.2.2.2.2
   have S0 : Hid (Below W1.heap.size W1 W0.drew ∧ W0.drew.heap[P]? = some (.cells #[.string h, .string t] 70 (0, 0)) ∧ P < W0.drew.heap.size) := ⟨(HR.out.1.trans (b0.mono HR.out.1.size)).drew, by rw [hP]; exact PX, by rw [hP]; exact (Array.getElem?_eq_some_iff.1 PX).1⟩
   have QW0 := hidd hW0.symm
   have HP := hidd hP
   clear hW0 b0 PX hm hP hp hdit
   go_upto_region 5 with fail
   rw [QW0.out, ← HP.out]
   clear QW0 HP HR
   refine wp_region_held_drew (S := fun u => Below W1.heap.size W1 u ∧ u.heap[P]? = some (.cells #[.string h, .string t] 70 (0, 0)) ∧ P < u.heap.size) (by kernel_rfl) S0.out (fun hS => ?_)
   refine tk 0 (.pointer (some ⟨O, 5, none⟩)) rfl (Or.inl ⟨by rfl, fun u hu => by go_simp⟩) hS ?_
   simp only [Act.put, List.setIfInBounds_toArray, List.set_cons_zero, List.set_cons_succ]
   refine tk 2 (.agg #[.string h, .string t]) rfl (Or.inl ⟨by rfl, fun u hu => by (have z0 : u.cell? ⟨P, 0, none⟩ = some _ := (cellO hu.2.1).trans rfl; have z1 : u.cell? ⟨P, 1, none⟩ = some _ := (cellO hu.2.1).trans rfl; go_simp)⟩) hS ?_
   simp only [Act.put, List.setIfInBounds_toArray, List.set_cons_zero, List.set_cons_succ]
   refine rdy [1, 3] (.cons rfl (fun K hK => ?_) (.cons rfl (fun K hK => ?_) .nil))
   ·have z0 : W0.drew.cell? ⟨O, 5, none⟩ = some (.slice va m vc) := (cellO OX_0.out.1).trans rfl
    go_simp
    refine hK.out _ _ hS (fun hS => ?_)
    clear hK K z0
    refine rdy [3] (.cons rfl (fun K hK => ?_) .nil)
    go_simp
    refine Calls.mono (IC.out W0.drew) ?_
    rintro e U1 ⟨hb1, qa, qc, rfl, hq1⟩
    have OX_1 : Hid (U1.heap[O]? = some (.cells #[.int .i64 4, .int .i64 0, .string ⟨#[]⟩, .int .i64 0, .int .i64 0, .slice va m vc] 26 (0, 0)) ∧ O < P) := ⟨(hb1.block _ (Array.getElem?_eq_some_iff.1 OX_0.out.1).1).trans OX_0.out.1, OX_0.out.2⟩
    have RW_1 : Hid (RowE (fun k => W1.heap.size ≤ k ∧ k ≠ O) W1.heap.size (.slice va m vc) es U1) := RW_0.out.below hb1
    have DQ_1 : Hid (DE (fun b => P < b) U1 dit qa qc) := hq1.to (fun k hk _ => Nat.lt_of_lt_of_le hS.2.2 hk)
    have hS1 := And.intro (hS.1.trans (hb1.mono hS.1.size)) (And.intro ((hb1.block _ hS.2.2).trans hS.2.1) (Nat.lt_of_lt_of_le hS.2.2 hb1.size))
    clear hb1 hq1
    try unfold dv
    show K _ U1
    refine hK.out _ _ hS1 (fun hS => ?_)
    clear hK K
    refine rdy [4] (.cons rfl (fun K hK => ?_) .nil)
    go_simp
    have hb2 : Below U1.heap.size U1 (U1.alloc (.cells #[.int .i64 dit.kind, .int .i64 dit.n, .string dit.name, .int .i64 dit.stamp, .int .i64 dit.lib, .slice qa dit.kids.length qc] 26)) := (Below.refl _ _).alloc (Nat.le_refl _) _
    obtain ⟨sf2, hsf2⟩ := row_lie (fun b => P < b) U1 [(dit, qa, qc)] (by simp) (by
     intro e he
     simp at he
     subst he
     exact DQ_1.out)
    have RS_2 : Hid (∃ f, Dc (fun b => P < b ∧ b < (U1.alloc (.cells #[.int .i64 dit.kind, .int .i64 dit.n, .string dit.name, .int .i64 dit.stamp, .int .i64 dit.lib, .slice qa dit.kids.length qc] 26)).heap.size) (U1.alloc (.cells #[.int .i64 dit.kind, .int .i64 dit.n, .string dit.name, .int .i64 dit.stamp, .int .i64 dit.lib, .slice qa dit.kids.length qc] 26)) f (some ⟨U1.heap.size, 0, none⟩) [dit]) := ⟨sf2, Dc.stay (fun _ _ => rfl) (fun k hk => ⟨hk.1.elim id (fun e => by rw [e]; exact hS.2.2), by have := hk.2; simpa using this⟩) _ _ _ hsf2⟩
    have hS2 := And.intro (hS.1.trans (hb2.mono hS.1.size)) (And.intro ((hb2.block _ hS.2.2).trans hS.2.1) (Nat.lt_of_lt_of_le hS.2.2 hb2.size))
    clear hsf2
    change K _ (U1.alloc (.cells #[.int .i64 dit.kind, .int .i64 dit.n, .string dit.name, .int .i64 dit.stamp, .int .i64 dit.lib, .slice qa dit.kids.length qc] 26))
    generalize U1.alloc (.cells #[.int .i64 dit.kind, .int .i64 dit.n, .string dit.name, .int .i64 dit.stamp, .int .i64 dit.lib, .slice qa dit.kids.length qc] 26) = U2 at hb2 RS_2 hS2 ⊢
    have OX_2 : Hid (U2.heap[O]? = some (.cells #[.int .i64 4, .int .i64 0, .string ⟨#[]⟩, .int .i64 0, .int .i64 0, .slice va m vc] 26 (0, 0)) ∧ O < P) := ⟨(hb2.block _ (Array.getElem?_eq_some_iff.1 OX_1.out.1).1).trans OX_1.out.1, OX_1.out.2⟩
    have RW_2 : Hid (RowE (fun k => W1.heap.size ≤ k ∧ k ≠ O) W1.heap.size (.slice va m vc) es U2) := RW_1.out.below hb2
    clear hb2
    refine hK.out _ _ hS2 (fun hS => ?_)
    clear hK K
    refine rdy [5] (.cons rfl (fun K hK => ?_) .nil)
    obtain ⟨tf, htf⟩ := RS_2.out
    obtain ⟨ll, hll⟩ : ∃ ll, ll = [dit] := ⟨_, rfl⟩
    rw [← hll] at htf
    have HLL := hidd hll
    have hRW := RW_2.out
    rw [OW.out.2.2.2.2.1] at hRW
    refine step_rowE rfl (.tmp 15) (.tmp 18) rfl (w := U2) (ok := fun k => W1.heap.size ≤ k ∧ k ≠ O) (B := W1.heap.size) (v := .slice va es.length vc) (es := es) hRW (F := tf) (a := (some ⟨U1.heap.size, 0, none⟩)) (l := ll) (cap := 1) (by rw [← OW.out.2.2.2.2.1]; rfl) (by rw [HLL.out]; rfl) (Dc.stay (fun _ _ => rfl) (fun k hk => ⟨⟨by have := OW.out.2.2.2.1; have := hk.1; omega, by have := OX_2.out.2; have := hk.1; omega⟩, hk.2, fun e => by have h1 := OW.out.2.1 k (by rw [OW.out.2.2.2.2.1]; exact e.symm); have := hk.1; omega⟩) _ _ _ htf) hS.1.size (by rw [HLL.out]; have := OW.out.2.2.2.2; simp; omega) ?_
    intro v' U3 fs hfs hr hb hwo hg
    obtain ⟨va', vc', rfl, hvc'⟩ := own_sliceL hr.own
    have hown : (Value.slice va es.length vc).ownBlock ≠ some O := by rw [← OW.out.2.2.2.2.1]; exact OW.out.1
    have OX_3 : Hid (U3.heap[O]? = some (.cells #[.int .i64 4, .int .i64 0, .string ⟨#[]⟩, .int .i64 0, .int .i64 0, .slice va m vc] 26 (0, 0)) ∧ O < P) := ⟨(hg.block _ (Array.getElem?_eq_some_iff.1 OX_2.out.1).1 hown.symm).trans OX_2.out.1, OX_2.out.2⟩
    have hS3 : Below W1.heap.size W1 U3 ∧ U3.heap[P]? = some (.cells #[.string h, .string t] 70 (0, 0)) ∧ P < U3.heap.size := ⟨hS.1.trans hb, (hg.block _ hS.2.2 (fun e => by have := OW.out.2.1 P (by rw [OW.out.2.2.2.2.1]; exact e.symm); omega)).trans hS.2.1, Nat.lt_of_lt_of_le hS.2.2 hb.size⟩
    have RR : Hid (RowE (fun k => W1.heap.size ≤ k ∧ k ≠ O) W1.heap.size (.slice va' (es ++ fs).length vc') (es ++ fs) U3 ∧ (Value.slice va' (es ++ fs).length vc').ownBlock ≠ some O ∧ (es ++ fs).map (·.1) = dw :: (l.take (j + 1)).map expD ∧ (es ++ fs).length = j + 1 + 1) := by
     refine ⟨hr, fun e => ?_, ?_, ?_⟩
     ·rcases hwo with h | h
      ·exact hown (h.symm.trans e)
      ·have h2 := Option.some.inj (h.symm.trans e); have h3 := OX_2.out.2; have h4 := hS.2.2; omega
     ·rw [List.map_append, EM.out, hfs, HST.out, HLL.out]; rfl
     ·have h1 := congrArg List.length hfs; rw [List.length_map, HLL.out] at h1; simp only [List.length_cons, List.length_nil] at h1; rw [List.length_append, h1, ← OW.out.2.2.2.2.1, OW.out.2.2.2.2.2]
    obtain ⟨es', hes'⟩ : ∃ es', es' = es ++ fs := ⟨_, rfl⟩
    rw [← hes'] at RR
    have hlc : es.length + fs.length = es'.length := by rw [hes', List.length_append]
    simp only [List.length_append] at *
    try rw [hlc]
    obtain ⟨m', hm'⟩ : ∃ m', m' = es'.length := ⟨_, rfl⟩
    rw [← hm']
    have HM := hidd hm'
    clear hfs hr hb hwo hg hown htf hll hRW hvc' hes' hlc hm'
    show K _ U3
    refine hK.out _ _ hS3 (fun hS => ?_)
    clear hK K
    refine tk 6 (.pointer (some ⟨O, 5, none⟩)) rfl (Or.inl ⟨by rfl, fun u hu => by go_simp⟩) hS ?_
    simp only [Act.put, List.setIfInBounds_toArray, List.set_cons_zero, List.set_cons_succ]
    refine rdy [7] (.cons rfl (fun K hK => ?_) .nil)
    have q0 : U3.cell? ⟨O, 5, none⟩ = some _ := (cellO OX_3.out.1).trans rfl
    have z0 : U3.frozen? ⟨O, 5, none⟩ = false := by simp [World.frozen?, OX_3.out.1]
    go_simp
    refine hK.out _ _ ⟨hS.1.setCell (p := ⟨O, 5, none⟩) OW.out.2.2.1 _, (Below.heap_setCell _ _ _ _ (by have := OX_3.out.2; show P ≠ O; omega)).trans hS.2.1, by simpa using hS.2.2⟩ (fun hS => ?_)
    clear hK K
    refine wpAnyH_done (by kernel_rfl) ?_ _
    go_wp2_with fail
    go_roundw
    case rel =>
     refine ⟨j + 1, es', va', vc', hlt, by go_num, RR.out.2.2.2, hS.1, ?_, RR.out.1.keep ((Keep.refl O U3).setCell ⟨O, 5, none⟩ rfl _) RR.out.2.1 (fun k hk => hk.2), RR.out.2.1, OW.out.2.2.1, RR.out.2.2.1⟩
     rw [← HM.out]
     exact cell_setL OX_3.out.1 _
    case measure => simp [intOf]; omega
   ·go_simp
    refine Calls.mono (IC.out W0.drew) ?_
    rintro e U1 ⟨hb1, qa, qc, rfl, hq1⟩
    have OX_1 : Hid (U1.heap[O]? = some (.cells #[.int .i64 4, .int .i64 0, .string ⟨#[]⟩, .int .i64 0, .int .i64 0, .slice va m vc] 26 (0, 0)) ∧ O < P) := ⟨(hb1.block _ (Array.getElem?_eq_some_iff.1 OX_0.out.1).1).trans OX_0.out.1, OX_0.out.2⟩
    have RW_1 : Hid (RowE (fun k => W1.heap.size ≤ k ∧ k ≠ O) W1.heap.size (.slice va m vc) es U1) := RW_0.out.below hb1
    have DQ_1 : Hid (DE (fun b => P < b) U1 dit qa qc) := hq1.to (fun k hk _ => Nat.lt_of_lt_of_le hS.2.2 hk)
    have hS1 := And.intro (hS.1.trans (hb1.mono hS.1.size)) (And.intro ((hb1.block _ hS.2.2).trans hS.2.1) (Nat.lt_of_lt_of_le hS.2.2 hb1.size))
    clear hb1 hq1
    try unfold dv
    show K _ U1
    refine hK.out _ _ hS1 (fun hS => ?_)
    clear hK K
    refine rdy [1, 4] (.cons rfl (fun K hK => ?_) (.cons rfl (fun K hK => ?_) .nil))
    ·have z0 : U1.cell? ⟨O, 5, none⟩ = some (.slice va m vc) := (cellO OX_1.out.1).trans rfl
     go_simp
     refine hK.out _ _ hS (fun hS => ?_)
     clear hK K z0
     refine rdy [4] (.cons rfl (fun K hK => ?_) .nil)
     go_simp
     have hb2 : Below U1.heap.size U1 (U1.alloc (.cells #[.int .i64 dit.kind, .int .i64 dit.n, .string dit.name, .int .i64 dit.stamp, .int .i64 dit.lib, .slice qa dit.kids.length qc] 26)) := (Below.refl _ _).alloc (Nat.le_refl _) _
     obtain ⟨sf2, hsf2⟩ := row_lie (fun b => P < b) U1 [(dit, qa, qc)] (by simp) (by
      intro e he
      simp at he
      subst he
      exact DQ_1.out)
     have RS_2 : Hid (∃ f, Dc (fun b => P < b ∧ b < (U1.alloc (.cells #[.int .i64 dit.kind, .int .i64 dit.n, .string dit.name, .int .i64 dit.stamp, .int .i64 dit.lib, .slice qa dit.kids.length qc] 26)).heap.size) (U1.alloc (.cells #[.int .i64 dit.kind, .int .i64 dit.n, .string dit.name, .int .i64 dit.stamp, .int .i64 dit.lib, .slice qa dit.kids.length qc] 26)) f (some ⟨U1.heap.size, 0, none⟩) [dit]) := ⟨sf2, Dc.stay (fun _ _ => rfl) (fun k hk => ⟨hk.1.elim id (fun e => by rw [e]; exact hS.2.2), by have := hk.2; simpa using this⟩) _ _ _ hsf2⟩
     have hS2 := And.intro (hS.1.trans (hb2.mono hS.1.size)) (And.intro ((hb2.block _ hS.2.2).trans hS.2.1) (Nat.lt_of_lt_of_le hS.2.2 hb2.size))
     clear hsf2
     change K _ (U1.alloc (.cells #[.int .i64 dit.kind, .int .i64 dit.n, .string dit.name, .int .i64 dit.stamp, .int .i64 dit.lib, .slice qa dit.kids.length qc] 26))
     generalize U1.alloc (.cells #[.int .i64 dit.kind, .int .i64 dit.n, .string dit.name, .int .i64 dit.stamp, .int .i64 dit.lib, .slice qa dit.kids.length qc] 26) = U2 at hb2 RS_2 hS2 ⊢
     have OX_2 : Hid (U2.heap[O]? = some (.cells #[.int .i64 4, .int .i64 0, .string ⟨#[]⟩, .int .i64 0, .int .i64 0, .slice va m vc] 26 (0, 0)) ∧ O < P) := ⟨(hb2.block _ (Array.getElem?_eq_some_iff.1 OX_1.out.1).1).trans OX_1.out.1, OX_1.out.2⟩
     have RW_2 : Hid (RowE (fun k => W1.heap.size ≤ k ∧ k ≠ O) W1.heap.size (.slice va m vc) es U2) := RW_1.out.below hb2
     clear hb2
     refine hK.out _ _ hS2 (fun hS => ?_)
     clear hK K
     refine rdy [5] (.cons rfl (fun K hK => ?_) .nil)
     obtain ⟨tf, htf⟩ := RS_2.out
     obtain ⟨ll, hll⟩ : ∃ ll, ll = [dit] := ⟨_, rfl⟩
     rw [← hll] at htf
     have HLL := hidd hll
     have hRW := RW_2.out
     rw [OW.out.2.2.2.2.1] at hRW
     refine step_rowE rfl (.tmp 15) (.tmp 18) rfl (w := U2) (ok := fun k => W1.heap.size ≤ k ∧ k ≠ O) (B := W1.heap.size) (v := .slice va es.length vc) (es := es) hRW (F := tf) (a := (some ⟨U1.heap.size, 0, none⟩)) (l := ll) (cap := 1) (by rw [← OW.out.2.2.2.2.1]; rfl) (by rw [HLL.out]; rfl) (Dc.stay (fun _ _ => rfl) (fun k hk => ⟨⟨by have := OW.out.2.2.2.1; have := hk.1; omega, by have := OX_2.out.2; have := hk.1; omega⟩, hk.2, fun e => by have h1 := OW.out.2.1 k (by rw [OW.out.2.2.2.2.1]; exact e.symm); have := hk.1; omega⟩) _ _ _ htf) hS.1.size (by rw [HLL.out]; have := OW.out.2.2.2.2; simp; omega) ?_
     intro v' U3 fs hfs hr hb hwo hg
     obtain ⟨va', vc', rfl, hvc'⟩ := own_sliceL hr.own
     have hown : (Value.slice va es.length vc).ownBlock ≠ some O := by rw [← OW.out.2.2.2.2.1]; exact OW.out.1
     have OX_3 : Hid (U3.heap[O]? = some (.cells #[.int .i64 4, .int .i64 0, .string ⟨#[]⟩, .int .i64 0, .int .i64 0, .slice va m vc] 26 (0, 0)) ∧ O < P) := ⟨(hg.block _ (Array.getElem?_eq_some_iff.1 OX_2.out.1).1 hown.symm).trans OX_2.out.1, OX_2.out.2⟩
     have hS3 : Below W1.heap.size W1 U3 ∧ U3.heap[P]? = some (.cells #[.string h, .string t] 70 (0, 0)) ∧ P < U3.heap.size := ⟨hS.1.trans hb, (hg.block _ hS.2.2 (fun e => by have := OW.out.2.1 P (by rw [OW.out.2.2.2.2.1]; exact e.symm); omega)).trans hS.2.1, Nat.lt_of_lt_of_le hS.2.2 hb.size⟩
     have RR : Hid (RowE (fun k => W1.heap.size ≤ k ∧ k ≠ O) W1.heap.size (.slice va' (es ++ fs).length vc') (es ++ fs) U3 ∧ (Value.slice va' (es ++ fs).length vc').ownBlock ≠ some O ∧ (es ++ fs).map (·.1) = dw :: (l.take (j + 1)).map expD ∧ (es ++ fs).length = j + 1 + 1) := by
      refine ⟨hr, fun e => ?_, ?_, ?_⟩
      ·rcases hwo with h | h
       ·exact hown (h.symm.trans e)
       ·have h2 := Option.some.inj (h.symm.trans e); have h3 := OX_2.out.2; have h4 := hS.2.2; omega
      ·rw [List.map_append, EM.out, hfs, HST.out, HLL.out]; rfl
      ·have h1 := congrArg List.length hfs; rw [List.length_map, HLL.out] at h1; simp only [List.length_cons, List.length_nil] at h1; rw [List.length_append, h1, ← OW.out.2.2.2.2.1, OW.out.2.2.2.2.2]
     obtain ⟨es', hes'⟩ : ∃ es', es' = es ++ fs := ⟨_, rfl⟩
     rw [← hes'] at RR
     have hlc : es.length + fs.length = es'.length := by rw [hes', List.length_append]
     simp only [List.length_append] at *
     try rw [hlc]
     obtain ⟨m', hm'⟩ : ∃ m', m' = es'.length := ⟨_, rfl⟩
     rw [← hm']
     have HM := hidd hm'
     clear hfs hr hb hwo hg hown htf hll hRW hvc' hes' hlc hm'
     show K _ U3
     refine hK.out _ _ hS3 (fun hS => ?_)
     clear hK K
     refine tk 6 (.pointer (some ⟨O, 5, none⟩)) rfl (Or.inl ⟨by rfl, fun u hu => by go_simp⟩) hS ?_
     simp only [Act.put, List.setIfInBounds_toArray, List.set_cons_zero, List.set_cons_succ]
     refine rdy [7] (.cons rfl (fun K hK => ?_) .nil)
     have q0 : U3.cell? ⟨O, 5, none⟩ = some _ := (cellO OX_3.out.1).trans rfl
     have z0 : U3.frozen? ⟨O, 5, none⟩ = false := by simp [World.frozen?, OX_3.out.1]
     go_simp
     refine hK.out _ _ ⟨hS.1.setCell (p := ⟨O, 5, none⟩) OW.out.2.2.1 _, (Below.heap_setCell _ _ _ _ (by have := OX_3.out.2; show P ≠ O; omega)).trans hS.2.1, by simpa using hS.2.2⟩ (fun hS => ?_)
     clear hK K
     refine wpAnyH_done (by kernel_rfl) ?_ _
     go_wp2_with fail
     go_roundw
     case rel =>
      refine ⟨j + 1, es', va', vc', hlt, by go_num, RR.out.2.2.2, hS.1, ?_, RR.out.1.keep ((Keep.refl O U3).setCell ⟨O, 5, none⟩ rfl _) RR.out.2.1 (fun k hk => hk.2), RR.out.2.1, OW.out.2.2.1, RR.out.2.2.1⟩
      rw [← HM.out]
      exact cell_setL OX_3.out.1 _
     case measure => simp [intOf]; omega
    ·go_simp
     have hb2 : Below U1.heap.size U1 (U1.alloc (.cells #[.int .i64 dit.kind, .int .i64 dit.n, .string dit.name, .int .i64 dit.stamp, .int .i64 dit.lib, .slice qa dit.kids.length qc] 26)) := (Below.refl _ _).alloc (Nat.le_refl _) _
     obtain ⟨sf2, hsf2⟩ := row_lie (fun b => P < b) U1 [(dit, qa, qc)] (by simp) (by
      intro e he
      simp at he
      subst he
      exact DQ_1.out)
     have RS_2 : Hid (∃ f, Dc (fun b => P < b ∧ b < (U1.alloc (.cells #[.int .i64 dit.kind, .int .i64 dit.n, .string dit.name, .int .i64 dit.stamp, .int .i64 dit.lib, .slice qa dit.kids.length qc] 26)).heap.size) (U1.alloc (.cells #[.int .i64 dit.kind, .int .i64 dit.n, .string dit.name, .int .i64 dit.stamp, .int .i64 dit.lib, .slice qa dit.kids.length qc] 26)) f (some ⟨U1.heap.size, 0, none⟩) [dit]) := ⟨sf2, Dc.stay (fun _ _ => rfl) (fun k hk => ⟨hk.1.elim id (fun e => by rw [e]; exact hS.2.2), by have := hk.2; simpa using this⟩) _ _ _ hsf2⟩
     have hS2 := And.intro (hS.1.trans (hb2.mono hS.1.size)) (And.intro ((hb2.block _ hS.2.2).trans hS.2.1) (Nat.lt_of_lt_of_le hS.2.2 hb2.size))
     clear hsf2
     change K _ (U1.alloc (.cells #[.int .i64 dit.kind, .int .i64 dit.n, .string dit.name, .int .i64 dit.stamp, .int .i64 dit.lib, .slice qa dit.kids.length qc] 26))
     generalize U1.alloc (.cells #[.int .i64 dit.kind, .int .i64 dit.n, .string dit.name, .int .i64 dit.stamp, .int .i64 dit.lib, .slice qa dit.kids.length qc] 26) = U2 at hb2 RS_2 hS2 ⊢
     have OX_2 : Hid (U2.heap[O]? = some (.cells #[.int .i64 4, .int .i64 0, .string ⟨#[]⟩, .int .i64 0, .int .i64 0, .slice va m vc] 26 (0, 0)) ∧ O < P) := ⟨(hb2.block _ (Array.getElem?_eq_some_iff.1 OX_1.out.1).1).trans OX_1.out.1, OX_1.out.2⟩
     have RW_2 : Hid (RowE (fun k => W1.heap.size ≤ k ∧ k ≠ O) W1.heap.size (.slice va m vc) es U2) := RW_1.out.below hb2
     clear hb2
     refine hK.out _ _ hS2 (fun hS => ?_)
     clear hK K
     refine rdy [1] (.cons rfl (fun K hK => ?_) .nil)
     have z0 : U2.cell? ⟨O, 5, none⟩ = some (.slice va m vc) := (cellO OX_2.out.1).trans rfl
     go_simp
     refine hK.out _ _ hS (fun hS => ?_)
     clear hK K z0
     refine rdy [5] (.cons rfl (fun K hK => ?_) .nil)
     obtain ⟨tf, htf⟩ := RS_2.out
     obtain ⟨ll, hll⟩ : ∃ ll, ll = [dit] := ⟨_, rfl⟩
     rw [← hll] at htf
     have HLL := hidd hll
     have hRW := RW_2.out
     rw [OW.out.2.2.2.2.1] at hRW
     refine step_rowE rfl (.tmp 15) (.tmp 18) rfl (w := U2) (ok := fun k => W1.heap.size ≤ k ∧ k ≠ O) (B := W1.heap.size) (v := .slice va es.length vc) (es := es) hRW (F := tf) (a := (some ⟨U1.heap.size, 0, none⟩)) (l := ll) (cap := 1) (by rw [← OW.out.2.2.2.2.1]; rfl) (by rw [HLL.out]; rfl) (Dc.stay (fun _ _ => rfl) (fun k hk => ⟨⟨by have := OW.out.2.2.2.1; have := hk.1; omega, by have := OX_2.out.2; have := hk.1; omega⟩, hk.2, fun e => by have h1 := OW.out.2.1 k (by rw [OW.out.2.2.2.2.1]; exact e.symm); have := hk.1; omega⟩) _ _ _ htf) hS.1.size (by rw [HLL.out]; have := OW.out.2.2.2.2; simp; omega) ?_
     intro v' U3 fs hfs hr hb hwo hg
     obtain ⟨va', vc', rfl, hvc'⟩ := own_sliceL hr.own
     have hown : (Value.slice va es.length vc).ownBlock ≠ some O := by rw [← OW.out.2.2.2.2.1]; exact OW.out.1
     have OX_3 : Hid (U3.heap[O]? = some (.cells #[.int .i64 4, .int .i64 0, .string ⟨#[]⟩, .int .i64 0, .int .i64 0, .slice va m vc] 26 (0, 0)) ∧ O < P) := ⟨(hg.block _ (Array.getElem?_eq_some_iff.1 OX_2.out.1).1 hown.symm).trans OX_2.out.1, OX_2.out.2⟩
     have hS3 : Below W1.heap.size W1 U3 ∧ U3.heap[P]? = some (.cells #[.string h, .string t] 70 (0, 0)) ∧ P < U3.heap.size := ⟨hS.1.trans hb, (hg.block _ hS.2.2 (fun e => by have := OW.out.2.1 P (by rw [OW.out.2.2.2.2.1]; exact e.symm); omega)).trans hS.2.1, Nat.lt_of_lt_of_le hS.2.2 hb.size⟩
     have RR : Hid (RowE (fun k => W1.heap.size ≤ k ∧ k ≠ O) W1.heap.size (.slice va' (es ++ fs).length vc') (es ++ fs) U3 ∧ (Value.slice va' (es ++ fs).length vc').ownBlock ≠ some O ∧ (es ++ fs).map (·.1) = dw :: (l.take (j + 1)).map expD ∧ (es ++ fs).length = j + 1 + 1) := by
      refine ⟨hr, fun e => ?_, ?_, ?_⟩
      ·rcases hwo with h | h
       ·exact hown (h.symm.trans e)
       ·have h2 := Option.some.inj (h.symm.trans e); have h3 := OX_2.out.2; have h4 := hS.2.2; omega
      ·rw [List.map_append, EM.out, hfs, HST.out, HLL.out]; rfl
      ·have h1 := congrArg List.length hfs; rw [List.length_map, HLL.out] at h1; simp only [List.length_cons, List.length_nil] at h1; rw [List.length_append, h1, ← OW.out.2.2.2.2.1, OW.out.2.2.2.2.2]
     obtain ⟨es', hes'⟩ : ∃ es', es' = es ++ fs := ⟨_, rfl⟩
     rw [← hes'] at RR
     have hlc : es.length + fs.length = es'.length := by rw [hes', List.length_append]
     simp only [List.length_append] at *
     try rw [hlc]
     obtain ⟨m', hm'⟩ : ∃ m', m' = es'.length := ⟨_, rfl⟩
     rw [← hm']
     have HM := hidd hm'
     clear hfs hr hb hwo hg hown htf hll hRW hvc' hes' hlc hm'
     show K _ U3
     refine hK.out _ _ hS3 (fun hS => ?_)
     clear hK K
     refine tk 6 (.pointer (some ⟨O, 5, none⟩)) rfl (Or.inl ⟨by rfl, fun u hu => by go_simp⟩) hS ?_
     simp only [Act.put, List.setIfInBounds_toArray, List.set_cons_zero, List.set_cons_succ]
     refine rdy [7] (.cons rfl (fun K hK => ?_) .nil)
     have q0 : U3.cell? ⟨O, 5, none⟩ = some _ := (cellO OX_3.out.1).trans rfl
     have z0 : U3.frozen? ⟨O, 5, none⟩ = false := by simp [World.frozen?, OX_3.out.1]
     go_simp
     refine hK.out _ _ ⟨hS.1.setCell (p := ⟨O, 5, none⟩) OW.out.2.2.1 _, (Below.heap_setCell _ _ _ _ (by have := OX_3.out.2; show P ≠ O; omega)).trans hS.2.1, by simpa using hS.2.2⟩ (fun hS => ?_)
     clear hK K
     refine wpAnyH_done (by kernel_rfl) ?_ _
     go_wp2_with fail
     go_roundw
     case rel =>
      refine ⟨j + 1, es', va', vc', hlt, by go_num, RR.out.2.2.2, hS.1, ?_, RR.out.1.keep ((Keep.refl O U3).setCell ⟨O, 5, none⟩ rfl _) RR.out.2.1 (fun k hk => hk.2), RR.out.2.1, OW.out.2.2.1, RR.out.2.2.1⟩
      rw [← HM.out]
      exact cell_setL OX_3.out.1 _
     case measure => simp [intOf]; omega
  ·obtain rfl : j = n := by omega
   have N3 := N1.out.after HR.out.1
   have NH := hidd N3
   obtain ⟨q, q0, q1, q2, q3, q4, q5, qz⟩ := N3
   simp only at q0 q1 q2 q3 q4 q5
   obtain ⟨m, hm⟩ : ∃ m, m = es.length := ⟨_, rfl⟩
   have hx := HR.out.2.1
   rw [← hm] at hx
   have p0 : wr.cell? ⟨O, 0, none⟩ = some _ := (cellO hx).trans rfl
   have p1 : wr.cell? ⟨O, 1, none⟩ = some _ := (cellO hx).trans rfl
   have p2 : wr.cell? ⟨O, 2, none⟩ = some _ := (cellO hx).trans rfl
   have p3 : wr.cell? ⟨O, 3, none⟩ = some _ := (cellO hx).trans rfl
   have p4 : wr.cell? ⟨O, 4, none⟩ = some _ := (cellO hx).trans rfl
   have p5 : wr.cell? ⟨O, 5, none⟩ = some _ := (cellO hx).trans rfl
   have HX : Hid (es.map (·.1) = dw :: l.map expD ∧ m = es.length) := ⟨by rw [HR.out.2.2.2.2.2, HN.out, List.take_length], hm⟩
   have HML : Hid (es.length ≤ 200000) := by have := HJ.out; show _ ≤ _; omega
   clear hx hm
   go_wp2_with fail
   have hl : m = (dw :: l.map expD).length := by rw [HX.out.2, ← HX.out.1, List.length_map]
   refine bodyPost_ret (ret69 (NH.out.store (liD (dw :: l.map expD)) (.slice va m vc)) rfl) rfl ?_
   refine ⟨below_sixN (HB1.out.1.trans (HR.out.1.mono HB1.out.1.size)) (Nat.le_refl _) _ _ _ _ _ _, va, vc, by rw [hl]; rfl, ?_⟩
   have hr := HR.out.2.2.1
   have h1 := HB1.out.2
   rw [← HX.out.2] at hr
   exact rowE_tell (hr.keep (((((((Keep.refl (w.heap.size) wr).setCell ⟨w.heap.size, 0, none⟩ rfl _).setCell ⟨w.heap.size, 1, none⟩ rfl _).setCell ⟨w.heap.size, 2, none⟩ rfl _).setCell ⟨w.heap.size, 3, none⟩ rfl _).setCell ⟨w.heap.size, 4, none⟩ rfl _).setCell ⟨w.heap.size, 5, none⟩ rfl _) (fun e => by have h3 := (hr.own.lt _ e).1; omega) (fun k hk => by omega)) HX.out.2 HX.out.1 (by omega) (fun k hk => by omega) HML.out
end Go.Proofs.YtonafbennobgdaaGreatDoor
