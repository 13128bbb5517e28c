/- Chapter 3: what Show makes of names that are called otherwise. -/
import Derived.Test.YtonafbennobgdaaGreatDoorK43
import Derived.Test.YtonafbennobgdaaGreatDoorK17
namespace Go.Proofs.YtonafbennobgdaaGreatDoor
set_option linter.unusedVariables false
set_option linter.unusedSimpArgs false
open Go.RowKit

theorem renD_take : ∀ (ns as_ : List ByteArray) (j : Nat) (x y : ByteArray), ns[j]? = some x → as_[j]? = some y → renD (ns.take (j + 1)) (as_.take (j + 1)) = renD (ns.take j) (as_.take j) ++ [liD [syD x, syD y]]
 | [], as_, j, x, y, h, _ => by simp at h
 | n :: r, [], j, x, y, _, h => by simp at h
 | n :: r, a :: s, 0, x, y, h1, h2 => by
  simp at h1 h2
  subst h1 h2
  simp [renD]
 | n :: r, a :: s, j + 1, x, y, h1, h2 => by
  have := renD_take r s j x y (by simpa using h1) (by simpa using h2)
  simp only [List.take_succ_cons, renD, List.cons_append]
  rw [this]
set_option maxRecDepth 100000 in
set_option maxHeartbeats 12800000 in
theorem shownRenames117 (ns as_ : List ByteArray) (a1 a2 : Option Addr) (c1 c2 : Nat) (w : World) (h1 : SV (fun k => k < w.heap.size) ns (.slice a1 ns.length c1) w) (h2 : SV (fun k => k < w.heap.size) as_ (.slice a2 as_.length c2) w) (hs1 : ∀ x ∈ ns, x.size ≤ 1000) (hs2 : ∀ x ∈ as_, x.size ≤ 1000) (hn : ns.length ≤ 100000) (hq : ns.length = as_.length) :
  Calls Tryz.prog 117 #[.slice a1 ns.length c1, .slice a2 as_.length c2] w fun e w' => Below w.heap.size w w' ∧ ∃ va vc es, e = .returned (.slice va es.length vc) ∧ es.map (·.1) = renD ns as_ ∧ RowE (fun b => w.heap.size ≤ b) w.heap.size (.slice va es.length vc) es w' := by
 have HD1 : Hid (∀ W j x, Below w.heap.size w W → ns[j]? = some x → (∃ b o, a1 = some ⟨b, o, none⟩ ∧ W.cell? ⟨b, o + j, none⟩ = some (.string x)) ∧ x.size ≤ 1000) := fun W j x hb hj => ⟨(h1.stay (ok' := fun _ => True) (w' := W) (fun k hk => hb.block k hk) (fun _ _ => trivial)).look hj, hs1 x (List.mem_of_getElem? hj)⟩
 have HD2 : Hid (∀ W j x, Below w.heap.size w W → as_[j]? = some x → (∃ b o, a2 = some ⟨b, o, none⟩ ∧ W.cell? ⟨b, o + j, none⟩ = some (.string x)) ∧ x.size ≤ 1000) := fun W j x hb hj => ⟨(h2.stay (ok' := fun _ => True) (w' := W) (fun k hk => hb.block k hk) (fun _ _ => trivial)).look hj, hs2 x (List.mem_of_getElem? hj)⟩
 have HL : Hid (∀ j, j < ns.length → (∃ d, ns[j]? = some d) ∧ ∃ d, as_[j]? = some d) := fun j hj => ⟨⟨_, List.getElem?_eq_getElem hj⟩, ⟨_, List.getElem?_eq_getElem (hq ▸ hj)⟩⟩
 rw [← hq]
 obtain ⟨n, hn'⟩ : ∃ n, n = ns.length := ⟨_, rfl⟩
 have HN : Hid (n = ns.length ∧ n = as_.length) := ⟨hn', hn'.trans hq⟩
 rw [← hn'] at hn HL ⊢
 have MU : Hid (∀ W, Calls Tryz.prog 54 #[.bool true, .int .i64 5] W fun e w' => e = .returned (.tuple #[]) ∧ w' = W) := fun W => must_yes 5 W
 clear h1 h2 hs1 hs2 hq hn'
 go_enter Tryz.func117, Tryz.ntmps117
 go_wp2_with fail
 refine (MU.out w).mono ?_
 rintro e w1 ⟨rfl, rfl⟩
 clear MU
 go_wp2_with fail
 go_loopw [5, 6, 7, 16] (fun v _ _ ix wr => ∃ (j : Nat) (es : List (Dat × Option Addr × Nat)), j ≤ n ∧ ix = .int .i64 j ∧ Hid (es.length = j) ∧ Hid (Below w1.heap.size w1 wr ∧ RowE (fun b => w1.heap.size ≤ b) w1.heap.size v es wr ∧ es.map (·.1) = renD (ns.take j) (as_.take j))) (fun _ _ _ ix _ => n - (intOf ix).toNat)
 case atStart => exact ⟨0, [], Nat.zero_le _, rfl, rfl, Below.refl _ _, RowE.nil _ _ _, by simp [renD]⟩
 case round =>
  obtain ⟨j, es, hj, rfl, HJ, HR⟩ := hrel
  obtain ⟨va, vc, rfl, hvc⟩ := own_sliceL HR.out.2.1.own
  by_cases hlt : j < n
  ·obtain ⟨⟨x, hxj⟩, y, hyj⟩ := HL.out j hlt
   obtain ⟨⟨b1, o1, rfl, cx⟩, hx⟩ := HD1.out wr j x HR.out.1 hxj
   obtain ⟨⟨b2, o2, rfl, cy⟩, hy⟩ := HD2.out wr j y HR.out.1 hyj
   have HCY : Hid (∀ u, Below w1.heap.size w1 u → u.cell? ⟨b2, o2 + j, none⟩ = some (.string y)) := fun u hu => by
    obtain ⟨⟨b3, o3, e3, c3⟩, _⟩ := HD2.out u j y hu hyj
    have e4 := Option.some.inj e3
    simp only [Addr.mk.injEq] at e4
    obtain ⟨rfl, rfl, _⟩ := e4
    exact c3
   have i1 : (0 : Int) ≤ (j : Int) := by omega
   have i2 : (j : Int) < (n : Int) := by omega
   have SX := hidd (fun W => symbol67 x W (by omega))
   have SY := hidd (fun W => symbol67 y W (by omega))
   have HST : Hid (renD (ns.take (j + 1)) (as_.take (j + 1)) = renD (ns.take j) (as_.take j) ++ [liD [syD x, syD y]]) := renD_take ns as_ j x y hxj hyj
   have ZX : Hid ((syD x).name.size ≤ maxLen ∧ (syD x).kids = []) := ⟨by show x.size ≤ maxLen; unfold maxLen; omega, rfl⟩
   have ZY : Hid ((syD y).name.size ≤ maxLen ∧ (syD y).kids = []) := ⟨by show y.size ≤ maxLen; unfold maxLen; omega, rfl⟩
   generalize syD x = dx at *
   generalize syD y = dy at *
   have DX : Hid (∀ ok W, DE ok W dx none 0) := fun ok W => ⟨ZX.out.1, by rw [ZX.out.2]; exact Nat.le_refl 0, 0, ZX.out.2⟩
   have DY : Hid (∀ ok W, DE ok W dy none 0) := fun ok W => ⟨ZY.out.1, by rw [ZY.out.2]; exact Nat.le_refl 0, 0, ZY.out.2⟩
   obtain ⟨dl, hdl⟩ : ∃ d, d = liD [dx, dy] := ⟨_, rfl⟩
   have HDL := hidd hdl
   rw [← hdl] at HST
   obtain ⟨m, hm⟩ : ∃ m, m = es.length := ⟨_, rfl⟩
   have RW_0 : Hid (RowE (fun k => w1.heap.size ≤ k) w1.heap.size (.slice va m vc) es wr.drew) := by
    rw [hm]
    exact HR.out.2.1.below (Below.drew (Below.refl _ _))
   have OW : Hid ((∀ g, (Value.slice va m vc).ownBlock = some g → g < wr.heap.size) ∧ m = es.length ∧ m = j) := by
    rw [hm]
    exact ⟨fun g hg => (HR.out.2.1.own.lt g hg).2, rfl, HJ.out⟩
   have EM : Hid (es.map (·.1) = renD (ns.take j) (as_.take j)) := HR.out.2.2
   have HBW := hidd HR.out.1
   rw [← hm]
   clear hxj hyj hx hy hm hdl hvc HJ HR
   go_wp2_with fail
   go_upto_region 6 with fail
   refine wp_region_held_drew (S := fun u => Below w1.heap.size w1 u ∧ wr.heap.size ≤ u.heap.size) (by kernel_rfl) ⟨HBW.out.drew, Nat.le_refl _⟩ (fun hS => ?_)
   refine tk 0 (.slice va m vc) rfl (Or.inl ⟨by rfl, fun u hu => by go_simp⟩) hS ?_
   simp only [Act.put, List.setIfInBounds_toArray, List.set_cons_zero, List.set_cons_succ]
   refine tk 1 (.string x) rfl (Or.inl ⟨by rfl, fun u hu => by go_simp⟩) hS ?_
   simp only [Act.put, List.setIfInBounds_toArray, List.set_cons_zero, List.set_cons_succ]
   refine tk 3 (.slice (some ⟨b2, o2, none⟩) n c2) rfl (Or.inl ⟨by rfl, fun u hu => by go_simp⟩) hS ?_
   simp only [Act.put, List.setIfInBounds_toArray, List.set_cons_zero, List.set_cons_succ]
   refine tk 4 (.int .i64 j) rfl (Or.inl ⟨by rfl, fun u hu => by go_simp⟩) hS ?_
   simp only [Act.put, List.setIfInBounds_toArray, List.set_cons_zero, List.set_cons_succ]
   refine tk 5 (.pointer (some ⟨b2, o2 + j, none⟩)) rfl (Or.inl ⟨by rfl, fun u hu => by go_simp⟩) hS ?_
   simp only [Act.put, List.setIfInBounds_toArray, List.set_cons_zero, List.set_cons_succ]
   refine tk 6 (.string y) rfl (Or.inl ⟨by rfl, fun u hu => by (have z0 := HCY.out u hu.1; go_simp)⟩) hS ?_
   simp only [Act.put, List.setIfInBounds_toArray, List.set_cons_zero, List.set_cons_succ]
   refine rdy [2] (.cons rfl (fun K hK => ?_) .nil)
   go_simp
   refine Calls.mono (SX.out wr.drew) ?_
   rintro e U1 ⟨rfl, hb1⟩
   have RW_1 : Hid (RowE (fun k => w1.heap.size ≤ k) w1.heap.size (.slice va m vc) es U1) := RW_0.out.below hb1
   have hS1 := And.intro (hS.1.trans (hb1.mono hS.1.size)) (Nat.le_trans hS.2 hb1.size)
   clear hb1
   try unfold dv
   show K _ U1
   refine hK.out _ _ hS1 (fun hS => ?_)
   clear hK K
   refine rdy [7] (.cons rfl (fun K hK => ?_) .nil)
   go_simp
   refine Calls.mono (SY.out U1) ?_
   rintro e U2 ⟨rfl, hb2⟩
   have RW_2 : Hid (RowE (fun k => w1.heap.size ≤ k) w1.heap.size (.slice va m vc) es U2) := RW_1.out.below hb2
   have hS2 := And.intro (hS.1.trans (hb2.mono hS.1.size)) (Nat.le_trans hS.2 hb2.size)
   clear hb2
   try unfold dv
   show K _ U2
   refine hK.out _ _ hS2 (fun hS => ?_)
   clear hK K
   refine rdy [8] (.cons rfl (fun K hK => ?_) .nil)
   go_simp
   have hb3 : Below U2.heap.size U2 (U2.alloc (.cells #[.int .i64 dy.kind, .int .i64 dy.n, .string dy.name, .int .i64 dy.stamp, .int .i64 dy.lib, .slice none dy.kids.length 0] 26)) := (Below.refl _ _).alloc (Nat.le_refl _) _
   obtain ⟨sf3, hsf3⟩ := row_lie (fun b => wr.heap.size ≤ b) U2 [(dy, none, 0)] (by simp) (by
    intro e he
    simp at he
    subst he
    exact DY.out _ _)
   have RS_3 : Hid (∃ f, Dc (fun b => wr.heap.size ≤ b ∧ b < (U2.alloc (.cells #[.int .i64 dy.kind, .int .i64 dy.n, .string dy.name, .int .i64 dy.stamp, .int .i64 dy.lib, .slice none dy.kids.length 0] 26)).heap.size) (U2.alloc (.cells #[.int .i64 dy.kind, .int .i64 dy.n, .string dy.name, .int .i64 dy.stamp, .int .i64 dy.lib, .slice none dy.kids.length 0] 26)) f (some ⟨U2.heap.size, 0, none⟩) [dy]) := ⟨sf3, Dc.stay (fun _ _ => rfl) (fun k hk => ⟨hk.1.elim id (fun e => by rw [e]; exact hS.2), by have := hk.2; simpa using this⟩) _ _ _ hsf3⟩
   have hS3 := And.intro (hS.1.trans (hb3.mono hS.1.size)) (Nat.le_trans hS.2 hb3.size)
   clear hsf3
   change K _ (U2.alloc (.cells #[.int .i64 dy.kind, .int .i64 dy.n, .string dy.name, .int .i64 dy.stamp, .int .i64 dy.lib, .slice none dy.kids.length 0] 26))
   generalize U2.alloc (.cells #[.int .i64 dy.kind, .int .i64 dy.n, .string dy.name, .int .i64 dy.stamp, .int .i64 dy.lib, .slice none dy.kids.length 0] 26) = U3 at hb3 RS_3 hS3 ⊢
   have RW_3 : Hid (RowE (fun k => w1.heap.size ≤ k) w1.heap.size (.slice va m vc) es U3) := RW_2.out.below hb3
   clear hb3
   refine hK.out _ _ hS3 (fun hS => ?_)
   clear hK K
   refine rdy [9] (.cons rfl (fun K hK => ?_) .nil)
   go_simp
   obtain ⟨sf, hsf⟩ := RS_3.out
   have QC := list66 (fun b => wr.heap.size ≤ b) dx none 0 [dy] (some ⟨U2.heap.size, 0, none⟩) 1 sf U3 (DX.out _ _) hsf (by simp)
   refine Calls.mono QC ?_
   clear QC hsf
   rintro e U4 ⟨hb4, qa, qc, eq, rfl, heq, hrq⟩
   obtain ⟨mq, hmq⟩ : ∃ m, m = eq.length := ⟨_, rfl⟩
   have hdq : DE (fun b => wr.heap.size ≤ b) U4 dl qa qc := by rw [HDL.out]; exact rowE_tell (m := eq.length) hrq rfl heq hS.2 (fun k hk => hk.1) (by rw [← List.length_map (f := fun x : Dat × Option Addr × Nat => x.1), heq]; simp)
   have hkl : mq = dl.kids.length := by rw [hmq, ← List.length_map (f := fun x : Dat × Option Addr × Nat => x.1), heq, HDL.out]; rfl
   have hvv : dvK qa mq qc = dv dl qa qc := by rw [hkl, HDL.out]; rfl
   rw [← hmq, hvv]
   clear hvv hkl hmq hrq heq
   have RW_4 : Hid (RowE (fun k => w1.heap.size ≤ k) w1.heap.size (.slice va m vc) es U4) := RW_3.out.below hb4
   have RS_4 : Hid (∃ f, Dc (fun b => wr.heap.size ≤ b ∧ b < U4.heap.size) U4 f (some ⟨U2.heap.size, 0, none⟩) [dy]) := (by obtain ⟨f, hf⟩ := RS_3.out; exact ⟨f, Dc.stay (fun k hk => hb4.block k hk.2) (fun k hk => ⟨hk.1, Nat.lt_of_lt_of_le hk.2 hb4.size⟩) _ _ _ hf⟩)
   have DQ_4 : Hid (DE (fun b => wr.heap.size ≤ b) U4 dl qa qc) := hdq
   have hS4 := And.intro (hS.1.trans (hb4.mono hS.1.size)) (Nat.le_trans hS.2 hb4.size)
   clear hb4 hdq
   unfold dv
   show K _ U4
   refine hK.out _ _ hS4 (fun hS => ?_)
   clear hK K
   refine rdy [10] (.cons rfl (fun K hK => ?_) .nil)
   go_simp
   have hb5 : Below U4.heap.size U4 (U4.alloc (.cells #[.int .i64 dl.kind, .int .i64 dl.n, .string dl.name, .int .i64 dl.stamp, .int .i64 dl.lib, .slice qa dl.kids.length qc] 26)) := (Below.refl _ _).alloc (Nat.le_refl _) _
   obtain ⟨sf5, hsf5⟩ := row_lie (fun b => wr.heap.size ≤ b) U4 [(dl, qa, qc)] (by simp) (by
    intro e he
    simp at he
    subst he
    exact DQ_4.out)
   have RL_5 : Hid (∃ f, Dc (fun b => wr.heap.size ≤ b ∧ b < (U4.alloc (.cells #[.int .i64 dl.kind, .int .i64 dl.n, .string dl.name, .int .i64 dl.stamp, .int .i64 dl.lib, .slice qa dl.kids.length qc] 26)).heap.size) (U4.alloc (.cells #[.int .i64 dl.kind, .int .i64 dl.n, .string dl.name, .int .i64 dl.stamp, .int .i64 dl.lib, .slice qa dl.kids.length qc] 26)) f (some ⟨U4.heap.size, 0, none⟩) [dl]) := ⟨sf5, Dc.stay (fun _ _ => rfl) (fun k hk => ⟨hk.1.elim id (fun e => by rw [e]; exact hS.2), by have := hk.2; simpa using this⟩) _ _ _ hsf5⟩
   have hS5 := And.intro (hS.1.trans (hb5.mono hS.1.size)) (Nat.le_trans hS.2 hb5.size)
   clear hsf5
   change K _ (U4.alloc (.cells #[.int .i64 dl.kind, .int .i64 dl.n, .string dl.name, .int .i64 dl.stamp, .int .i64 dl.lib, .slice qa dl.kids.length qc] 26))
   generalize U4.alloc (.cells #[.int .i64 dl.kind, .int .i64 dl.n, .string dl.name, .int .i64 dl.stamp, .int .i64 dl.lib, .slice qa dl.kids.length qc] 26) = U5 at hb5 RL_5 hS5 ⊢
   have RW_5 : Hid (RowE (fun k => w1.heap.size ≤ k) w1.heap.size (.slice va m vc) es U5) := RW_4.out.below hb5
   have RS_5 : Hid (∃ f, Dc (fun b => wr.heap.size ≤ b ∧ b < U5.heap.size) U5 f (some ⟨U2.heap.size, 0, none⟩) [dy]) := (by obtain ⟨f, hf⟩ := RS_4.out; exact ⟨f, Dc.stay (fun k hk => hb5.block k hk.2) (fun k hk => ⟨hk.1, Nat.lt_of_lt_of_le hk.2 hb5.size⟩) _ _ _ hf⟩)
   have DQ_5 : Hid (DE (fun b => wr.heap.size ≤ b) U5 dl qa qc) := DQ_4.out.lift hb5
   clear hb5
   refine hK.out _ _ hS5 (fun hS => ?_)
   clear hK K
   refine rdy [11] (.cons rfl (fun K hK => ?_) .nil)
   obtain ⟨tf, htf⟩ := RL_5.out
   obtain ⟨ll, hll⟩ : ∃ ll, ll = [dl] := ⟨_, rfl⟩
   rw [← hll] at htf
   have HLL := hidd hll
   have hRW := RW_5.out
   rw [OW.out.2.1] at hRW
   refine step_rowE rfl (.tmp 21) (.tmp 31) rfl (w := U5) (ok := fun k => w1.heap.size ≤ k) (B := w1.heap.size) (v := .slice va es.length vc) (es := es) hRW (F := tf) (a := (some ⟨U4.heap.size, 0, none⟩)) (l := ll) (cap := 1) (by rw [← OW.out.2.1]; rfl) (by rw [HLL.out]; rfl) (Dc.stay (fun _ _ => rfl) (fun k hk => ⟨Nat.le_trans HBW.out.size hk.1, hk.2, fun e => by have h1 := OW.out.1 k (by rw [OW.out.2.1]; exact e.symm); have := hk.1; omega⟩) _ _ _ htf) hS.1.size (by rw [HLL.out]; have := OW.out.2; simp; omega) ?_
   intro v' U6 fs hfs hr hb hwo hg
   have hS6 : Below w1.heap.size w1 U6 ∧ wr.heap.size ≤ U6.heap.size := ⟨hS.1.trans hb, Nat.le_trans hS.2 hb.size⟩
   have RR : Hid (RowE (fun k => w1.heap.size ≤ k) w1.heap.size v' (es ++ fs) U6 ∧ (es ++ fs).map (·.1) = renD (ns.take (j + 1)) (as_.take (j + 1)) ∧ (es ++ fs).length = j + 1) := by
    refine ⟨hr, ?_, ?_⟩
    ·rw [List.map_append, EM.out, hfs, HST.out, HLL.out]
    ·have h1 := congrArg List.length hfs; rw [List.length_map, HLL.out] at h1; simp only [List.length_cons, List.length_nil] at h1; rw [List.length_append, h1, ← OW.out.2.1, OW.out.2.2]
   clear hfs hr hb hwo hg htf hll hRW
   show K _ U6
   refine hK.out _ _ hS6 (fun hS => ?_)
   clear hK K
   refine tk 12 (v') rfl (Or.inl ⟨by rfl, fun u hu => by go_simp⟩) hS ?_
   simp only [Act.put, List.setIfInBounds_toArray, List.set_cons_zero, List.set_cons_succ]
   refine wpAnyH_done (by kernel_rfl) ?_ _
   go_wp2_with fail
   go_roundw
   case rel => exact ⟨j + 1, es ++ fs, hlt, by go_num, RR.out.2.2, hS.1, RR.out.1, RR.out.2.1⟩
   case measure => simp [intOf]; omega
  ·obtain rfl : j = n := by omega
   go_wp2_with fail
   go_ret
   exact ⟨HR.out.1, va, vc, es, rfl, by rw [HR.out.2.2, HN.out.1, List.take_length, ← HN.out.1, HN.out.2, List.take_length], HR.out.2.1⟩
end Go.Proofs.YtonafbennobgdaaGreatDoor
