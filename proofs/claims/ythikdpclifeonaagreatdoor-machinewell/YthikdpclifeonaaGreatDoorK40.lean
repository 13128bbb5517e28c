/- Chapter 11: arguments are copied. Chapter 11: a call, case by case. Chapter 11: a procedure is called: who called waits. -/
import Derived.Deep.RegionHeld3
import Derived.RegionDies
import Derived.Test.YthikdpclifeonaaGreatDoorK36
namespace Go.Proofs.YthikdpclifeonaaGreatDoor.V
section
set_option linter.unusedVariables false
set_option linter.unusedSimpArgs false
open Go.RowKit
open Go.Proofs.YthikdpclifeonaaGreatDoor

theorem nilIn (d : Nat) (a : Addr) (k c : Nat) (w : World) : (Op.equalIn (d + 1) 55 (.slice (some a) k c) (.slice none 0 0)).run Tryz.prog w = .ok false w := by
  simp [Op.equalIn, run_underlying Tryz.underlying55]
theorem not_nil (a : Addr) (k c : Nat) (w : World) : (binOp BinOp.eql 55 (.slice (some a) k c) (.slice none 0 0)).run Tryz.prog w = .ok (.bool false) w := by
  have e : (Op.equal 55 (.slice (some a) k c) (.slice none 0 0)).run Tryz.prog w = .ok false w := nilIn 9999 a k c w
  simp [binOp, e]
def ToldCl (vs : List Value) (k : Nat) (w : World) (e : Ending) (w' : World) : Prop := ∃ g cap, e = .returned (.slice (some ⟨g, 0, none⟩) k cap) ∧ w.heap.size ≤ g ∧ Below w.heap.size w w' ∧ ∃ c0 : Array Value, w'.heap[g]? = some (.cells (vs.toArray ++ c0) 155 (0, 0))
theorem clone_end {g cap k : Nat} {vs : List Value} {w w4 : World} (hk : vs.length = k) (hown : w4.ownsRow w.heap.size 155 1 (.slice (some ⟨g, 0, none⟩) (0 + k) cap) (0 + k) ([] ++ vs)) (hgrow : (w.alloc (.cells #[] 155)).grownBy w4 (Value.slice (some ⟨w.heap.size, 0, none⟩) 0 0).ownBlock) : ToldCl vs k w (.returned (.slice (some ⟨g, 0, none⟩) k cap)) w4 := by
  have hba : Below w.heap.size w (w.alloc (.cells #[] 155)) := (Below.refl _ _).alloc (Nat.le_refl _) _
  refine ⟨g, cap, rfl, ?_, ⟨hgrow.os.trans hba.os, hgrow.tape.trans hba.tape, hgrow.output.trans hba.output, Nat.le_trans hba.size hgrow.size, fun q hq => (hgrow.block q (Nat.lt_of_lt_of_le hq hba.size) (fun e => by simp [Value.ownBlock] at e; omega)).trans (hba.block q hq)⟩, ?_⟩
  · obtain ⟨q, _⟩ := own_type hown g (by simp [Value.ownBlock])
    exact q
  · rcases hown.2 with ⟨h1, h2⟩ | ⟨g', cap', cur, h1, hbg, hg, hnc, hcm, hcs, htake⟩
    · cases h1
    · simp only [Value.slice.injEq, Option.some.injEq, Addr.mk.injEq, and_true] at h1
      obtain ⟨rfl, _⟩ := h1
      refine ⟨(cur.toList.drop k).toArray, hg.trans ?_⟩
      congr 2
      apply Array.toList_inj.1
      have e1 : cur.toList.take k = vs := by simpa using htake
      simp only [Array.toList_append]
      rw [← e1]
      simp
set_option maxRecDepth 100000 in
set_option maxHeartbeats 1600000 in
theorem clone_raw (N o k c : Nat) (vs : List Value) (w : World) (hk : vs.length = k) (h0 : 0 < k) (hk9 : k ≤ 1000000) (hc : ∀ (i : Nat) (v : Value), vs[i]? = some v → w.cell? ⟨N, o + i, none⟩ = some v) (h1 : ∀ v ∈ vs, v.oneCell' = true) :
    Calls Tryz.prog 110 #[.slice (some ⟨N, o, none⟩) k c] w (ToldCl vs k w) := by
  obtain ⟨i0, hinf, hz0, hz1, hz2⟩ := info_parts infoVal
  have HOA : Hid ((w.alloc (.cells #[] 155)).ownsRow w.heap.size 155 1 (.slice (some ⟨w.heap.size, 0, none⟩) 0 0) 0 []) := ⟨by simp, Or.inr ⟨w.heap.size, 0, #[], rfl, Nat.le_refl _, World.alloc_heap_new w _, Nat.le_refl _, by unfold maxLen; omega, rfl, rfl⟩⟩
  have HN : Hid (∀ j u, vs[j]? = some u → (w.alloc (.cells #[] 155)).cell? ((⟨N, o, none⟩ : Addr).add j) = some u) := by
    intro j u hj
    rw [show (⟨N, o, none⟩ : Addr).add j = ⟨N, o + j, none⟩ by unfold Addr.add; split <;> simp_all]
    exact cell_alloc _ (hc j u hj)
  have hnil := not_nil ⟨N, o, none⟩ k c w
  have HK := hidd hk
  have H1 := hidd h1
  clear hc hk h1
  go_enter Tryz.func110, Tryz.ntmps110
  go_wp2_with (at_builtin; refine wpList_append_lies _ rfl _ _ 55 rfl w.heap.size 155 i0 _ 1 16 Tryz.underlying55 hinf hz0 hz1 hz2 rfl (by decide) (.slice (some ⟨w.heap.size, 0, none⟩) 0 0) 0 [] rfl (by exact HOA.out) ⟨N, o, none⟩ k c vs rfl (by rw [HK.out]; simp) (by exact HN.out) (by exact H1.out) h0 (by unfold maxLen; omega) (by omega) (by simp) (w.heap.size + 1) (by simp) ?_; intro g cap w4 hown hgrow hat hlt4; have HX := hidd (clone_end HK.out hown hgrow); rw [Nat.zero_add]; clear hown hgrow hat hlt4)
  go_ret
  exact HX.out
set_option maxRecDepth 100000 in
set_option maxHeartbeats 1600000 in
theorem clone_none (N o c : Nat) (w : World) : Calls Tryz.prog 110 #[.slice (some ⟨N, o, none⟩) 0 c] w fun e w' => ∃ a c', e = .returned (.slice a 0 c') ∧ Below w.heap.size w w' := by
  have hnil := not_nil ⟨N, o, none⟩ 0 c w
  go_enter Tryz.func110, Tryz.ntmps110
  go_wp2_with fail
  go_ret
  exact ⟨_, _, rfl, (Below.refl _ _).alloc (Nat.le_refl _) _⟩
end
section
set_option linter.unusedVariables false
set_option linter.unusedSimpArgs false
open Go.RowKit
open Go.Proofs.YthikdpclifeonaaGreatDoor

theorem yes169 (v : Value) (w : World) : (Instr.typeAssert (.iface 169 v) 155 169 true).run Tryz.prog w = .ok (.tuple #[v, .bool true]) w := by
  simp [Instr.typeAssert, run_underlying Tryz.underlying169]
set_option maxRecDepth 100000 in
set_option maxHeartbeats 3200000 in
theorem call_prim_ok (rb n c : Nat) (a : Option Addr) (p : ByteArray) (t' : TypeId) (x' : Value) (Q R : World → Prop) (w w1 w2 : World)
    (HK : Calls Tryz.prog 107 #[.pointer (some ⟨rb, 1, none⟩), .int .i64 (n : Int)] w fun e w' => e = .returned (.slice a n c) ∧ w' = w1)
    (HO : Calls Tryz.prog 71 #[.pointer (some ⟨rb, 1, none⟩)] w1 fun e w' => e = .returned (.iface 168 (.string p)) ∧ w' = w2)
    (HP : Calls Tryz.prog 108 #[.pointer (some ⟨rb, 0, none⟩), .string p, .slice a n c] w2.drew fun e w' => e = .returned (.iface t' x') ∧ Q w')
    (HU : ∀ W, Q W → Calls Tryz.prog 66 #[.pointer (some ⟨rb, 1, none⟩), .iface t' x'] W fun e w' => e = .returned (.tuple #[]) ∧ R w') :
    Calls Tryz.prog 70 #[.pointer (some ⟨rb, 0, none⟩), .int .i64 (n : Int)] w fun e w' => e = .returned (.tuple #[]) ∧ R w' := by
  have HHK := hidd HK
  have HHO := hidd HO
  clear HK HO
  have HHP := hidd HP
  have HHU := hidd HU
  clear HP HU
  have hta := assertP (.string p)
  go_enter Tryz.func70, Tryz.ntmps70
  go_wp2_with fail
  refine HHK.out.mono ?_
  rintro e w3 ⟨rfl, rfl⟩
  go_wp2_with fail
  refine HHO.out.mono ?_
  rintro e w4 ⟨rfl, rfl⟩
  go_wp2_with fail
  go_region_with (first
    | (go_at_call 108; refine HHP.out.mono ?_; rintro e w5 ⟨rfl, hQ⟩)
    | (go_at_call 66; refine (HHU.out _ hQ).mono ?_; rintro e w6 ⟨rfl, hR⟩))
  all_goals
    go_wp2_with fail
    (try simp only [Exit.inBlock, Exit.then])
    refine bodyPost_ret (results_none rfl _ _ _) rfl ?_
    exact ⟨rfl, hR⟩
set_option maxRecDepth 100000 in
set_option maxHeartbeats 3200000 in
theorem call_prim_bad (rb n c : Nat) (a : Option Addr) (p : ByteArray) (q : Int) (D : World → Prop) (w w1 w2 : World)
    (HK : Calls Tryz.prog 107 #[.pointer (some ⟨rb, 1, none⟩), .int .i64 (n : Int)] w fun e w' => e = .returned (.slice a n c) ∧ w' = w1)
    (HO : Calls Tryz.prog 71 #[.pointer (some ⟨rb, 1, none⟩)] w1 fun e w' => e = .returned (.iface 168 (.string p)) ∧ w' = w2)
    (HP : Calls Tryz.prog 108 #[.pointer (some ⟨rb, 0, none⟩), .string p, .slice a n c] w2.drew fun e w' => e = .panicked (endP q) ∧ D w') :
    Calls Tryz.prog 70 #[.pointer (some ⟨rb, 0, none⟩), .int .i64 (n : Int)] w fun e w' => e = .panicked (endP q) ∧ D w' := by
  have HHK := hidd HK
  have HHO := hidd HO
  clear HK HO
  have HHP := hidd HP
  clear HP
  have hta := assertP (.string p)
  go_enter Tryz.func70, Tryz.ntmps70
  go_wp2_with fail
  refine HHK.out.mono ?_
  rintro e w3 ⟨rfl, rfl⟩
  go_wp2_with fail
  refine HHO.out.mono ?_
  rintro e w4 ⟨rfl, rfl⟩
  go_wp2_with fail
  go_region_dies
  all_goals
    refine HHP.out.mono ?_
    rintro e w5 ⟨rfl, hD⟩
    go_wp2_with fail
    exact ⟨rfl, rfl, hD⟩
set_option maxRecDepth 100000 in
set_option maxHeartbeats 3200000 in
theorem call_other (rb n c : Nat) (a : Option Addr) (t : TypeId) (x : Value) (h1 : t ≠ 168) (h2 : t ≠ 169) (w w1 w2 : World)
    (HK : Calls Tryz.prog 107 #[.pointer (some ⟨rb, 1, none⟩), .int .i64 (n : Int)] w fun e w' => e = .returned (.slice a n c) ∧ w' = w1)
    (HO : Calls Tryz.prog 71 #[.pointer (some ⟨rb, 1, none⟩)] w1 fun e w' => e = .returned (.iface t x) ∧ w' = w2)
 :
    Calls Tryz.prog 70 #[.pointer (some ⟨rb, 0, none⟩), .int .i64 (n : Int)] w fun e w' => e = .panicked (endP 4) ∧ w' = w2 := by
  have HHK := hidd HK
  have HHO := hidd HO
  clear HK HO
  have hta := no114 t h1 x
  have htb := no115 t h2 x
  clear h1 h2
  go_enter Tryz.func70, Tryz.ntmps70
  go_wp2_with fail
  refine HHK.out.mono ?_
  rintro e w3 ⟨rfl, rfl⟩
  go_wp2_with fail
  refine HHO.out.mono ?_
  rintro e w4 ⟨rfl, rfl⟩
  go_wp2_with fail
  refine (Must_no _ _).mono ?_
  rintro e w5 ⟨rfl, rfl⟩
  go_wp2_with fail
  exact ⟨rfl, rfl, rfl⟩
set_option maxRecDepth 100000 in
set_option maxHeartbeats 3200000 in
theorem call_args (rb n c : Nat) (a : Option Addr) (f pb po : Nat) (A : Int) (w w1 w2 : World)
    (HK : Calls Tryz.prog 107 #[.pointer (some ⟨rb, 1, none⟩), .int .i64 (n : Int)] w fun e w' => e = .returned (.slice a n c) ∧ w' = w1)
    (HO : Calls Tryz.prog 71 #[.pointer (some ⟨rb, 1, none⟩)] w1 fun e w' => e = .returned (.iface 169 (.pointer (some ⟨f, 0, none⟩))) ∧ w' = w2)
    (k0 : w2.cell? ⟨f, 0, none⟩ = some (.pointer (some ⟨pb, po, none⟩))) (k1 : w2.cell? ⟨pb, po, none⟩ = some (.int .i64 A)) (hn : ¬ (n : Int) = A) :
    Calls Tryz.prog 70 #[.pointer (some ⟨rb, 0, none⟩), .int .i64 (n : Int)] w fun e w' => e = .panicked (endP 5) ∧ w' = w2 := by
  have HHK := hidd HK
  have HHO := hidd HO
  clear HK HO
  have hta := no114 169 (by decide) (.pointer (some ⟨f, 0, none⟩))
  have htb := yes169 (.pointer (some ⟨f, 0, none⟩))
  have hb : ((n : Int) == A) = false := by simpa using hn
  clear hn
  go_enter Tryz.func70, Tryz.ntmps70
  go_wp2_with fail
  refine HHK.out.mono ?_
  rintro e w3 ⟨rfl, rfl⟩
  go_wp2_with fail
  refine HHO.out.mono ?_
  rintro e w4 ⟨rfl, rfl⟩
  go_wp2_with fail
  refine (Must_yes _ _).mono ?_
  rintro e w5 ⟨rfl, rfl⟩
  go_wp2_with fail
  refine (Must_no _ _).mono ?_
  rintro e w5 ⟨rfl, rfl⟩
  go_wp2_with fail
  exact ⟨rfl, rfl, rfl⟩
set_option maxRecDepth 100000 in
set_option maxHeartbeats 3200000 in
theorem call_much (rb n c : Nat) (a : Option Addr) (f pb po m : Nat) (ca : Option Addr) (cc : Nat) (A : Int) (w w1 w2 : World)
    (HK : Calls Tryz.prog 107 #[.pointer (some ⟨rb, 1, none⟩), .int .i64 (n : Int)] w fun e w' => e = .returned (.slice a n c) ∧ w' = w1)
    (HO : Calls Tryz.prog 71 #[.pointer (some ⟨rb, 1, none⟩)] w1 fun e w' => e = .returned (.iface 169 (.pointer (some ⟨f, 0, none⟩))) ∧ w' = w2)
    (k0 : w2.cell? ⟨f, 0, none⟩ = some (.pointer (some ⟨pb, po, none⟩))) (k1 : w2.cell? ⟨pb, po, none⟩ = some (.int .i64 A)) (hn : (n : Int) = A) (c5 : w2.cell? ⟨rb, 5, none⟩ = some (.slice ca m cc)) (hm : 200 ≤ m) :
    Calls Tryz.prog 70 #[.pointer (some ⟨rb, 0, none⟩), .int .i64 (n : Int)] w fun e w' => e = .panicked (endP 7) ∧ w' = w2 := by
  have HHK := hidd HK
  have HHO := hidd HO
  clear HK HO
  have hta := no114 169 (by decide) (.pointer (some ⟨f, 0, none⟩))
  have htb := yes169 (.pointer (some ⟨f, 0, none⟩))
  have hb : ((n : Int) == A) = true := by simpa using hn
  have hd : decide ((m : Int) < 200) = false := by simp; omega
  have hd' : ¬ (m : Int) < 200 := by omega
  have hd2 : decide (m < 200) = false := by simp; omega
  clear hn
  go_enter Tryz.func70, Tryz.ntmps70
  go_wp2_with fail
  refine HHK.out.mono ?_
  rintro e w3 ⟨rfl, rfl⟩
  go_wp2_with fail
  refine HHO.out.mono ?_
  rintro e w4 ⟨rfl, rfl⟩
  go_wp2_with fail
  refine (Must_yes _ _).mono ?_
  rintro e w5 ⟨rfl, rfl⟩
  go_wp2_with fail
  refine (Must_yes _ _).mono ?_
  rintro e w5 ⟨rfl, rfl⟩
  go_wp2_with fail
  refine (Must_no _ _).mono ?_
  rintro e w5 ⟨rfl, rfl⟩
  go_wp2_with fail
  exact ⟨rfl, rfl, rfl⟩
end
section
set_option linter.unusedVariables false
set_option linter.unusedSimpArgs false
open Go.RowKit
open Go.Proofs.YthikdpclifeonaaGreatDoor

theorem infoPlace : (Tryz.prog.info? 62).map (fun i => (i.zero, i.size, i.bytes)) = some (some (.agg #[.slice none 0 0, .int .i64 0, .pointer none]), 3, 40) := by kernel_rfl
theorem own_ne62 {w : World} {B rb : Nat} {v tv : Value} {n : Nat} {xs : List Value} {gb : Rc} (h : w.ownsRow B 62 3 v n xs) (hr : RN rb tv gb w) : v.ownBlock ≠ some rb := by
  intro e
  obtain ⟨_, _, cs, hc⟩ := own_type h rb e
  rw [show w.heap[rb]? = _ from hr] at hc
  simp at hc
theorem wait_rn {B rb n : Nat} {tv a b c : Value} {gb : Rc} {xs : List Value} {w w4 : World} (hR : RN rb tv gb w) (hO : w.ownsRow B 62 3 gb.calls n xs) (hgrow : (w.alloc (.cells #[a, b, c] 62)).drew.grownBy w4 gb.calls.ownBlock) : RN rb tv gb w4 := by
  have hrb : rb < w.heap.size := (Array.getElem?_eq_some_iff.1 hR).1
  have hba : Below w.heap.size w (w.alloc (.cells #[a, b, c] 62)).drew := Below.drew ((Below.refl _ _).alloc (Nat.le_refl _) _)
  exact (hgrow.block rb (Nat.lt_of_lt_of_le hrb hba.size) (fun e => own_ne62 hO hR e.symm)).trans ((hba.block rb hrb).trans hR)
theorem own_drew {w : World} {B n : Nat} {v : Value} {xs : List Value} (h : w.ownsRow B 62 3 v n xs) (o : Obj) : (w.alloc o).drew.ownsRow B 62 3 v n xs := by
  have hb : Below w.heap.size w (w.alloc o).drew := Below.drew ((Below.refl _ _).alloc (Nat.le_refl _) _)
  exact h.kept (row := none) ⟨hb.os, hb.tape, hb.output, hb.size, fun k hk _ => hb.block k hk⟩ (by cases v.ownBlock <;> simp)
def F3 (f pb po fp : Nat) (fa : Option Addr) (fl fc : Nat) (W : World) : Prop := W.cell? ⟨f, 0, none⟩ = some (.pointer (some ⟨pb, po, none⟩)) ∧ W.cell? ⟨pb, po + 1, none⟩ = some (.slice fa fl fc) ∧ W.cell? ⟨f, 1, none⟩ = some (.pointer (some ⟨fp, 0, none⟩))
theorem F3.set3 {f pb po fp fl fc rb : Nat} {fa : Option Addr} {W : World} (h : F3 f pb po fp fa fl fc W) (h1 : f ≠ rb) (h2 : pb ≠ rb) (a b c : Value) : F3 f pb po fp fa fl fc (((W.setCell ⟨rb, 2, none⟩ a).setCell ⟨rb, 3, none⟩ b).setCell ⟨rb, 4, none⟩ c) := by
  have e : ∀ q, q ≠ rb → ∀ o, (((W.setCell ⟨rb, 2, none⟩ a).setCell ⟨rb, 3, none⟩ b).setCell ⟨rb, 4, none⟩ c).cell? ⟨q, o, none⟩ = W.cell? ⟨q, o, none⟩ := fun q hq o => World.cell?_of_block (by show _ = _; rw [Below.heap_setCell _ _ _ _ (by simpa using hq), Below.heap_setCell _ _ _ _ (by simpa using hq), Below.heap_setCell _ _ _ _ (by simpa using hq)])
  exact ⟨(e f h1 _).trans h.1, (e pb h2 _).trans h.2.1, (e f h1 _).trans h.2.2⟩
set_option maxRecDepth 100000 in
set_option maxHeartbeats 3200000 in
theorem call_proc (B rb n c : Nat) (a : Option Addr) (f pb po m fp : Nat) (A : Int) (tv : Value) (gb : Rc) (xs : List Value) (ca fa : Option Addr) (cl cc fl fc : Nat) (i : Int) (ap : Option Addr) (Q : World → Prop) (Q1 : Option Addr → Nat → World → Prop) (Q2 : Nat → World → Prop) (w w1 w2 : World)
    (HK : Calls Tryz.prog 107 #[.pointer (some ⟨rb, 1, none⟩), .int .i64 (n : Int)] w fun e w' => e = .returned (.slice a n c) ∧ w' = w1)
    (HO : Calls Tryz.prog 71 #[.pointer (some ⟨rb, 1, none⟩)] w1 fun e w' => e = .returned (.iface 169 (.pointer (some ⟨f, 0, none⟩))) ∧ w' = w2)
    (hR : RN rb tv gb w2) (hO : w2.ownsRow B 62 3 gb.calls m xs) (hm : m < 200) (hs : B ≤ w2.heap.size) (g2 : gb.code = .slice ca cl cc) (g3 : gb.next = .int .i64 i) (g4 : gb.around = .pointer ap)
    (k0 : w2.cell? ⟨f, 0, none⟩ = some (.pointer (some ⟨pb, po, none⟩))) (k1 : w2.cell? ⟨pb, po, none⟩ = some (.int .i64 A)) (hn : (n : Int) = A)
    (HX : ∀ g cap w4, w4.ownsRow B 62 3 (.slice (some ⟨g, 0, none⟩) (m + 1) cap) (m + 1) (xs ++ [.slice ca cl cc, .int .i64 i, .pointer ap]) → (w2.alloc (.cells #[.slice ca cl cc, .int .i64 i, .pointer ap] 62)).drew.grownBy w4 gb.calls.ownBlock → (gb.calls.ownBlock = some g ∨ g = w2.heap.size + 1) → Q (w4.setCell ⟨rb, 5, none⟩ (.slice (some ⟨g, 0, none⟩) (m + 1) cap)).drew)
    (HF : ∀ W, Q W → W.cell? ⟨f, 0, none⟩ = some (.pointer (some ⟨pb, po, none⟩)) ∧ W.cell? ⟨pb, po + 1, none⟩ = some (.slice fa fl fc) ∧ W.cell? ⟨f, 1, none⟩ = some (.pointer (some ⟨fp, 0, none⟩)))
    (HC : ∀ W, Q W → Calls Tryz.prog 110 #[.slice a n c] W fun e w' => ∃ a' c', e = .returned (.slice a' n c') ∧ Q1 a' c' w')
    (HF1 : ∀ W a' c', Q1 a' c' W → W.cell? ⟨f, 0, none⟩ = some (.pointer (some ⟨pb, po, none⟩)) ∧ W.cell? ⟨pb, po + 1, none⟩ = some (.slice fa fl fc) ∧ W.cell? ⟨f, 1, none⟩ = some (.pointer (some ⟨fp, 0, none⟩)))
    (HWi : ∀ W a' c', Q1 a' c' W → Calls Tryz.prog 109 #[.pointer (some ⟨fp, 0, none⟩), .slice a' n c'] W fun e w' => ∃ g, e = .returned (.pointer (some ⟨g, 0, none⟩)) ∧ Q2 g w')
    (hfr : f ≠ rb) (hpr : pb ≠ rb)
    (HF2 : ∀ W g, Q2 g W → (W.cell? ⟨f, 0, none⟩ = some (.pointer (some ⟨pb, po, none⟩)) ∧ W.cell? ⟨pb, po + 1, none⟩ = some (.slice fa fl fc) ∧ W.cell? ⟨f, 1, none⟩ = some (.pointer (some ⟨fp, 0, none⟩))) ∧ ∃ gb' tv', RN rb tv' gb' W) :
    Calls Tryz.prog 70 #[.pointer (some ⟨rb, 0, none⟩), .int .i64 (n : Int)] w fun e w' => e = .returned (.tuple #[]) ∧ ∃ g W, Q2 g W ∧ w' = ((W.setCell ⟨rb, 2, none⟩ (.slice fa fl fc)).setCell ⟨rb, 3, none⟩ (.int .i64 0)).setCell ⟨rb, 4, none⟩ (.pointer (some ⟨g, 0, none⟩)) := by
  have HHK := hidd HK
  have HHO := hidd HO
  have hta := no114 169 (by decide) (.pointer (some ⟨f, 0, none⟩))
  have htb := yes169 (.pointer (some ⟨f, 0, none⟩))
  have hb : ((n : Int) == A) = true := by simpa using hn
  have HHR : Hid (RN rb tv gb w2 ∧ w2.ownsRow B 62 3 gb.calls m xs ∧ B ≤ w2.heap.size ∧ m < 200) := ⟨hR, hO, hs, hm⟩
  have HHX := hidd HX
  have HHF := hidd HF
  have HHC := hidd HC
  have HHF1 := hidd HF1
  have HHW := hidd HWi
  have HHF2 := hidd HF2
  obtain ⟨i0, hinf, hz0, hz1, hz2⟩ := info_parts infoPlace
  obtain ⟨va, vc, hv, hvc⟩ := own_slice hO
  have HV := hidd hv
  have e2 : w2.cell? ⟨rb, 2, none⟩ = some (.slice ca cl cc) := ((cellO hR).trans rfl).trans (congrArg some g2)
  have e3 : w2.cell? ⟨rb, 3, none⟩ = some (.int .i64 i) := ((cellO hR).trans rfl).trans (congrArg some g3)
  have e4 : w2.cell? ⟨rb, 4, none⟩ = some (.pointer ap) := ((cellO hR).trans rfl).trans (congrArg some g4)
  have e5 : w2.cell? ⟨rb, 5, none⟩ = some (.slice va m vc) := ((cellO hR).trans rfl).trans (congrArg some hv)
  have e5a := cell_alloc (.cells #[.slice ca cl cc, .int .i64 i, .pointer ap] 62) e5
  have hd : decide ((m : Int) < 200) = true := by simp; omega
  have hd' : (m : Int) < 200 := by omega
  have hd2 : decide (m < 200) = true := by simp; omega
  clear HK HO HX HF HC HF1 HWi HF2 hR hO hs hn hv g2 g3 g4 hvc
  go_enter Tryz.func70, Tryz.ntmps70
  go_wp2_with fail
  refine HHK.out.mono ?_
  rintro e w3 ⟨rfl, rfl⟩
  go_wp2_with fail
  refine HHO.out.mono ?_
  rintro e w3 ⟨rfl, rfl⟩
  go_wp2_with fail
  refine (Must_yes _ _).mono ?_
  rintro e w5 ⟨rfl, rfl⟩
  go_wp2_with fail
  refine (Must_yes _ _).mono ?_
  rintro e w5 ⟨rfl, rfl⟩
  go_wp2_with fail
  refine (Must_yes _ _).mono ?_
  rintro e w5 ⟨rfl, rfl⟩
  go_wp2_with fail
  go_region_law (refine step_append_lies _ rfl (.tmp 63) (.tmp 68) 63 rfl B 62 i0 _ 3 40 Tryz.underlying63 hinf hz0 hz1 hz2 rfl (by decide) (.slice va m vc) m xs rfl (by rw [← HV.out]; exact own_drew HHR.out.2.1 _) ⟨w5.heap.size, 0, none⟩ 1 1 [.slice ca cl cc, .int .i64 i, .pointer ap] rfl rfl (by exact World.news_of_block (cs := #[.slice ca cl cc, .int .i64 i, .pointer ap]) (t := 62) (fr := (0, 0)) (World.alloc_heap_new w5 _)) (by intro u hu; simp at hu; rcases hu with rfl | rfl | rfl <;> rfl) (by decide) (by have := HHR.out.2.2.2; unfold maxLen; omega) (by have := HHR.out.2.2.2; omega) (by have := HHR.out.2.2.1; simp; omega) (w5.heap.size + 1) (by simp) ?_; intro g cap w4 hown hgrow hat hlt4; have HQ := hidd (HHX.out g cap w4 hown (by rw [HV.out]; exact hgrow) (by rw [HV.out]; exact hat)); have hR4 : RN rb tv gb w4 := wait_rn HHR.out.1 HHR.out.2.1 (by rw [HV.out]; exact hgrow); have d5 : w4.cell? ⟨rb, 5, none⟩ = some (.slice va m vc) := ((cellO hR4).trans rfl).trans (congrArg some HV.out); have z5 := looseO (q := 5) hR4; clear hown hgrow hat hlt4 hR4)
  all_goals
    have HF0 := hidd (HHF.out _ HQ.out)
    have HS3 : Hid (∀ W a b c, F3 f pb po fp fa fl fc W → F3 f pb po fp fa fl fc (((W.setCell ⟨rb, 2, none⟩ a).setCell ⟨rb, 3, none⟩ b).setCell ⟨rb, 4, none⟩ c)) := fun W a b c h => h.set3 hfr hpr a b c
    clear hfr hpr
    go_wp2_with fail
    go_region_held3 (fun u => u.cell? ⟨f, 0, none⟩ = some (.pointer (some ⟨pb, po, none⟩)) ∧ u.cell? ⟨pb, po + 1, none⟩ = some (.slice fa fl fc) ∧ u.cell? ⟨f, 1, none⟩ = some (.pointer (some ⟨fp, 0, none⟩)))
      (first | (with_reducible exact HG0.out) | (with_reducible exact HF1'.out) | (with_reducible exact HF0.out) | (exact HS3.out _ _ _ _ HG0.out) | exact HF0.out)
      (first
        | (go_at_call 110; refine (HHC.out _ HQ.out).mono ?_; rintro e w6 ⟨a', c', rfl, hq1⟩; have HF1' := hidd (HHF1.out _ _ _ hq1); have HQ1 := hidd hq1; clear hq1)
        | (go_at_call 109; refine (HHW.out _ _ _ HQ1.out).mono ?_; rintro e w7 ⟨gf, rfl, hq2⟩; obtain ⟨hg0, gb', tv', hR7⟩ := HHF2.out _ _ hq2; have HG0 := hidd hg0; clear hg0; have s2 := looseO (q := 2) hR7; have s3 := looseO (q := 3) hR7; have s4 := looseO (q := 4) hR7; have t2 : w7.cell? ⟨rb, 2, none⟩ = some gb'.code := (cellO hR7).trans rfl; have t3 : w7.cell? ⟨rb, 3, none⟩ = some gb'.next := (cellO hR7).trans rfl; have t4 : w7.cell? ⟨rb, 4, none⟩ = some gb'.around := (cellO hR7).trans rfl; have HQ2 := hidd hq2; clear hq2 hR7))
    all_goals
      go_wp2_with fail
      go_end0
      exact ⟨rfl, _, _, HQ2.out, rfl⟩
end
end Go.Proofs.YthikdpclifeonaaGreatDoor.V
