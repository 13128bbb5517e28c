/- Chapter 11: values are written Chapter 11: values are written Chapter 11: values are written Chapter 11: pairs are written -/
import Derived.Test.YthikdpclifeonaaGreatDoorK30
namespace Go.Proofs.YthikdpclifeonaaGreatDoor.V
section
set_option linter.unusedVariables false
set_option linter.unusedSimpArgs false
open Go.RowKit
open Go.Proofs.YthikdpclifeonaaGreatDoor

/-- value_W1 -/
theorem ShowAt.str {B rb : Nat} {gb : Rc} {Bw b T n : Nat} {m : Mm} {σ : St} {txt : List UInt8} {w : World} (h : ShowAt B rb gb Bw b T m σ n txt w) (hn : n < 300) (s : List UInt8) (hs : s.length ≤ 100) : ∀ W, Below (w.setCell ⟨b, 2, none⟩ (.int .i64 ((n + 1 : Nat) : Int))).heap.size (w.setCell ⟨b, 2, none⟩ (.int .i64 ((n + 1 : Nat) : Int))) W →
    Calls Tryz.prog 159 #[.pointer (some ⟨b, 0, none⟩), .string ⟨s.toArray⟩] W fun e w' => (∃ z, e = .returned (.tuple #[.int .i64 z, .nilIface])) ∧ ToldS B rb gb Bw b m w txt.length n (.ok ⟨txt ++ s, n + 1⟩, σ) (.returned (.tuple #[])) w' := by
  intro W hb
  obtain ⟨c2, z2, hk, hw⟩ := h.node
  have hz : (w.setCell ⟨b, 2, none⟩ (.int .i64 ((n + 1 : Nat) : Int))).heap.size = w.heap.size := by simp
  have hsz := hb.size
  rw [hz] at hsz
  have hl := h.len
  refine (WriteString_kb Bw b ((n + 1 : Nat) : Int) txt ⟨s.toArray⟩ W (hw.below hb) (by show txt.length + s.toArray.size ≤ _; simp; omega) (Nat.le_trans h.hw hsz)).mono ?_
  rintro e w' ⟨rfl, h1, h2⟩
  exact ⟨⟨_, rfl⟩, leaf_end h hn ((hk.trans (KB.ofBelow hb)).trans h2) (by simpa using h1) hs⟩
set_option maxRecDepth 100000 in
set_option maxHeartbeats 1600000 in
theorem value_nil (B rb : Nat) (gb : Rc) (Bw b T n : Nat) (m : Mm) (σ : St) (txt : List UInt8)  (w : World) (h : ShowAt B rb gb Bw b T m σ n txt w) (hn : n < 300) :
    Calls Tryz.prog 140 #[.pointer (some ⟨b, 0, none⟩), .iface 242 (.agg #[])] w (ToldS B rb gb Bw b m w txt.length n (.ok ⟨txt ++ [40, 41], n + 1⟩, σ)) := by
  obtain ⟨c2, z2, hk, hw⟩ := h.node
  have HS := hidd (h.str hn ([40, 41]) (by decide))
  have a104 := no104 242 (by decide) (.agg #[])
  have a105 := no105 242 (by decide) (.agg #[])
  have a137 := no137 242 (by decide) (.agg #[])
  have ay := yes157 (.agg #[])
  obtain ⟨W1, hW1⟩ : ∃ W1, W1 = w.setCell ⟨b, 2, none⟩ (.int .i64 ((n + 1 : Nat) : Int)) := ⟨_, rfl⟩
  rw [← hW1] at HS hw
  have d2 : W1.cell? ⟨b, 2, none⟩ = some (.int .i64 ((n + 1 : Nat) : Int)) := hw.parts.2.1
  have hw1 := hW1.symm
  obtain ⟨k', hk'⟩ : ∃ k' : Int, k' = n := ⟨_, rfl⟩
  have e1 : ((n + 1 : Nat) : Int) = k' + 1 := by omega
  rw [e1] at hw1 d2
  rw [← hk'] at c2
  have hd : decide (k' + 1 ≤ 300) = true := by simp; omega
  have hb0 : 0 ≤ k' := by omega
  have hb1 : k' ≤ 299 := by omega
  have HG : Hid (∀ e w', ToldS B rb gb Bw b m w txt.length n (.ok ⟨txt ++ [40, 41], n + 1⟩, σ) e w' → ToldS B rb gb Bw b m w txt.length n (.ok ⟨txt ++ [40, 41], n + 1⟩, σ) e w') := fun _ _ x => x
  clear h hk hw hn hW1 e1 hk'
  go_enter Tryz.func140, Tryz.ntmps140
  go_wp2_with fail
  refine (Must_yes _ _).mono ?_
  rintro e w1 ⟨rfl, rfl⟩
  go_wp2_with fail
  first | refine (HS.out _ (Below.refl _ _)).mono ?_ | refine (HS.out _ ((Below.refl _ _).alloc (Nat.le_refl _) _)).mono ?_
  rintro e w2 ⟨⟨z, rfl⟩, ht⟩
  go_wp2_with fail
  go_end0
  exact ht
set_option maxRecDepth 100000 in
set_option maxHeartbeats 1600000 in
theorem value_sym (B rb : Nat) (gb : Rc) (Bw b T n : Nat) (m : Mm) (σ : St) (txt : List UInt8) (s : ByteArray) (w : World) (h : ShowAt B rb gb Bw b T m σ n txt w) (hn : n < 300) (hs : s.size ≤ 100) :
    Calls Tryz.prog 140 #[.pointer (some ⟨b, 0, none⟩), .iface 220 (.string s)] w (ToldS B rb gb Bw b m w txt.length n (.ok ⟨txt ++ s.data.toList, n + 1⟩, σ)) := by
  obtain ⟨c2, z2, hk, hw⟩ := h.node
  have HS := hidd (h.str hn (s.data.toList) (by simpa using hs))
  have a104 := no104 220 (by decide) (.string s)
  have a105 := no105 220 (by decide) (.string s)
  have ay := yes137 (.string s)
  obtain ⟨W1, hW1⟩ : ∃ W1, W1 = w.setCell ⟨b, 2, none⟩ (.int .i64 ((n + 1 : Nat) : Int)) := ⟨_, rfl⟩
  rw [← hW1] at HS hw
  have d2 : W1.cell? ⟨b, 2, none⟩ = some (.int .i64 ((n + 1 : Nat) : Int)) := hw.parts.2.1
  have hw1 := hW1.symm
  obtain ⟨k', hk'⟩ : ∃ k' : Int, k' = n := ⟨_, rfl⟩
  have e1 : ((n + 1 : Nat) : Int) = k' + 1 := by omega
  rw [e1] at hw1 d2
  rw [← hk'] at c2
  have hd : decide (k' + 1 ≤ 300) = true := by simp; omega
  have hb0 : 0 ≤ k' := by omega
  have hb1 : k' ≤ 299 := by omega
  have HG : Hid (∀ e w', ToldS B rb gb Bw b m w txt.length n (.ok ⟨txt ++ s.data.toList, n + 1⟩, σ) e w' → ToldS B rb gb Bw b m w txt.length n (.ok ⟨txt ++ s.data.toList, n + 1⟩, σ) e w') := fun _ _ x => x
  clear h hk hw hn hW1 e1 hk'
  go_enter Tryz.func140, Tryz.ntmps140
  go_wp2_with fail
  refine (Must_yes _ _).mono ?_
  rintro e w1 ⟨rfl, rfl⟩
  go_wp2_with fail
  first | refine (HS.out _ (Below.refl _ _)).mono ?_ | refine (HS.out _ ((Below.refl _ _).alloc (Nat.le_refl _) _)).mono ?_
  rintro e w2 ⟨⟨z, rfl⟩, ht⟩
  go_wp2_with fail
  go_end0
  exact ht
set_option maxRecDepth 100000 in
set_option maxHeartbeats 1600000 in
theorem value_prim (B rb : Nat) (gb : Rc) (Bw b T n : Nat) (m : Mm) (σ : St) (txt : List UInt8) (s : ByteArray) (w : World) (h : ShowAt B rb gb Bw b T m σ n txt w) (hn : n < 300) :
    Calls Tryz.prog 140 #[.pointer (some ⟨b, 0, none⟩), .iface 168 (.string s)] w (ToldS B rb gb Bw b m w txt.length n (.ok ⟨txt ++ [35, 112], n + 1⟩, σ)) := by
  obtain ⟨c2, z2, hk, hw⟩ := h.node
  have HS := hidd (h.str hn ([35, 112]) (by decide))
  have a104 := no104 168 (by decide) (.string s)
  have a105 := no105 168 (by decide) (.string s)
  have a137 := no137 168 (by decide) (.string s)
  have a157 := no157 168 (by decide) (.string s)
  have a158 := no158 168 (by decide) (.string s)
  obtain ⟨W1, hW1⟩ : ∃ W1, W1 = w.setCell ⟨b, 2, none⟩ (.int .i64 ((n + 1 : Nat) : Int)) := ⟨_, rfl⟩
  rw [← hW1] at HS hw
  have d2 : W1.cell? ⟨b, 2, none⟩ = some (.int .i64 ((n + 1 : Nat) : Int)) := hw.parts.2.1
  have hw1 := hW1.symm
  obtain ⟨k', hk'⟩ : ∃ k' : Int, k' = n := ⟨_, rfl⟩
  have e1 : ((n + 1 : Nat) : Int) = k' + 1 := by omega
  rw [e1] at hw1 d2
  rw [← hk'] at c2
  have hd : decide (k' + 1 ≤ 300) = true := by simp; omega
  have hb0 : 0 ≤ k' := by omega
  have hb1 : k' ≤ 299 := by omega
  have HG : Hid (∀ e w', ToldS B rb gb Bw b m w txt.length n (.ok ⟨txt ++ [35, 112], n + 1⟩, σ) e w' → ToldS B rb gb Bw b m w txt.length n (.ok ⟨txt ++ [35, 112], n + 1⟩, σ) e w') := fun _ _ x => x
  clear h hk hw hn hW1 e1 hk'
  go_enter Tryz.func140, Tryz.ntmps140
  go_wp2_with fail
  refine (Must_yes _ _).mono ?_
  rintro e w1 ⟨rfl, rfl⟩
  go_wp2_with fail
  first | refine (HS.out _ (Below.refl _ _)).mono ?_ | refine (HS.out _ ((Below.refl _ _).alloc (Nat.le_refl _) _)).mono ?_
  rintro e w2 ⟨⟨z, rfl⟩, ht⟩
  go_wp2_with fail
  go_end0
  exact ht
set_option maxRecDepth 100000 in
set_option maxHeartbeats 1600000 in
theorem value_proc (B rb : Nat) (gb : Rc) (Bw b T n : Nat) (m : Mm) (σ : St) (txt : List UInt8) (k : Nat) (w : World) (h : ShowAt B rb gb Bw b T m σ n txt w) (hn : n < 300) :
    Calls Tryz.prog 140 #[.pointer (some ⟨b, 0, none⟩), .iface 169 (.pointer (some ⟨k, 0, none⟩))] w (ToldS B rb gb Bw b m w txt.length n (.ok ⟨txt ++ [35, 112], n + 1⟩, σ)) := by
  obtain ⟨c2, z2, hk, hw⟩ := h.node
  have HS := hidd (h.str hn ([35, 112]) (by decide))
  have a104 := no104 169 (by decide) (.pointer (some ⟨k, 0, none⟩))
  have a105 := no105 169 (by decide) (.pointer (some ⟨k, 0, none⟩))
  have a137 := no137 169 (by decide) (.pointer (some ⟨k, 0, none⟩))
  have a157 := no157 169 (by decide) (.pointer (some ⟨k, 0, none⟩))
  have a158 := no158 169 (by decide) (.pointer (some ⟨k, 0, none⟩))
  obtain ⟨W1, hW1⟩ : ∃ W1, W1 = w.setCell ⟨b, 2, none⟩ (.int .i64 ((n + 1 : Nat) : Int)) := ⟨_, rfl⟩
  rw [← hW1] at HS hw
  have d2 : W1.cell? ⟨b, 2, none⟩ = some (.int .i64 ((n + 1 : Nat) : Int)) := hw.parts.2.1
  have hw1 := hW1.symm
  obtain ⟨k', hk'⟩ : ∃ k' : Int, k' = n := ⟨_, rfl⟩
  have e1 : ((n + 1 : Nat) : Int) = k' + 1 := by omega
  rw [e1] at hw1 d2
  rw [← hk'] at c2
  have hd : decide (k' + 1 ≤ 300) = true := by simp; omega
  have hb0 : 0 ≤ k' := by omega
  have hb1 : k' ≤ 299 := by omega
  have HG : Hid (∀ e w', ToldS B rb gb Bw b m w txt.length n (.ok ⟨txt ++ [35, 112], n + 1⟩, σ) e w' → ToldS B rb gb Bw b m w txt.length n (.ok ⟨txt ++ [35, 112], n + 1⟩, σ) e w') := fun _ _ x => x
  clear h hk hw hn hW1 e1 hk'
  go_enter Tryz.func140, Tryz.ntmps140
  go_wp2_with fail
  refine (Must_yes _ _).mono ?_
  rintro e w1 ⟨rfl, rfl⟩
  go_wp2_with fail
  first | refine (HS.out _ (Below.refl _ _)).mono ?_ | refine (HS.out _ ((Below.refl _ _).alloc (Nat.le_refl _) _)).mono ?_
  rintro e w2 ⟨⟨z, rfl⟩, ht⟩
  go_wp2_with fail
  go_end0
  exact ht
end
section
set_option linter.unusedVariables false
set_option linter.unusedSimpArgs false
open Go.RowKit
open Go.Proofs.YthikdpclifeonaaGreatDoor

set_option maxRecDepth 100000 in
set_option maxHeartbeats 800000 in
theorem value_tru (B rb : Nat) (gb : Rc) (Bw b T n : Nat) (m : Mm) (σ : St) (txt : List UInt8) (q : Bool) (w : World) (h : ShowAt B rb gb Bw b T m σ n txt w) (hn : n < 300) :
    Calls Tryz.prog 140 #[.pointer (some ⟨b, 0, none⟩), .iface 163 (.bool q)] w (ToldS B rb gb Bw b m w txt.length n (.ok ⟨txt ++ truthB q, n + 1⟩, σ)) := by
  obtain ⟨c2, z2, hk, hw⟩ := h.node
  have hz : (w.setCell ⟨b, 2, none⟩ (.int .i64 ((n + 1 : Nat) : Int))).heap.size = w.heap.size := by simp
  have HS : Hid (Calls Tryz.prog 160 #[.pointer (some ⟨b, 0, none⟩), .bool q] (w.setCell ⟨b, 2, none⟩ (.int .i64 ((n + 1 : Nat) : Int))) fun e w' => e = .returned (.tuple #[]) ∧ ToldS B rb gb Bw b m w txt.length n (.ok ⟨txt ++ truthB q, n + 1⟩, σ) (.returned (.tuple #[])) w') := by
    refine (truth_kb Bw b ((n + 1 : Nat) : Int) q txt _ hw (by have := h.len; omega) (by rw [hz]; exact h.hw)).mono ?_
    rintro e w' ⟨rfl, h1, h2⟩
    exact ⟨rfl, leaf_end h hn (hk.trans h2) h1 (by simp [truthB])⟩
  have a104 := no104 163 (by decide) (.bool q)
  have ay := assertT (.bool q)
  obtain ⟨W1, hW1⟩ : ∃ W1, W1 = w.setCell ⟨b, 2, none⟩ (.int .i64 ((n + 1 : Nat) : Int)) := ⟨_, rfl⟩
  rw [← hW1] at HS hw
  have d2 : W1.cell? ⟨b, 2, none⟩ = some (.int .i64 ((n + 1 : Nat) : Int)) := hw.parts.2.1
  have hw1 := hW1.symm
  obtain ⟨k', hk'⟩ : ∃ k' : Int, k' = n := ⟨_, rfl⟩
  have e1 : ((n + 1 : Nat) : Int) = k' + 1 := by omega
  rw [e1] at hw1 d2
  rw [← hk'] at c2
  have hd : decide (k' + 1 ≤ 300) = true := by simp; omega
  have hb0 : 0 ≤ k' := by omega
  have hb1 : k' ≤ 299 := by omega
  clear h hk hw hn hW1 e1 hk' hz
  go_enter Tryz.func140, Tryz.ntmps140
  go_wp2_with fail
  refine (Must_yes _ _).mono ?_
  rintro e w1 ⟨rfl, rfl⟩
  go_wp2_with fail
  refine HS.out.mono ?_
  rintro e w2 ⟨rfl, ht⟩
  go_wp2_with fail
  go_end0
  exact ht
theorem inR_eq (n : Int) : inR n = rangeN n := rfl
set_option maxRecDepth 100000 in
set_option maxHeartbeats 800000 in
theorem value_nums (B rb : Nat) (gb : Rc) (Bw b T n : Nat) (m : Mm) (σ : St) (txt : List UInt8) (q : Int) (w : World) (h : ShowAt B rb gb Bw b T m σ n txt w) (hn : n < 300) (hq : inR q = true) :
    Calls Tryz.prog 140 #[.pointer (some ⟨b, 0, none⟩), .iface 162 (.int .i64 q)] w (ToldS B rb gb Bw b m w txt.length n (.ok ⟨txt ++ Lib.itoa q, n + 1⟩, σ)) := by
  obtain ⟨c2, z2, hk, hw⟩ := h.node
  have hz : (w.setCell ⟨b, 2, none⟩ (.int .i64 ((n + 1 : Nat) : Int))).heap.size = w.heap.size := by simp
  have HS := hidd (h.str hn (Lib.itoa q) (itoa_short q hq))
  have hB0 : Below B w (w.setCell ⟨b, 2, none⟩ (.int .i64 ((n + 1 : Nat) : Int))) := (Below.refl B w).setCell (p := ⟨b, 2, none⟩) (Nat.le_trans h.hB h.wr.box.1) _
  have hT1 : Tab T (w.setCell ⟨b, 2, none⟩ (.int .i64 ((n + 1 : Nat) : Int))) := h.tab.below (hB0.mono h.hT)
  have hT2 : T ≤ (w.setCell ⟨b, 2, none⟩ (.int .i64 ((n + 1 : Nat) : Int))).heap.size := by rw [hz]; exact Nat.le_trans h.hT (Nat.le_trans h.hB h.hw)
  have hr := hq
  unfold inR at hr
  simp only [Bool.and_eq_true, decide_eq_true_eq] at hr
  have FI : Hid (∀ W, Below (w.setCell ⟨b, 2, none⟩ (.int .i64 ((n + 1 : Nat) : Int))).heap.size (w.setCell ⟨b, 2, none⟩ (.int .i64 ((n + 1 : Nat) : Int))) W → Calls Tryz.prog 111 #[.int .i64 q, .int .i64 10] W fun e w' => e = .returned (.string ⟨(Lib.itoa q).toArray⟩) ∧ Below W.heap.size W w') := fun W hb => FormatInt_any T q (by omega) (by omega) W (hT1.below (hb.mono hT2))
  have ay := assertN (.int .i64 q)
  obtain ⟨W1, hW1⟩ : ∃ W1, W1 = w.setCell ⟨b, 2, none⟩ (.int .i64 ((n + 1 : Nat) : Int)) := ⟨_, rfl⟩
  rw [← hW1] at HS hw FI
  have d2 : W1.cell? ⟨b, 2, none⟩ = some (.int .i64 ((n + 1 : Nat) : Int)) := hw.parts.2.1
  have hw1 := hW1.symm
  obtain ⟨k', hk'⟩ : ∃ k' : Int, k' = n := ⟨_, rfl⟩
  have e1 : ((n + 1 : Nat) : Int) = k' + 1 := by omega
  rw [e1] at hw1 d2
  rw [← hk'] at c2
  have hd : decide (k' + 1 ≤ 300) = true := by simp; omega
  have hb0 : 0 ≤ k' := by omega
  have hb1 : k' ≤ 299 := by omega
  clear h hk hw hn hW1 e1 hk' hz hT1 hT2 hB0 hr hq
  generalize Lib.itoa q = s at *
  go_enter Tryz.func140, Tryz.ntmps140
  go_wp2_with fail
  refine (Must_yes _ _).mono ?_
  rintro e w1 ⟨rfl, rfl⟩
  go_wp2_with fail
  go_region_with (first | (go_at_call 111; refine (FI.out _ (Below.drew (Below.refl _ _))).mono ?_; rintro e w2 ⟨rfl, hb2⟩) | (go_at_call 159; refine (HS.out _ ((Below.drew (Below.refl _ _)).trans hb2)).mono ?_; rintro e w3 ⟨⟨z, rfl⟩, ht⟩))
  all_goals
    go_wp2_with fail
    go_end0
    exact ht
end
section
set_option linter.unusedVariables false
set_option linter.unusedSimpArgs false
open Go.RowKit
open Go.Proofs.YthikdpclifeonaaGreatDoor

/-- Behind what the writer wrote. -/
theorem ShowAt.kb {B rb : Nat} {gb : Rc} {Bw b T n n' : Nat} {m : Mm} {σ : St} {txt txt' : List UInt8} {w w' : World} (h : ShowAt B rb gb Bw b T m σ n txt w) (hk : KB Bw b w w') (hw : Wr Bw b (n' : Int) txt' w') (hn : n' ≤ 300) (hl : txt'.length ≤ 300 * n' + 1000) : ShowAt B rb gb Bw b T m σ n' txt' w' := by
  have hb : Below B w w' := ⟨hk.os, hk.tape, hk.output, hk.size, fun q hq => hk.block q (by have := h.hB; have := h.hw; omega) (by have := h.wr.box.1; have := h.hB; omega) (fun _ _ _ => by have := h.hB; omega)⟩
  exact ⟨h.rel.kb hk h.wr h.hB (Nat.le_trans h.hB h.hw), hw, h.hB, Nat.le_trans h.hw hk.size, h.hT, h.tab.below (hb.mono h.hT), hn, hl⟩
/-- Behind the making of a pair's values. -/
theorem ShowAt.kr {B rb : Nat} {gb : Rc} {Bw b T n : Nat} {m m' : Mm} {σ σ' : St} {txt : List UInt8} {w w' : World} (h : ShowAt B rb gb Bw b T m σ n txt w) (hk : KR B rb gb m w w') (hr : Rel B rb gb m' σ' w') : ShowAt B rb gb Bw b T m' σ' n txt w' :=
  ⟨hr, h.wr.kr hk h.rel, h.hB, Nat.le_trans h.hw hk.size, h.hT, h.tab.below ((hk.toBelow h.rel (Nat.le_trans h.hB h.hw)).mono h.hT), h.hn, h.len⟩
/-- A byte is written. -/
theorem ShowAt.byte {B rb : Nat} {gb : Rc} {Bw b T n : Nat} {m : Mm} {σ : St} {txt : List UInt8} {w : World} (h : ShowAt B rb gb Bw b T m σ n txt w) (c : UInt8) (ci : Int) (hc : (c.toNat : Int) = ci) (hl : txt.length + 1 ≤ 300 * n + 1000) :
    Calls Tryz.prog 177 #[.pointer (some ⟨b, 0, none⟩), .int .u8 ci] w fun e w' => e = .returned .nilIface ∧ KB Bw b w w' ∧ ShowAt B rb gb Bw b T m σ n (txt ++ [c]) w' := by
  subst hc
  have hn := h.hn
  refine (WriteByte_kb Bw b n txt c w h.wr (by omega) h.hw).mono ?_
  rintro e w' ⟨rfl, h1, h2⟩
  exact ⟨rfl, h2, h.kb h2 h1 hn (by simpa using hl)⟩
/-- A dot is written. -/
theorem ShowAt.dot {B rb : Nat} {gb : Rc} {Bw b T n : Nat} {m : Mm} {σ : St} {txt : List UInt8} {w : World} (h : ShowAt B rb gb Bw b T m σ n txt w) (hl : txt.length + 3 ≤ 300 * n + 1000) :
    Calls Tryz.prog 159 #[.pointer (some ⟨b, 0, none⟩), .string ⟨#[32, 46, 32]⟩] w fun e w' => e = .returned (.tuple #[.int .i64 3, .nilIface]) ∧ KB Bw b w w' ∧ ShowAt B rb gb Bw b T m σ n (txt ++ [32, 46, 32]) w' := by
  have hn := h.hn
  have e3 : ByteArray.size ⟨#[32, 46, 32]⟩ = 3 := rfl
  have := WriteString_kb Bw b n txt ⟨#[32, 46, 32]⟩ w h.wr (by rw [e3]; omega) h.hw
  rw [e3] at this
  refine this.mono ?_
  rintro e w' ⟨rfl, h1, h2⟩
  exact ⟨rfl, h2, h.kb h2 h1 hn (by simpa using hl)⟩
/-- What is asked of the writing of values, with so much fuel. -/
def VOK (B rb : Nat) (gb : Rc) (Bw b T f : Nat) : Prop := ∀ (m : Mm) (σ : St) (v : Val) (n : Nat) (txt : List UInt8) (w : World), ShowAt B rb gb Bw b T m σ n txt w → VOk m v → 2 * (301 - n) + 1 ≤ f →
  Calls Tryz.prog 140 #[.pointer (some ⟨b, 0, none⟩), .iface (vT v) (vX m v)] w (ToldS B rb gb Bw b m w txt.length n (showF f v ⟨txt, n⟩ σ))
/-- Values that are no pairs. -/
theorem value_leaf (B rb : Nat) (gb : Rc) (Bw b T f : Nat) (m : Mm) (σ : St) (v : Val) (n : Nat) (txt : List UInt8) (w : World) (h : ShowAt B rb gb Bw b T m σ n txt w) (hv : VOk m v) (hp : ∀ i, v ≠ .pair i) :
    Calls Tryz.prog 140 #[.pointer (some ⟨b, 0, none⟩), .iface (vT v) (vX m v)] w (ToldS B rb gb Bw b m w txt.length n (showF (f + 1) v ⟨txt, n⟩ σ)) := by
  rw [showF]
  by_cases hn : 300 < n + 1
  · rw [if_pos hn]
    exact value_much B rb gb Bw b T n m σ txt _ _ w h hn
  rw [if_neg hn]
  have hn' : n < 300 := by omega
  cases v with
  | num q => exact value_nums B rb gb Bw b T n m σ txt q w h hn' hv
  | tru q => exact value_tru B rb gb Bw b T n m σ txt q w h hn'
  | sym s => exact value_sym B rb gb Bw b T n m σ txt s w h hn' hv.1
  | nil => exact value_nil B rb gb Bw b T n m σ txt w h hn'
  | prim s => exact value_prim B rb gb Bw b T n m σ txt s w h hn'
  | proc i => exact value_proc B rb gb Bw b T n m σ txt _ w h hn'
  | pair i => exact absurd rfl (hp i)
end
section
set_option linter.unusedVariables false
set_option linter.unusedSimpArgs false
open Go.RowKit
open Go.Proofs.YthikdpclifeonaaGreatDoor

/-- How a pair is written, its node counted. -/
def pairF (f i : Nat) (w : Wrt) (σ : St) : Res Wrt × St :=
  match showF f (valuesF i σ).1.1 (w.put [40]) (valuesF i σ).2 with
  | (.bad h, s) => (.bad h, s)
  | (.ok w2, s) => tailF f (valuesF i σ).1.2 w2 s
def ToldQ (B rb : Nat) (gb : Rc) (Bw b : Nat) (m : Mm) (w : World) (tl n : Nat) (r : Res Wrt × St) (e : Ending) (w' : World) : Prop :=
  ∃ m', Rel B rb gb m' r.2 w' ∧ New m m' w ∧ KS B rb gb Bw b m w w' ∧
    match r.1 with
    | .ok x => e = .returned (.tuple #[]) ∧ Wr Bw b (x.nodes : Int) x.txt w' ∧ n + 1 ≤ x.nodes ∧ x.nodes ≤ 300 ∧ x.txt.length + 98 ≤ tl + 300 * (x.nodes - n)
    | .bad h => e = .panicked (endP h)
def isP : Val → Bool
  | .pair _ => true
  | _ => false
def nxV (m : Mm) : Val → Value
  | .pair i => .pointer (some ⟨m.pr.getD i 0, 0, none⟩)
  | _ => .pointer none
theorem assertV (m : Mm) (v : Val) (w : World) : (Instr.typeAssert (.iface (vT v) (vX m v)) 155 243 true).run Tryz.prog w = .ok (.tuple #[nxV m v, .bool (isP v)]) w := by
  cases v with
  | pair i => exact assertPrP _ w
  | num q => exact no158 162 (by decide) _ w
  | tru q => exact no158 163 (by decide) _ w
  | sym q => exact no158 220 (by decide) _ w
  | nil => exact no158 242 (by decide) _ w
  | prim q => exact no158 168 (by decide) _ w
  | proc q => exact no158 169 (by decide) _ w
/-- What the loop of a list keeps: R is what all comes to. -/
structure LT (B rb : Nat) (gb : Rc) (Bw b T f n tl : Nat) (m : Mm) (w : World) (R : Res Wrt × St) (g : Nat) (m' : Mm) (σ' : St) (v : Val) (n' : Nat) (txt' : List UInt8) (wr : World) : Prop where
  at_ : ShowAt B rb gb Bw b T m' σ' n' txt' wr
  ok : VOk m' v
  new : New m m' w
  ks : KS B rb gb Bw b m w wr
  gf : g ≤ f
  fu : 2 * (301 - n') + 2 ≤ g
  eq : tailF g v ⟨txt', n'⟩ σ' = R
  nn : n + 1 ≤ n'
  ln : txt'.length + 99 ≤ tl + 300 * (n' - n)
theorem LT.node {B rb : Nat} {gb : Rc} {Bw b T f n tl : Nat} {m : Mm} {w : World} {R : Res Wrt × St} {g : Nat} {m' : Mm} {σ' : St} {v : Val} {n' : Nat} {txt' : List UInt8} {wr : World} (h : LT B rb gb Bw b T f n tl m w R g m' σ' v n' txt' wr) : wr.cell? ⟨b, 2, none⟩ = some (.int .i64 n') := h.at_.wr.parts.2.1
/-- All below B stays. -/
theorem KS.toBelow {B rb : Nat} {gb : Rc} {Bw b T n : Nat} {m : Mm} {σ : St} {txt : List UInt8} {w w' : World} (h : ShowAt B rb gb Bw b T m σ n txt w) (k : KS B rb gb Bw b m w w') : Below B w w' :=
  ⟨k.os, k.tape, k.output, k.size, fun q hq => k.block q (by have := h.hB; have := h.hw; omega) (by have := h.rel.hB; omega) trivial (by have := h.wr.box.1; have := h.hB; omega) (fun x => by have := h.rel.bp q x; omega) (fun x => by have := h.rel.br q x; omega) (fun _ _ _ => hq) (fun _ _ _ => by have := h.hB; omega)⟩
/-- Behind a value that was written. -/
theorem ShowAt.next {B rb : Nat} {gb : Rc} {Bw b T n n' : Nat} {m m' : Mm} {σ σ' : St} {txt txt' : List UInt8} {w w' : World} (h : ShowAt B rb gb Bw b T m σ n txt w) (k : KS B rb gb Bw b m w w') (r : Rel B rb gb m' σ' w') (hw : Wr Bw b (n' : Int) txt' w') (hn : n' ≤ 300) (hl : txt'.length ≤ 300 * n' + 1000) : ShowAt B rb gb Bw b T m' σ' n' txt' w' :=
  ⟨r, hw, h.hB, Nat.le_trans h.hw k.size, h.hT, h.tab.below ((KS.toBelow h k).mono h.hT), hn, hl⟩
end
end Go.Proofs.YthikdpclifeonaaGreatDoor.V
