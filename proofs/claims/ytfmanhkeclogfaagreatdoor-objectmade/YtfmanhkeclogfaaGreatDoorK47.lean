/- The document's answer to what is wrong with an expression. -/
import Derived.Test.YtfmanhkeclogfaaGreatDoorK46
import Derived.Deep.CutBlock
namespace Go.Proofs.YtfmanhkeclogfaaGreatDoor
set_option linter.unusedVariables false
set_option linter.unusedSimpArgs false
open Go.RowKit

/-- An expression as a value. -/
def cva (c : Cor) (qa : Option Addr) (qc : Nat) (ka : Option Addr) (kc : Nat) : Array Value := #[.int .i64 c.kind, .int .i64 c.index, .int .i64 c.n, .string c.lib, .string c.own, .int .i64 c.quote.kind, .int .i64 c.quote.n, .string c.quote.name, .int .i64 c.quote.stamp, .int .i64 c.quote.lib, .slice qa c.quote.kids.length qc, .slice ka c.kids.length kc]
/-- What hangs on it. -/
def CvOk (B : Nat) (w : World) (g : Nat) (c : Cor) (qa : Option Addr) (qc : Nat) (ka : Option Addr) (kc : Nat) : Prop := NcOk c qc kc ∧ Dc (fun k => k < B) w g qa c.quote.kids ∧ Cc B w g ka c.kids
theorem CvOk.below {B : Nat} {w w' : World} {g : Nat} {c : Cor} {qa : Option Addr} {qc : Nat} {ka : Option Addr} {kc : Nat} (h : CvOk B w g c qa qc ka kc) (hb : Below B w w') : CvOk B w' g c qa qc ka kc := ⟨h.1, Dc.stay (fun k hk => hb.block k hk) (fun _ hk => hk) _ _ _ h.2.1, h.2.2.below hb⟩

theorem wrapS {x : Int} (h0 : 0 ≤ x) (h1 : x ≤ 1000000000000) : IntKind.i64.wrap x = x := by
  have hm : x % 18446744073709551616 = x := by omega
  unfold IntKind.wrap
  simp [IntKind.bits, IntKind.signed, hm]
  omega
theorem LiesOne {B g : Nat} {w : World} {q : Dat} {qa : Option Addr} {qc : Nat} (h : Dc (fun k => k < B) w g qa q.kids) (hn : q.name.size ≤ maxLen) (hB : B ≤ w.heap.size) :
    Lies (w.heap.size + 1) (w.alloc (.cells #[.int .i64 q.kind, .int .i64 q.n, .string q.name, .int .i64 q.stamp, .int .i64 q.lib, .slice qa q.kids.length qc] 50)) (g + 1) (some ⟨w.heap.size, 0, none⟩) [q] := by
  have hc : ∀ j, (w.alloc (.cells #[.int .i64 q.kind, .int .i64 q.n, .string q.name, .int .i64 q.stamp, .int .i64 q.lib, .slice qa q.kids.length qc] 50)).cell? ⟨w.heap.size, j, none⟩ = _ := fun j => World.cell?_alloc_mark w _ 50 (0, 0) j
  refine ⟨by simp, Or.inr ⟨w.heap.size, 0, rfl, Nat.lt_succ_self _, fun i d hd => ?_⟩⟩
  cases i with
  | zero =>
    simp at hd
    subst hd
    refine ⟨qa, qc, hc 0, hc 1, hc 2, hc 3, hc 4, hc 5, hn, ?_⟩
    exact Dc.lies (fun k hk => Nat.lt_succ_of_lt (Nat.lt_of_lt_of_le hk hB)) g _ _ (Dc.stay (ok' := fun k => k < B) (fun k hk => Below.heap_alloc _ _ _ (Nat.lt_of_lt_of_le hk hB)) (fun _ hk => hk) g _ _ h)
  | succ i => simp at hd
theorem field_faultC (y1 y2 : Int) (w : World) : (Instr.field 42 (.agg #[.int .i64 y1, .int .i64 y2]) 0).run Tryz.prog w = .ok (.int .i64 y1) w := by
  simp [Instr.field, run_underlying Tryz.underlying42, go_sem, asAgg]

set_option maxRecDepth 100000 in
set_option maxHeartbeats 1600000 in
theorem CShape_deep (c : Cor) (qa ka : Option Addr) (qc kc : Nat) (ar : Int) (cb n : Nat) (w : World) (hn : n ≤ 3000) (hc : Ctr cb n w) :
    Calls Tryz.prog 44 #[.agg (cva c qa qc ka kc), .int .i64 ar, .int .i64 301, .pointer (some ⟨cb, 0, none⟩)] w (Told cb (4, n + 1) w) := by
  have c1 := hc.cell
  have f1 := hc.thaw
  have l1 := hc.lt
  have HC : Hid (Ctr cb n w) := hc
  clear hc
  unfold cva
  by_cases h : (3000 : Int) < n + 1
  · go_enter Tryz.func44, Tryz.ntmps44
    go_wp2_with fail
    go_ret
    exact ⟨rfl, ((Keep.refl _ _).setCell _ rfl _).alloc _, (HC.out.set (n + 1)).alloc _⟩
  · go_enter Tryz.func44, Tryz.ntmps44
    go_wp2_with fail
    go_ret
    exact ⟨rfl, ((Keep.refl _ _).setCell _ rfl _).alloc _, (HC.out.set (n + 1)).alloc _⟩

set_option maxRecDepth 100000 in
set_option maxHeartbeats 1600000 in
theorem CShape_much (c : Cor) (qa ka : Option Addr) (qc kc : Nat) (ar dp : Int) (cb n : Nat) (w : World) (hn : n = 3000) (hc : Ctr cb n w) :
    Calls Tryz.prog 44 #[.agg (cva c qa qc ka kc), .int .i64 ar, .int .i64 dp, .pointer (some ⟨cb, 0, none⟩)] w (Told cb (4, n + 1) w) := by
  have c1 := hc.cell
  have f1 := hc.thaw
  have l1 := hc.lt
  have HC : Hid (Ctr cb n w) := hc
  clear hc
  subst hn
  unfold cva
  go_enter Tryz.func44, Tryz.ntmps44
  go_wp2_with fail
  go_ret
  exact ⟨rfl, ((Keep.refl _ _).setCell _ rfl _).alloc _, (HC.out.set (3000 + 1)).alloc _⟩

set_option maxRecDepth 100000 in
set_option maxHeartbeats 12800000 in
theorem CShape_step (B F g : Nat) (c : Cor) (qa ka : Option Addr) (qc kc : Nat) (ar dp : Int) (cb n : Nat) (w : World) (hc : CvOk B w g c qa qc ka kc) (hn : n ≤ 2999) (hd0 : 1 ≤ dp) (hd : dp ≤ 300) (ha0 : 0 ≤ ar) (ha : ar ≤ 600000) (hB : B ≤ cb) (hcb : Ctr cb n w)
    (ih : ∀ (g : Nat) (c : Cor) (qa ka : Option Addr) (qc kc : Nat) (a2 : Int) (n : Nat) (w : World), 0 ≤ a2 → a2 ≤ ar + 2000 → CvOk B w g c qa qc ka kc → n ≤ 3000 → Ctr cb n w → Calls Tryz.prog 44 #[.agg (cva c qa qc ka kc), .int .i64 a2, .int .i64 (dp + 1), .pointer (some ⟨cb, 0, none⟩)] w (Told cb (ckC F a2 c n) w)) :
    Calls Tryz.prog 44 #[.agg (cva c qa qc ka kc), .int .i64 ar, .int .i64 dp, .pointer (some ⟨cb, 0, none⟩)] w (Told cb (if wkids c.kind c.kids.length = 0 then (if wfields c ar = 0 then ckL (ckC F (if c.kind = 8 then ar + c.index else ar)) c.kids (n + 1) else (wfields c ar, n + 1)) else (wkids c.kind c.kids.length, n + 1)) w) := by
  have IH := hidd ih
  have HN := hidd hc
  have c1 := hcb.cell
  have f1 := hcb.thaw
  have l1 := hcb.lt
  have hlen0 := hc.2.2.len
  have hkc0 : c.kids.length ≤ kc := hc.1.2.2.2.2
  have hBw : B ≤ w.heap.size := by omega
  have HCB := hidd hcb
  clear hcb ih hc
  obtain ⟨k, i, nn, lb, ow, q, ks⟩ := c
  simp only at hlen0 hkc0 ⊢
  obtain ⟨r, hr⟩ : ∃ r, r = (if wkids k ks.length = 0 then (if wfields ⟨k, i, nn, lb, ow, q, ks⟩ ar = 0 then ckL (ckC F (if k = 8 then ar + i else ar)) ks (n + 1) else (wfields ⟨k, i, nn, lb, ow, q, ks⟩ ar, n + 1)) else (wkids k ks.length, n + 1)) := ⟨_, rfl⟩
  rw [← hr]
  have HR := hidd hr
  clear hr
  unfold cva
  simp only
  have KW : Hid (Keep cb w ((w.setCell ⟨cb, 0, none⟩ (.int .i64 ((n : Int) + 1))).alloc (.cells #[.int .i64 k, .int .i64 i, .int .i64 nn, .string lb, .string ow, .int .i64 q.kind, .int .i64 q.n, .string q.name, .int .i64 q.stamp, .int .i64 q.lib, .slice qa q.kids.length qc, .slice ka ks.length kc] 90)) ∧ Ctr cb (n + 1) ((w.setCell ⟨cb, 0, none⟩ (.int .i64 ((n : Int) + 1))).alloc (.cells #[.int .i64 k, .int .i64 i, .int .i64 nn, .string lb, .string ow, .int .i64 q.kind, .int .i64 q.n, .string q.name, .int .i64 q.stamp, .int .i64 q.lib, .slice qa q.kids.length qc, .slice ka ks.length kc] 90))) := by
    rw [show ((n : Int) + 1) = ((n + 1 : Nat) : Int) by omega]
    exact ⟨((Keep.refl _ _).setCell _ rfl _).alloc _, (HCB.out.set (n + 1)).alloc _⟩
  have HBX : Hid (((w.setCell ⟨cb, 0, none⟩ (.int .i64 ((n : Int) + 1))).alloc (.cells #[.int .i64 k, .int .i64 i, .int .i64 nn, .string lb, .string ow, .int .i64 q.kind, .int .i64 q.n, .string q.name, .int .i64 q.stamp, .int .i64 q.lib, .slice qa q.kids.length qc, .slice ka ks.length kc] 90)).heap[w.heap.size]? = some (.cells #[.int .i64 k, .int .i64 i, .int .i64 nn, .string lb, .string ow, .int .i64 q.kind, .int .i64 q.n, .string q.name, .int .i64 q.stamp, .int .i64 q.lib, .slice qa q.kids.length qc, .slice ka ks.length kc] 90 (0, 0))) := by
    have h := World.alloc_heap_new (w.setCell ⟨cb, 0, none⟩ (.int .i64 ((n : Int) + 1))) (.cells #[.int .i64 k, .int .i64 i, .int .i64 nn, .string lb, .string ow, .int .i64 q.kind, .int .i64 q.n, .string q.name, .int .i64 q.stamp, .int .i64 q.lib, .slice qa q.kids.length qc, .slice ka ks.length kc] 90)
    have e : (w.setCell ⟨cb, 0, none⟩ (.int .i64 ((n : Int) + 1))).heap.size = w.heap.size := by simp [World.setCell]
    rw [e] at h
    exact h
  go_enter Tryz.func44, Tryz.ntmps44
  go_upto_region 4 with fail
  generalize (w.setCell ⟨cb, 0, none⟩ (.int .i64 ((n : Int) + 1))).alloc (.cells #[.int .i64 k, .int .i64 i, .int .i64 nn, .string lb, .string ow, .int .i64 q.kind, .int .i64 q.n, .string q.name, .int .i64 q.stamp, .int .i64 q.lib, .slice qa q.kids.length qc, .slice ka ks.length kc] 90) = W0 at KW HBX ⊢
  generalize w.heap.size = nb at HBX ⊢
  have z0 : W0.cell? ⟨nb, 0, none⟩ = some (.int .i64 k) := (cellOf HBX.out).trans rfl
  have z1 : W0.cell? ⟨nb, 1, none⟩ = some (.int .i64 i) := (cellOf HBX.out).trans rfl
  have z2 : W0.cell? ⟨nb, 2, none⟩ = some (.int .i64 nn) := (cellOf HBX.out).trans rfl
  have z3 : W0.cell? ⟨nb, 3, none⟩ = some (.string lb) := (cellOf HBX.out).trans rfl
  have z4 : W0.cell? ⟨nb, 4, none⟩ = some (.string ow) := (cellOf HBX.out).trans rfl
  have z5 : W0.cell? ⟨nb, 5, none⟩ = some (.int .i64 q.kind) := (cellOf HBX.out).trans rfl
  have z6 : W0.cell? ⟨nb, 6, none⟩ = some (.int .i64 q.n) := (cellOf HBX.out).trans rfl
  have z7 : W0.cell? ⟨nb, 7, none⟩ = some (.string q.name) := (cellOf HBX.out).trans rfl
  have z8 : W0.cell? ⟨nb, 8, none⟩ = some (.int .i64 q.stamp) := (cellOf HBX.out).trans rfl
  have z9 : W0.cell? ⟨nb, 9, none⟩ = some (.int .i64 q.lib) := (cellOf HBX.out).trans rfl
  have z10 : W0.cell? ⟨nb, 10, none⟩ = some (.slice qa q.kids.length qc) := (cellOf HBX.out).trans rfl
  have z11 : W0.cell? ⟨nb, 11, none⟩ = some (.slice ka ks.length kc) := (cellOf HBX.out).trans rfl
  clear c1 f1 HCB
  go_upto_block 0 with fail
  go_cut [9] from 33 to 57 (fun s9 wx => s9 = .int .i64 ks.length ∧ Hid (wkids k ks.length = 0) ∧ W0 = wx)
  case first =>
    clear IH HN
    by_cases e1 : k = 1
    · subst e1
      by_cases hl : ks.length = 0
      · have HWK : Hid (wkids 1 ks.length = 0) := by unfold Hid wkids; simp [hl]
        have hb : (((ks.length : Nat) : Int) != 0) = false := by rw [bne_eq_false_iff_eq]; omega
        clear HR hl
        go_wp2_with fail
        go_meet
        case rel => exact ⟨rfl, HWK.out, rfl⟩
      · have HWK : Hid (wkids 1 ks.length = 5) := by unfold Hid wkids; simp [hl]
        have hb : (((ks.length : Nat) : Int) != 0) = true := by rw [bne_iff_ne]; omega
        have hre := HR.out
        rw [HWK.out, if_neg (by decide)] at hre
        subst hre
        clear HR hl HWK
        go_wp2_with fail
        go_ret
        exact ⟨rfl, KW.out.1, KW.out.2⟩
    have f1 : (k == 1) = false := by simpa using e1
    by_cases e2 : k = 2
    · subst e2
      by_cases hl : ks.length = 0
      · have HWK : Hid (wkids 2 ks.length = 0) := by unfold Hid wkids; simp [hl]
        have hb : (((ks.length : Nat) : Int) != 0) = false := by rw [bne_eq_false_iff_eq]; omega
        clear HR hl
        go_wp2_with fail
        go_meet
        case rel => exact ⟨rfl, HWK.out, rfl⟩
      · have HWK : Hid (wkids 2 ks.length = 5) := by unfold Hid wkids; simp [hl]
        have hb : (((ks.length : Nat) : Int) != 0) = true := by rw [bne_iff_ne]; omega
        have hre := HR.out
        rw [HWK.out, if_neg (by decide)] at hre
        subst hre
        clear HR hl HWK
        go_wp2_with fail
        go_ret
        exact ⟨rfl, KW.out.1, KW.out.2⟩
    have f2 : (k == 2) = false := by simpa using e2
    by_cases e3 : k = 3
    · subst e3
      by_cases hl : ks.length = 0
      · have HWK : Hid (wkids 3 ks.length = 0) := by unfold Hid wkids; simp [hl]
        have hb : (((ks.length : Nat) : Int) != 0) = false := by rw [bne_eq_false_iff_eq]; omega
        clear HR hl
        go_wp2_with fail
        go_meet
        case rel => exact ⟨rfl, HWK.out, rfl⟩
      · have HWK : Hid (wkids 3 ks.length = 5) := by unfold Hid wkids; simp [hl]
        have hb : (((ks.length : Nat) : Int) != 0) = true := by rw [bne_iff_ne]; omega
        have hre := HR.out
        rw [HWK.out, if_neg (by decide)] at hre
        subst hre
        clear HR hl HWK
        go_wp2_with fail
        go_ret
        exact ⟨rfl, KW.out.1, KW.out.2⟩
    have f3 : (k == 3) = false := by simpa using e3
    by_cases e4 : k = 4
    · subst e4
      by_cases hl : ks.length = 0
      · have HWK : Hid (wkids 4 ks.length = 0) := by unfold Hid wkids; simp [hl]
        have hb : (((ks.length : Nat) : Int) != 0) = false := by rw [bne_eq_false_iff_eq]; omega
        clear HR hl
        go_wp2_with fail
        go_meet
        case rel => exact ⟨rfl, HWK.out, rfl⟩
      · have HWK : Hid (wkids 4 ks.length = 5) := by unfold Hid wkids; simp [hl]
        have hb : (((ks.length : Nat) : Int) != 0) = true := by rw [bne_iff_ne]; omega
        have hre := HR.out
        rw [HWK.out, if_neg (by decide)] at hre
        subst hre
        clear HR hl HWK
        go_wp2_with fail
        go_ret
        exact ⟨rfl, KW.out.1, KW.out.2⟩
    have f4 : (k == 4) = false := by simpa using e4
    by_cases e5 : k = 5
    · subst e5
      by_cases hl : ks.length = 0
      · have HWK : Hid (wkids 5 ks.length = 0) := by unfold Hid wkids; simp [hl]
        have hb : (((ks.length : Nat) : Int) != 0) = false := by rw [bne_eq_false_iff_eq]; omega
        clear HR hl
        go_wp2_with fail
        go_meet
        case rel => exact ⟨rfl, HWK.out, rfl⟩
      · have HWK : Hid (wkids 5 ks.length = 5) := by unfold Hid wkids; simp [hl]
        have hb : (((ks.length : Nat) : Int) != 0) = true := by rw [bne_iff_ne]; omega
        have hre := HR.out
        rw [HWK.out, if_neg (by decide)] at hre
        subst hre
        clear HR hl HWK
        go_wp2_with fail
        go_ret
        exact ⟨rfl, KW.out.1, KW.out.2⟩
    have f5 : (k == 5) = false := by simpa using e5
    by_cases e6 : k = 6
    · subst e6
      by_cases hl : ks.length = 0
      · have HWK : Hid (wkids 6 ks.length = 0) := by unfold Hid wkids; simp [hl]
        have hb : (((ks.length : Nat) : Int) != 0) = false := by rw [bne_eq_false_iff_eq]; omega
        clear HR hl
        go_wp2_with fail
        go_meet
        case rel => exact ⟨rfl, HWK.out, rfl⟩
      · have HWK : Hid (wkids 6 ks.length = 5) := by unfold Hid wkids; simp [hl]
        have hb : (((ks.length : Nat) : Int) != 0) = true := by rw [bne_iff_ne]; omega
        have hre := HR.out
        rw [HWK.out, if_neg (by decide)] at hre
        subst hre
        clear HR hl HWK
        go_wp2_with fail
        go_ret
        exact ⟨rfl, KW.out.1, KW.out.2⟩
    have f6 : (k == 6) = false := by simpa using e6
    by_cases e8 : k = 8
    · subst e8
      by_cases hl : ks.length = 1
      · have HWK : Hid (wkids 8 ks.length = 0) := by unfold Hid wkids; simp [hl]
        have hb : (((ks.length : Nat) : Int) != 1) = false := by rw [bne_eq_false_iff_eq]; omega
        clear HR hl
        go_wp2_with fail
        go_meet
        case rel => exact ⟨rfl, HWK.out, rfl⟩
      · have HWK : Hid (wkids 8 ks.length = 5) := by unfold Hid wkids; simp [hl]
        have hb : (((ks.length : Nat) : Int) != 1) = true := by rw [bne_iff_ne]; omega
        have hre := HR.out
        rw [HWK.out, if_neg (by decide)] at hre
        subst hre
        clear HR hl HWK
        go_wp2_with fail
        go_ret
        exact ⟨rfl, KW.out.1, KW.out.2⟩
    have f8 : (k == 8) = false := by simpa using e8
    by_cases e10 : k = 10
    · subst e10
      by_cases hl : ks.length = 1
      · have HWK : Hid (wkids 10 ks.length = 0) := by unfold Hid wkids; simp [hl]
        have hb : (((ks.length : Nat) : Int) != 1) = false := by rw [bne_eq_false_iff_eq]; omega
        clear HR hl
        go_wp2_with fail
        go_meet
        case rel => exact ⟨rfl, HWK.out, rfl⟩
      · have HWK : Hid (wkids 10 ks.length = 5) := by unfold Hid wkids; simp [hl]
        have hb : (((ks.length : Nat) : Int) != 1) = true := by rw [bne_iff_ne]; omega
        have hre := HR.out
        rw [HWK.out, if_neg (by decide)] at hre
        subst hre
        clear HR hl HWK
        go_wp2_with fail
        go_ret
        exact ⟨rfl, KW.out.1, KW.out.2⟩
    have f10 : (k == 10) = false := by simpa using e10
    by_cases e11 : k = 11
    · subst e11
      by_cases hl : ks.length = 1
      · have HWK : Hid (wkids 11 ks.length = 0) := by unfold Hid wkids; simp [hl]
        have hb : (((ks.length : Nat) : Int) != 1) = false := by rw [bne_eq_false_iff_eq]; omega
        clear HR hl
        go_wp2_with fail
        go_meet
        case rel => exact ⟨rfl, HWK.out, rfl⟩
      · have HWK : Hid (wkids 11 ks.length = 5) := by unfold Hid wkids; simp [hl]
        have hb : (((ks.length : Nat) : Int) != 1) = true := by rw [bne_iff_ne]; omega
        have hre := HR.out
        rw [HWK.out, if_neg (by decide)] at hre
        subst hre
        clear HR hl HWK
        go_wp2_with fail
        go_ret
        exact ⟨rfl, KW.out.1, KW.out.2⟩
    have f11 : (k == 11) = false := by simpa using e11
    by_cases e13 : k = 13
    · subst e13
      by_cases hl : ks.length = 1
      · have HWK : Hid (wkids 13 ks.length = 0) := by unfold Hid wkids; simp [hl]
        have hb : (((ks.length : Nat) : Int) != 1) = false := by rw [bne_eq_false_iff_eq]; omega
        clear HR hl
        go_wp2_with fail
        go_meet
        case rel => exact ⟨rfl, HWK.out, rfl⟩
      · have HWK : Hid (wkids 13 ks.length = 5) := by unfold Hid wkids; simp [hl]
        have hb : (((ks.length : Nat) : Int) != 1) = true := by rw [bne_iff_ne]; omega
        have hre := HR.out
        rw [HWK.out, if_neg (by decide)] at hre
        subst hre
        clear HR hl HWK
        go_wp2_with fail
        go_ret
        exact ⟨rfl, KW.out.1, KW.out.2⟩
    have f13 : (k == 13) = false := by simpa using e13
    by_cases e7 : k = 7
    · subst e7
      by_cases hl : ks.length = 3
      · have HWK : Hid (wkids 7 ks.length = 0) := by unfold Hid wkids; simp [hl]
        have hb : (((ks.length : Nat) : Int) != 3) = false := by rw [bne_eq_false_iff_eq]; omega
        clear HR hl
        go_wp2_with fail
        go_meet
        case rel => exact ⟨rfl, HWK.out, rfl⟩
      · have HWK : Hid (wkids 7 ks.length = 5) := by unfold Hid wkids; simp [hl]
        have hb : (((ks.length : Nat) : Int) != 3) = true := by rw [bne_iff_ne]; omega
        have hre := HR.out
        rw [HWK.out, if_neg (by decide)] at hre
        subst hre
        clear HR hl HWK
        go_wp2_with fail
        go_ret
        exact ⟨rfl, KW.out.1, KW.out.2⟩
    have f7 : (k == 7) = false := by simpa using e7
    by_cases e9 : k = 9
    · subst e9
      by_cases hl : ks.length = 0
      · have HWK : Hid (wkids 9 ks.length = 5) := by unfold Hid wkids; simp [hl]
        have hb : (((ks.length : Nat) : Int) == 0) = true := by rw [beq_iff_eq]; omega
        have hre := HR.out
        rw [HWK.out, if_neg (by decide)] at hre
        subst hre
        clear HR hl HWK
        go_wp2_with fail
        go_ret
        exact ⟨rfl, KW.out.1, KW.out.2⟩
      · have HWK : Hid (wkids 9 ks.length = 0) := by unfold Hid wkids; rw [if_neg (by decide), if_neg (by decide), if_neg (by decide), if_pos (by decide), if_pos (by omega)]
        have hb : (((ks.length : Nat) : Int) == 0) = false := by rw [beq_eq_false_iff_ne]; omega
        clear HR hl
        go_wp2_with fail
        go_meet
        case rel => exact ⟨rfl, HWK.out, rfl⟩
    have f9 : (k == 9) = false := by simpa using e9
    by_cases e12 : k = 12
    · subst e12
      by_cases hl : ks.length = 0
      · have HWK : Hid (wkids 12 ks.length = 5) := by unfold Hid wkids; simp [hl]
        have hb : (((ks.length : Nat) : Int) == 0) = true := by rw [beq_iff_eq]; omega
        have hre := HR.out
        rw [HWK.out, if_neg (by decide)] at hre
        subst hre
        clear HR hl HWK
        go_wp2_with fail
        go_ret
        exact ⟨rfl, KW.out.1, KW.out.2⟩
      · have HWK : Hid (wkids 12 ks.length = 0) := by unfold Hid wkids; rw [if_neg (by decide), if_neg (by decide), if_neg (by decide), if_pos (by decide), if_pos (by omega)]
        have hb : (((ks.length : Nat) : Int) == 0) = false := by rw [beq_eq_false_iff_ne]; omega
        clear HR hl
        go_wp2_with fail
        go_meet
        case rel => exact ⟨rfl, HWK.out, rfl⟩
    have f12 : (k == 12) = false := by simpa using e12
    have HWK : Hid (wkids k ks.length = 1) := by unfold Hid wkids; simp [*]
    have hre := HR.out
    rw [HWK.out, if_neg (by decide)] at hre
    subst hre
    clear HR HWK e1 e2 e3 e4 e5 e6 e8 e10 e11 e13 e7 e9 e12
    go_wp2_with fail
    go_ret
    exact ⟨rfl, KW.out.1, KW.out.2⟩
  case rest =>
  obtain ⟨rfl, HWK, hwc⟩ := hcut
  subst hwc
  have hre0 := HR.out
  rw [if_pos HWK.out] at hre0
  have HR2 := hidd hre0
  clear hre0 HR
  go_upto_block 1 with fail
  go_cut [1, 10] from 60 to 118 (fun s1 s10 wx => ∃ (bad : Bool) (a1 : Int), s1 = .int .i64 a1 ∧ s10 = .bool bad ∧ Hid (wfields ⟨k, i, nn, lb, ow, q, ks⟩ ar = if bad = true then 3 else 0) ∧ Hid (bad = false → a1 = (if k = 8 then ar + i else ar) ∧ 0 ≤ a1 ∧ a1 ≤ ar + 2000) ∧ Hid (Below W0.heap.size W0 wx))
  case first =>
    clear IH
    by_cases e1 : k = 1
    · subst e1
      by_cases p1 : (1000000000000000 : Int) < nn
      · have HWF : Hid (wfields ⟨1, i, nn, lb, ow, q, ks⟩ ar = if true = true then 3 else 0) := by unfold Hid wfields; simp; omega
        clear HR2 HN
        go_wp2_with fail
        go_meet
        case rel => exact ⟨true, _, rfl, rfl, HWF.out, (fun h => by cases h), Below.refl _ _⟩
      by_cases p2 : nn < (-1000000000000000 : Int)
      · have HWF : Hid (wfields ⟨1, i, nn, lb, ow, q, ks⟩ ar = if true = true then 3 else 0) := by unfold Hid wfields; simp; omega
        clear HR2 HN
        go_wp2_with fail
        go_meet
        case rel => exact ⟨true, _, rfl, rfl, HWF.out, (fun h => by cases h), Below.refl _ _⟩
      · have HWF : Hid (wfields ⟨1, i, nn, lb, ow, q, ks⟩ ar = if false = true then 3 else 0) := by unfold Hid wfields; simp; omega
        clear HR2 HN
        go_wp2_with fail
        go_meet
        case rel => exact ⟨false, _, rfl, rfl, HWF.out, (fun _ => ⟨by simp, by omega, by omega⟩), Below.refl _ _⟩
    have f1 : (k == 1) = false := by simpa using e1
    by_cases e2 : k = 2
    · subst e2
      by_cases p1 : nn < (0 : Int)
      · have HWF : Hid (wfields ⟨2, i, nn, lb, ow, q, ks⟩ ar = if true = true then 3 else 0) := by unfold Hid wfields; simp; omega
        clear HR2 HN
        go_wp2_with fail
        go_meet
        case rel => exact ⟨true, _, rfl, rfl, HWF.out, (fun h => by cases h), Below.refl _ _⟩
      by_cases p2 : (1 : Int) < nn
      · have HWF : Hid (wfields ⟨2, i, nn, lb, ow, q, ks⟩ ar = if true = true then 3 else 0) := by unfold Hid wfields; simp; omega
        clear HR2 HN
        go_wp2_with fail
        go_meet
        case rel => exact ⟨true, _, rfl, rfl, HWF.out, (fun h => by cases h), Below.refl _ _⟩
      · have HWF : Hid (wfields ⟨2, i, nn, lb, ow, q, ks⟩ ar = if false = true then 3 else 0) := by unfold Hid wfields; simp; omega
        clear HR2 HN
        go_wp2_with fail
        go_meet
        case rel => exact ⟨false, _, rfl, rfl, HWF.out, (fun _ => ⟨by simp, by omega, by omega⟩), Below.refl _ _⟩
    have f2 : (k == 2) = false := by simpa using e2
    by_cases e4 : k = 4
    · subst e4
      by_cases p1 : i < (0 : Int)
      · have HWF : Hid (wfields ⟨4, i, nn, lb, ow, q, ks⟩ ar = if true = true then 3 else 0) := by unfold Hid wfields; simp; omega
        clear HR2 HN
        go_wp2_with fail
        go_meet
        case rel => exact ⟨true, _, rfl, rfl, HWF.out, (fun h => by cases h), Below.refl _ _⟩
      by_cases p2 : ar ≤ i
      · have HWF : Hid (wfields ⟨4, i, nn, lb, ow, q, ks⟩ ar = if true = true then 3 else 0) := by unfold Hid wfields; simp; omega
        clear HR2 HN
        go_wp2_with fail
        go_meet
        case rel => exact ⟨true, _, rfl, rfl, HWF.out, (fun h => by cases h), Below.refl _ _⟩
      · have HWF : Hid (wfields ⟨4, i, nn, lb, ow, q, ks⟩ ar = if false = true then 3 else 0) := by unfold Hid wfields; simp; omega
        clear HR2 HN
        go_wp2_with fail
        go_meet
        case rel => exact ⟨false, _, rfl, rfl, HWF.out, (fun _ => ⟨by simp, by omega, by omega⟩), Below.refl _ _⟩
    have f4 : (k == 4) = false := by simpa using e4
    by_cases e10 : k = 10
    · subst e10
      by_cases p1 : i < (0 : Int)
      · have HWF : Hid (wfields ⟨10, i, nn, lb, ow, q, ks⟩ ar = if true = true then 3 else 0) := by unfold Hid wfields; simp; omega
        clear HR2 HN
        go_wp2_with fail
        go_meet
        case rel => exact ⟨true, _, rfl, rfl, HWF.out, (fun h => by cases h), Below.refl _ _⟩
      by_cases p2 : ar ≤ i
      · have HWF : Hid (wfields ⟨10, i, nn, lb, ow, q, ks⟩ ar = if true = true then 3 else 0) := by unfold Hid wfields; simp; omega
        clear HR2 HN
        go_wp2_with fail
        go_meet
        case rel => exact ⟨true, _, rfl, rfl, HWF.out, (fun h => by cases h), Below.refl _ _⟩
      · have HWF : Hid (wfields ⟨10, i, nn, lb, ow, q, ks⟩ ar = if false = true then 3 else 0) := by unfold Hid wfields; simp; omega
        clear HR2 HN
        go_wp2_with fail
        go_meet
        case rel => exact ⟨false, _, rfl, rfl, HWF.out, (fun _ => ⟨by simp, by omega, by omega⟩), Below.refl _ _⟩
    have f10 : (k == 10) = false := by simpa using e10
    by_cases e8 : k = 8
    · subst e8
      by_cases p1 : i < (0 : Int)
      · have HWF : Hid (wfields ⟨8, i, nn, lb, ow, q, ks⟩ ar = if true = true then 3 else 0) := by unfold Hid wfields; simp; omega
        clear HR2 HN
        go_wp2_with fail
        go_meet
        case rel => exact ⟨true, _, rfl, rfl, HWF.out, (fun h => by cases h), Below.refl _ _⟩
      by_cases p2 : (2000 : Int) < i
      · have HWF : Hid (wfields ⟨8, i, nn, lb, ow, q, ks⟩ ar = if true = true then 3 else 0) := by unfold Hid wfields; simp; omega
        clear HR2 HN
        go_wp2_with fail
        go_meet
        case rel => exact ⟨true, _, rfl, rfl, HWF.out, (fun h => by cases h), Below.refl _ _⟩
      · have wx : IntKind.i64.wrap (ar + i) = ar + i := by (have h1 : 0 ≤ ar + i := by omega); (have h2 : ar + i ≤ 1000000000000 := by omega); exact wrapS h1 h2
        have HWF : Hid (wfields ⟨8, i, nn, lb, ow, q, ks⟩ ar = if false = true then 3 else 0) := by unfold Hid wfields; simp; omega
        clear HR2 HN
        go_wp2_with fail
        go_meet
        case rel => exact ⟨false, _, rfl, rfl, HWF.out, (fun _ => ⟨by simp, by omega, by omega⟩), Below.refl _ _⟩
    have f8 : (k == 8) = false := by simpa using e8
    by_cases e6 : k = 6
    · subst e6
      have HP := hidd (Prim_any ow W0)
      by_cases hp : argsB ow = 0
      · have hre := HR2.out
        rw [show wfields ⟨6, i, nn, lb, ow, q, ks⟩ ar = 7 by (unfold wfields; simp [hp]), if_neg (by decide)] at hre
        subst hre
        rw [decide_eq_false (by simpa using hp)] at HP
        clear HR2 HN
        go_wp2_with fail
        refine HP.out.mono ?_
        rintro e w2 ⟨rfl, hb2⟩
        have K2 := hidd (KW.out.1.below hb2)
        have C2 := hidd (KW.out.2.below hb2)
        clear hb2 HP
        go_wp2_with fail
        go_ret
        exact ⟨rfl, K2.out, C2.out⟩
      · rw [decide_eq_true hp] at HP
        have HWF : Hid (wfields ⟨6, i, nn, lb, ow, q, ks⟩ ar = if false = true then 3 else 0) := by unfold Hid wfields; simp [hp]
        clear HR2 HN
        go_wp2_with fail
        refine HP.out.mono ?_
        rintro e w2 ⟨rfl, hb2⟩
        have B2 := hidd hb2
        clear hb2 HP
        go_wp2_with fail
        go_meet
        case rel => exact ⟨false, ar, rfl, rfl, HWF.out, fun _ => ⟨by simp, by omega, by omega⟩, B2.out⟩
    have f6 : (k == 6) = false := by simpa using e6
    by_cases e3 : k = 3
    · subst e3
      have hks : ks = [] := by have h := HWK.out; unfold wkids at h; simp at h; exact h
      subst hks
      have hre := HR2.out
      rw [show wfields ⟨3, i, nn, lb, ow, q, []⟩ ar = (wrong [q]).1 by (unfold wfields; simp)] at hre
      have HRQ : Hid (r = ((wrong [q]).1, n + 1)) := by show _ = _; rw [hre]; split; (rename_i h; rw [h]; rfl); rfl
      clear hre HR2
      have hq2 := (HN.out.below (KW.out.1.toBelow hB hBw)).2.1
      have hqc := HN.out.1.2.2.2.1
      have hqn := HN.out.1.2.2.1
      simp only at hq2 hqc hqn
      have hQB : Below W0.heap.size W0 (W0.alloc (.cells #[.int .i64 q.kind, .int .i64 q.n, .string q.name, .int .i64 q.stamp, .int .i64 q.lib, .slice qa q.kids.length qc] 50)) := (Below.refl _ _).alloc (Nat.le_refl _) _
      have hwl : B ≤ W0.heap.size := Nat.le_trans hBw KW.out.1.size
      have LQ := hidd (LiesOne (B := B) (qc := qc) hq2 hqn hwl)
      have RW := hidd (refWrong_any (W0.heap.size + 1) (g + 1) [q] (some ⟨W0.heap.size, 0, none⟩) 1 (W0.alloc (.cells #[.int .i64 q.kind, .int .i64 q.n, .string q.name, .int .i64 q.stamp, .int .i64 q.lib, .slice qa q.kids.length qc] 50)) LQ.out (by simp))
      obtain ⟨y1, y2, hy⟩ : ∃ y1 y2, wrong [q] = (y1, y2) := ⟨_, _, rfl⟩
      rw [hy] at HRQ RW
      unfold fv at RW
      simp only at HRQ RW
      have HRR := HRQ.out
      subst HRR
      clear hy HN hq2 LQ HRQ
      have HQB := hidd hQB
      clear hQB
      go_wp2_with fail
      refine RW.out.mono ?_
      rintro e w2 ⟨rfl, hb2⟩
      have K2 := hidd (KW.out.1.below (HQB.out.trans (hb2.mono HQB.out.size)))
      have C2 := hidd (KW.out.2.below (HQB.out.trans (hb2.mono HQB.out.size)))
      have hfld := field_faultC y1 y2 w2
      clear hb2 RW HQB
      go_wp2_with fail
      go_ret
      exact ⟨rfl, K2.out, C2.out⟩
    have f3 : (k == 3) = false := by simpa using e3
    have HWF : Hid (wfields ⟨k, i, nn, lb, ow, q, ks⟩ ar = if false = true then 3 else 0) := by unfold Hid wfields; simp [*]
    have HA1 : Hid (ar = if k = 8 then ar + i else ar) := by show _ = _; rw [if_neg e8]
    clear HR2 HN e1 e2 e4 e10 e8 e6 e3
    go_wp2_with fail
    go_meet
    case rel => exact ⟨false, ar, rfl, rfl, HWF.out, fun _ => ⟨HA1.out, by omega, by omega⟩, Below.refl _ _⟩
  case rest =>
  obtain ⟨bad, a1, rfl, rfl, HWF, HA1, HBC⟩ := hcut
  have K1 := hidd (KW.out.1.below HBC.out)
  have C1 := hidd (KW.out.2.below HBC.out)
  cases bad with
  | true =>
    have hre := HR2.out
    rw [HWF.out, if_pos rfl, if_neg (by decide)] at hre
    subst hre
    clear HR2 HN IH HA1 HWF
    go_wp2_with fail
    go_ret
    exact ⟨rfl, K1.out, C1.out⟩
  | false =>
  obtain ⟨ha1, h01, h02⟩ := HA1.out rfl
  have hre := HR2.out
  rw [show wfields ⟨k, i, nn, lb, ow, q, ks⟩ ar = 0 by (rw [HWF.out]; rfl), if_pos rfl, ← ha1] at hre
  have HR3 := hidd hre
  have hnb : nb < W0.heap.size := (Array.getElem?_eq_some_iff.1 HBX.out).1
  have z11' := (HBC.out.cell (p := ⟨nb, 11, none⟩) hnb).trans z11
  clear hre HR2 HWF HA1 ha1 z0 z1 z2 z3 z4 z5 z6 z7 z8 z9 z10 z11 HBX
  go_wp2_with fail
  clear z11'
  go_loopw [123] (fun ix wr => ∃ j m : Nat, j ≤ ks.length ∧ m ≤ 3000 ∧ ix = .int .i64 j ∧ Hid (Keep cb w wr ∧ Ctr cb m wr) ∧ Hid (ckL (ckC F a1) ks (n + 1) = ckL (ckC F a1) (ks.drop j) m)) (fun ix _ => ks.length - (intOf ix).toNat)
  case atStart => exact ⟨0, n + 1, Nat.zero_le _, by omega, rfl, ⟨K1.out, C1.out⟩, (show _ = _ from rfl)⟩
  case round =>
    obtain ⟨j, m, hj, hm, rfl, HKr, HEQ⟩ := hrel
    clear K1 C1
    have CNr := hidd (HN.out.below (HKr.out.1.toBelow hB hBw))
    by_cases hlt : j < ks.length
    · obtain ⟨kid, hkid⟩ : ∃ kid, ks[j]? = some kid := ⟨ks[j], List.getElem?_eq_getElem hlt⟩
      have hne : ks ≠ [] := by intro e; rw [e] at hlt; simp at hlt
      obtain ⟨okr, _, hkr⟩ := CNr.out
      obtain ⟨g', b', o', hg, ha, hall⟩ := hkr.at hne
      subst ha
      obtain ⟨hbB, qa2, qc2, ka2, kc2, nc2, ok2, hq2, hk2⟩ := hall j kid hkid
      have y0 := nc2.c0
      have y1 := nc2.c1
      have y2 := nc2.c2
      have y3 := nc2.c3
      have y4 := nc2.c4
      have y5 := nc2.c5
      have y6 := nc2.c6
      have y7 := nc2.c7
      have y8 := nc2.c8
      have y9 := nc2.c9
      have y10 := nc2.c10
      have y11 := nc2.c11
      have ba : Below wr.heap.size wr (wr.alloc (.cells (cva kid qa2 qc2 ka2 kc2) 90)) := (Below.refl _ _).alloc (Nat.le_refl _) _
      have hcv : CvOk B (wr.alloc (.cells (cva kid qa2 qc2 ka2 kc2) 90)) g' kid qa2 qc2 ka2 kc2 := CvOk.below (w := wr) ⟨ok2, hq2, hk2⟩ (ba.mono (Nat.le_trans hBw HKr.out.1.size))
      have CALL := hidd (IH.out g' kid qa2 ka2 qc2 kc2 a1 m (wr.alloc (.cells (cva kid qa2 qc2 ka2 kc2) 90)) h01 h02 hcv hm (HKr.out.2.alloc _))
      have HKa := hidd (HKr.out.1.alloc (.cells (cva kid qa2 qc2 ka2 kc2) 90))
      unfold cva at CALL HKa
      have HK := hidd hkid
      clear hkid hall hkr nc2 ok2 hq2 hk2 hne hcv ba okr
      go_wp2_with fail
      refine CALL.out.mono ?_
      rintro e w3 ⟨rfl, hk3, hc3⟩
      have HK3 : Hid (Keep cb w w3) := HKa.out.trans hk3
      have HC3 := hidd hc3
      have HM : Hid ((ckC F a1 kid m).1 = 0 → (ckC F a1 kid m).2 ≤ 3000) := ckC_le F _ kid m hm
      have H1 : Hid ((ckC F a1 kid m).1 = 0 → ckL (ckC F a1) ks (n + 1) = ckL (ckC F a1) (ks.drop (j + 1)) (ckC F a1 kid m).2) := fun h => HEQ.out.trans (ckL_drop _ _ _ _ _ HK.out h)
      have H2 : Hid ((ckC F a1 kid m).1 ≠ 0 → ckL (ckC F a1) ks (n + 1) = ckC F a1 kid m) := fun h => HEQ.out.trans (ckL_bad _ _ _ _ _ HK.out h)
      clear hk3 hc3 HK HKr IH HEQ CNr HN HKa CALL y0 y1 y2 y3 y4 y5 y6 y7 y8 y9 y10 y11
      generalize ckC F a1 kid m = yy at HC3 HM H1 H2 ⊢
      obtain ⟨y1, y2⟩ := yy
      simp only at HC3 HM H1 H2 ⊢
      by_cases y0 : y1 = 0
      · subst y0
        have m0 := HM.out rfl
        have E0 := hidd (H1.out rfl)
        clear HM H1 H2
        go_wp2_with fail
        go_roundw
        case rel =>
          exact ⟨j + 1, y2, by omega, m0, by go_num, ⟨HK3.out, HC3.out⟩, E0.out⟩
        case measure => simp [intOf]; omega
      · have y0' : (y1 != 0) = true := by simpa using y0
        go_wp2_with fail
        go_ret
        refine ⟨?_, HK3.out, ?_⟩
        · rw [HR3.out, H2.out y0]; rfl
        · rw [HR3.out, H2.out y0]; exact HC3.out
    · obtain rfl : j = ks.length := by omega
      rw [List.drop_length] at HEQ
      clear IH CNr HN
      go_wp2_with fail
      go_ret
      refine ⟨?_, HKr.out.1, ?_⟩
      · rw [HR3.out, HEQ.out]; rfl
      · rw [HR3.out, HEQ.out]; exact HKr.out.2
/-- WHAT Shape TELLS. -/
theorem CShape_any (B cb : Nat) (hB : B ≤ cb) : ∀ (f : Nat), f ≤ 300 → ∀ (g : Nat) (c : Cor) (qa ka : Option Addr) (qc kc : Nat) (ar : Int) (n : Nat) (w : World), 0 ≤ ar → ar ≤ 2000 * (300 - f : Nat) → CvOk B w g c qa qc ka kc → n ≤ 3000 → Ctr cb n w →
    Calls Tryz.prog 44 #[.agg (cva c qa qc ka kc), .int .i64 ar, .int .i64 (301 - f : Nat), .pointer (some ⟨cb, 0, none⟩)] w (Told cb (ckC f ar c n) w)
  | 0, _, g, c, qa, ka, qc, kc, ar, n, w, _, _, _, hn, hc => by
    have := CShape_deep c qa ka qc kc ar cb n w hn hc
    simpa [ckC] using this
  | f + 1, hf, g, c, qa, ka, qc, kc, ar, n, w, h0, h1, hcv, hn, hc => by
    unfold ckC
    by_cases h : 3000 < n + 1
    · rw [if_pos h]
      exact CShape_much c qa ka qc kc ar _ cb n w (by omega) hc
    · rw [if_neg h]
      refine CShape_step B f g c qa ka qc kc ar _ cb n w hcv (by omega) (by omega) (by omega) h0 (by omega) hB hc ?_
      intro g c qa ka qc kc a2 n w ha0 ha hcv hn hc
      have := CShape_any B cb hB f (by omega) g c qa ka qc kc a2 n w ha0 (by omega) hcv hn hc
      rwa [show (((301 - (f + 1) : Nat) : Int) + 1) = ((301 - f : Nat) : Int) by omega]
end Go.Proofs.YtfmanhkeclogfaaGreatDoor
