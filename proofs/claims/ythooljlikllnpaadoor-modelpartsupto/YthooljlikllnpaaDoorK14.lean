/- What package model finds wrong with a node's fields. Package model's checker. -/
import Derived.Test.YthooljlikllnpaaDoorK06
namespace Go.Proofs.YthooljlikllnpaaDoor
section
set_option linter.unusedVariables false
set_option linter.unusedSimpArgs false
open Go.RowKit

theorem field_fault (x y : Int) (w : World) : (Instr.field 28 (.agg #[.int .i64 x, .int .i64 y]) 0).run Tryd.prog w = .ok (.int .i64 x) w := by
  simp [Instr.field, run_underlying Tryd.underlying28, go_sem, asAgg]

theorem Lies.mono {B B' : Nat} {w : World} (hB : B ≤ B') : ∀ (f : Nat) (a : Option Addr) (ds : List Dat), Lies B w f a ds → Lies B' w f a ds
  | 0, _, _, h => h
  | f + 1, a, ds, h => by
    obtain ⟨hl, h⟩ := h
    refine ⟨hl, ?_⟩
    rcases h with h | ⟨b, o, ha, hb, h⟩
    · exact Or.inl h
    · refine Or.inr ⟨b, o, ha, Nat.lt_of_lt_of_le hb hB, fun i d hd => ?_⟩
      obtain ⟨a', cap, c0, c1, c2, c3, c4, c5, hn, hk⟩ := h i d hd
      exact ⟨a', cap, c0, c1, c2, c3, c4, c5, hn, Lies.mono hB f a' _ hk⟩
/-- One datum in a block of its own. -/
theorem Lies.one {B f : Nat} {w : World} {d : Dat} {a : Option Addr} {cap : Nat} (hB : B ≤ w.heap.size) (h : Lies B w f a d.kids) (hn : d.name.size ≤ maxLen) :
    Lies (w.heap.size + 1) (w.alloc (.cells #[.int .i64 d.kind, .int .i64 d.n, .string d.name, .int .i64 d.stamp, .int .i64 d.lib, .slice a d.kids.length cap] 43)) (f + 1) (some ⟨w.heap.size, 0, none⟩) [d] := by
  have hN := World.alloc_heap_new w (.cells #[.int .i64 d.kind, .int .i64 d.n, .string d.name, .int .i64 d.stamp, .int .i64 d.lib, .slice a d.kids.length cap] 43)
  have hc : ∀ q, (w.alloc (.cells #[.int .i64 d.kind, .int .i64 d.n, .string d.name, .int .i64 d.stamp, .int .i64 d.lib, .slice a d.kids.length cap] 43)).cell? ⟨w.heap.size, q, none⟩ = #[Value.int .i64 d.kind, .int .i64 d.n, .string d.name, .int .i64 d.stamp, .int .i64 d.lib, .slice a d.kids.length cap][q]? := fun q => World.cell?_alloc_mark w _ 43 (0, 0) q
  refine ⟨by simp, Or.inr ⟨w.heap.size, 0, rfl, by omega, ?_⟩⟩
  intro i e he
  cases i with
  | succ i => simp at he
  | zero =>
    simp at he
    subst he
    refine ⟨a, cap, (hc _).trans rfl, (hc _).trans rfl, (hc _).trans rfl, (hc _).trans rfl, (hc _).trans rfl, (hc _).trans rfl, hn, ?_⟩
    have h2 : Lies B (w.alloc (.cells #[.int .i64 d.kind, .int .i64 d.n, .string d.name, .int .i64 d.stamp, .int .i64 d.lib, .slice a d.kids.length cap] 43)) f a d.kids := h.below ((Below.refl _ _).alloc hB _)
    exact Lies.mono (by omega) f a _ h2

set_option maxRecDepth 100000 in
set_option maxHeartbeats 3200000 in
theorem wrongFields_any (B f b o : Nat) (c : Cor) (ar : Int) (w : World) (hc : Cn B w f b o c) (hB : B ≤ w.heap.size) :
    Calls Tryd.prog 51 #[.pointer (some ⟨b, o, none⟩), .int .i64 ar] w fun e w' => e = .returned (.int .i64 (wfields c ar)) ∧ Below w.heap.size w w' := by
  obtain ⟨hb, qa, qc, ka, kc, nc, ok, hq, hk⟩ := hc
  obtain ⟨c0, c1, c2, c3, c4, c5, c6, c7, c8, c9, c10, c11⟩ := nc
  have WR : Hid (Calls Tryd.prog 65 #[.slice (some ⟨w.heap.size, 0, none⟩) 1 1] (w.alloc (.cells #[.int .i64 c.quote.kind, .int .i64 c.quote.n, .string c.quote.name, .int .i64 c.quote.stamp, .int .i64 c.quote.lib, .slice qa c.quote.kids.length qc] 43)) fun e w' => e = .returned (fv (wrong [c.quote])) ∧ Below (w.alloc (.cells #[.int .i64 c.quote.kind, .int .i64 c.quote.n, .string c.quote.name, .int .i64 c.quote.stamp, .int .i64 c.quote.lib, .slice qa c.quote.kids.length qc] 43)).heap.size (w.alloc (.cells #[.int .i64 c.quote.kind, .int .i64 c.quote.n, .string c.quote.name, .int .i64 c.quote.stamp, .int .i64 c.quote.lib, .slice qa c.quote.kids.length qc] 43)) w') := by
    have h5 := Wrong_any (w.heap.size + 1) (f + 1) [c.quote] (some ⟨w.heap.size, 0, none⟩) 1 _ (Lies.one (cap := qc) hB (Dc.lies (fun _ h => h) _ _ _ hq) ok.2.2.1) (by simp)
    exact h5
  have hos := ok.2.1
  clear ok hq hk hb
  obtain ⟨k, i, n, lb, ow, q, ks⟩ := c
  simp only at c0 c1 c2 c3 c4 c5 c6 c7 c8 c9 c10 c11 WR hos
  by_cases k1 : k = 1
  · subst k1
    by_cases hr : -1000000000000000 ≤ n ∧ n ≤ 1000000000000000
    · rw [show wfields ⟨1, i, n, lb, ow, q, ks⟩ ar = 0 by simp [wfields, hr]]
      clear WR
      go_enter Tryd.func51, Tryd.ntmps51
      go_wp2_with fail
      refine (mRange_any n _).mono ?_
      rintro e w1 ⟨rfl, rfl⟩
      rw [show decide (-1000000000000000 ≤ n ∧ n ≤ 1000000000000000) = true by simp [hr]]
      clear hr
      go_wp2_with fail
      go_ret
      exact ⟨rfl, Below.refl _ _⟩
    · rw [show wfields ⟨1, i, n, lb, ow, q, ks⟩ ar = 3 by simp [wfields, hr]]
      clear WR
      go_enter Tryd.func51, Tryd.ntmps51
      go_wp2_with fail
      refine (mRange_any n _).mono ?_
      rintro e w1 ⟨rfl, rfl⟩
      rw [show decide (-1000000000000000 ≤ n ∧ n ≤ 1000000000000000) = false by simp [hr]]
      clear hr
      go_wp2_with fail
      go_ret
      exact ⟨rfl, Below.refl _ _⟩
  by_cases k2 : k = 2
  · subst k2
    by_cases h0 : n = 0
    · rw [show wfields ⟨2, i, n, lb, ow, q, ks⟩ ar = 0 by simp [wfields, h0]]
      subst h0
      clear WR
      go_enter Tryd.func51, Tryd.ntmps51
      go_wp2_with fail
      go_ret
      exact ⟨rfl, Below.refl _ _⟩
    have h0' : (n == 0) = false := by simpa using h0
    by_cases h1 : n = 1
    · rw [show wfields ⟨2, i, n, lb, ow, q, ks⟩ ar = 0 by simp [wfields, h1]]
      subst h1
      clear WR
      go_enter Tryd.func51, Tryd.ntmps51
      go_wp2_with fail
      go_ret
      exact ⟨rfl, Below.refl _ _⟩
    rw [show wfields ⟨2, i, n, lb, ow, q, ks⟩ ar = 3 by simp [wfields, h0, h1]]
    have h1' : (n == 1) = false := by simpa using h1
    clear WR h0 h1
    go_enter Tryd.func51, Tryd.ntmps51
    go_wp2_with fail
    go_ret
    exact ⟨rfl, Below.refl _ _⟩
  by_cases k4 : k = 4
  · subst k4
    by_cases h0 : 0 ≤ i
    · by_cases h1 : i < ar
      · rw [show wfields ⟨4, i, n, lb, ow, q, ks⟩ ar = 0 by simp [wfields, h0, h1]]
        clear WR
        go_enter Tryd.func51, Tryd.ntmps51
        go_wp2_with fail
        go_ret
        exact ⟨rfl, Below.refl _ _⟩
      · rw [show wfields ⟨4, i, n, lb, ow, q, ks⟩ ar = 3 by simp [wfields, h0, h1]]
        clear WR
        go_enter Tryd.func51, Tryd.ntmps51
        go_wp2_with fail
        go_ret
        exact ⟨rfl, Below.refl _ _⟩
    · rw [show wfields ⟨4, i, n, lb, ow, q, ks⟩ ar = 3 by simp [wfields, h0]]
      clear WR
      go_enter Tryd.func51, Tryd.ntmps51
      go_wp2_with fail
      go_ret
      exact ⟨rfl, Below.refl _ _⟩
  by_cases k10 : k = 10
  · subst k10
    by_cases h0 : 0 ≤ i
    · by_cases h1 : i < ar
      · rw [show wfields ⟨10, i, n, lb, ow, q, ks⟩ ar = 0 by simp [wfields, h0, h1]]
        clear WR
        go_enter Tryd.func51, Tryd.ntmps51
        go_wp2_with fail
        go_ret
        exact ⟨rfl, Below.refl _ _⟩
      · rw [show wfields ⟨10, i, n, lb, ow, q, ks⟩ ar = 3 by simp [wfields, h0, h1]]
        clear WR
        go_enter Tryd.func51, Tryd.ntmps51
        go_wp2_with fail
        go_ret
        exact ⟨rfl, Below.refl _ _⟩
    · rw [show wfields ⟨10, i, n, lb, ow, q, ks⟩ ar = 3 by simp [wfields, h0]]
      clear WR
      go_enter Tryd.func51, Tryd.ntmps51
      go_wp2_with fail
      go_ret
      exact ⟨rfl, Below.refl _ _⟩
  by_cases k8 : k = 8
  · subst k8
    by_cases h0 : 0 ≤ i
    · by_cases h1 : i ≤ 2000
      · rw [show wfields ⟨8, i, n, lb, ow, q, ks⟩ ar = 0 by simp [wfields, h0, h1]]
        clear WR
        go_enter Tryd.func51, Tryd.ntmps51
        go_wp2_with fail
        go_ret
        exact ⟨rfl, Below.refl _ _⟩
      · rw [show wfields ⟨8, i, n, lb, ow, q, ks⟩ ar = 3 by simp [wfields, h0, h1]]
        clear WR
        go_enter Tryd.func51, Tryd.ntmps51
        go_wp2_with fail
        go_ret
        exact ⟨rfl, Below.refl _ _⟩
    · rw [show wfields ⟨8, i, n, lb, ow, q, ks⟩ ar = 3 by simp [wfields, h0]]
      clear WR
      go_enter Tryd.func51, Tryd.ntmps51
      go_wp2_with fail
      go_ret
      exact ⟨rfl, Below.refl _ _⟩
  by_cases k6 : k = 6
  · subst k6
    have HA := hidd (argsOf_any ow w)
    clear WR
    by_cases h0 : argsB ow = 0
    · rw [show wfields ⟨6, i, n, lb, ow, q, ks⟩ ar = 7 by simp [wfields, h0]]
      rw [h0] at HA
      clear h0
      go_enter Tryd.func51, Tryd.ntmps51
      go_wp2_with fail
      refine HA.out.mono ?_
      rintro e w1 ⟨rfl, rfl⟩
      go_wp2_with fail
      go_ret
      exact ⟨rfl, Below.refl _ _⟩
    · rw [show wfields ⟨6, i, n, lb, ow, q, ks⟩ ar = 0 by simp [wfields, h0]]
      generalize argsB ow = z at HA h0
      have h0' : (z == 0) = false := by simpa using h0
      clear h0
      go_enter Tryd.func51, Tryd.ntmps51
      go_wp2_with fail
      refine HA.out.mono ?_
      rintro e w1 ⟨rfl, rfl⟩
      go_wp2_with fail
      go_ret
      exact ⟨rfl, Below.refl _ _⟩
  by_cases k3 : k = 3
  · subst k3
    rw [show wfields ⟨3, i, n, lb, ow, q, ks⟩ ar = (wrong [q]).1 by simp [wfields]]
    generalize wrong [q] = y at WR ⊢
    obtain ⟨y1, y2⟩ := y
    unfold fv at WR
    simp only at WR ⊢
    go_enter Tryd.func51, Tryd.ntmps51
    go_wp2_with fail
    refine WR.out.mono ?_
    rintro e w1 ⟨rfl, hb1⟩
    have hb2 := hidd (((Below.refl _ _).alloc (Nat.le_refl _) _).trans (hb1.mono (by simp)))
    have hfl := field_fault y1 y2 w1
    clear hb1 c0 c1 c2 c3 c4 c5 c6 c7 c8 c9 c10 c11
    go_wp2_with fail
    go_ret
    exact ⟨rfl, hb2.out⟩
  rw [show wfields ⟨k, i, n, lb, ow, q, ks⟩ ar = 0 by simp [wfields, k1, k2, k4, k10, k8, k6, k3]]
  have j1 : (k == 1) = false := by simpa using k1
  have j2 : (k == 2) = false := by simpa using k2
  have j4 : (k == 4) = false := by simpa using k4
  have j10 : (k == 10) = false := by simpa using k10
  have j8 : (k == 8) = false := by simpa using k8
  have j6 : (k == 6) = false := by simpa using k6
  have j3 : (k == 3) = false := by simpa using k3
  clear WR k1 k2 k4 k10 k8 k6 k3
  go_enter Tryd.func51, Tryd.ntmps51
  go_wp2_with fail
  go_ret
  exact ⟨rfl, Below.refl _ _⟩
end
section
set_option linter.unusedVariables false
set_option linter.unusedSimpArgs false
open Go.RowKit

set_option maxRecDepth 100000 in
set_option maxHeartbeats 1600000 in
theorem core_deep (p : Option Addr) (ar : Int) (cb n : Nat) (w : World) (hn : n ≤ 3000) (hc : Ctr cb n w) :
    Calls Tryd.prog 35 #[.pointer (some ⟨cb, 0, none⟩), .pointer p, .int .i64 301, .int .i64 ar] w (Told cb (4, n + 1) w) := by
  have c1 := hc.cell
  have f1 := hc.thaw
  have l1 := hc.lt
  have HC : Hid (Ctr cb n w) := hc
  clear hc
  by_cases h : (3000 : Int) < n + 1
  · go_enter Tryd.func35, Tryd.ntmps35
    go_wp2_with fail
    go_ret
    exact ⟨rfl, (Keep.refl _ _).setCell _ rfl _, HC.out.set (n + 1)⟩
  · go_enter Tryd.func35, Tryd.ntmps35
    go_wp2_with fail
    go_ret
    exact ⟨rfl, (Keep.refl _ _).setCell _ rfl _, HC.out.set (n + 1)⟩

set_option maxRecDepth 100000 in
set_option maxHeartbeats 1600000 in
theorem core_much (p : Option Addr) (ar dp : Int) (cb n : Nat) (w : World) (hn : n = 3000) (hc : Ctr cb n w) :
    Calls Tryd.prog 35 #[.pointer (some ⟨cb, 0, none⟩), .pointer p, .int .i64 dp, .int .i64 ar] w (Told cb (4, n + 1) w) := by
  have c1 := hc.cell
  have f1 := hc.thaw
  have l1 := hc.lt
  have HC : Hid (Ctr cb n w) := hc
  clear hc
  subst hn
  go_enter Tryd.func35, Tryd.ntmps35
  go_wp2_with fail
  go_ret
  exact ⟨rfl, (Keep.refl _ _).setCell _ rfl _, HC.out.set (3000 + 1)⟩

set_option maxRecDepth 100000 in
set_option maxHeartbeats 6400000 in
theorem core_step (B F f b o : Nat) (c : Cor) (ar dp : Int) (cb n : Nat) (w : World) (hc : Cn B w f b o c) (hn : n ≤ 2999) (hd0 : 1 ≤ dp) (hd : dp ≤ 300) (ha0 : 0 ≤ ar) (ha : ar ≤ 600000) (hB : B ≤ cb) (hcb : Ctr cb n w)
    (ih : ∀ (g b o : Nat) (c : Cor) (a2 : Int) (n : Nat) (w : World), 0 ≤ a2 → a2 ≤ ar + 2000 → Cn B w g b o c → n ≤ 3000 → Ctr cb n w → Calls Tryd.prog 35 #[.pointer (some ⟨cb, 0, none⟩), .pointer (some ⟨b, o, none⟩), .int .i64 (dp + 1), .int .i64 a2] w (Told cb (ckC F a2 c n) w)) :
    Calls Tryd.prog 35 #[.pointer (some ⟨cb, 0, none⟩), .pointer (some ⟨b, o, none⟩), .int .i64 dp, .int .i64 ar] w (Told cb
      (if wkids c.kind c.kids.length = 0 then (if wfields c ar = 0 then ckL (ckC F (if c.kind = 8 then ar + c.index else ar)) c.kids (n + 1) else (wfields c ar, n + 1)) else (wkids c.kind c.kids.length, n + 1)) w) := by
  have IH := hidd ih
  have HN := hidd hc
  obtain ⟨hbB, qa, qc, ka, kc, nc, ok, hq, hk⟩ := hc
  have c0' := nc.c0
  have c11' := nc.c11
  have hlen0 := hk.len
  have c1 := hcb.cell
  have f1 := hcb.thaw
  have l1 := hcb.lt
  have hbW0 : b < w.heap.size := by omega
  have hbc : b ≠ cb := by omega
  have hBw : B ≤ w.heap.size := by omega
  have HCB := hidd hcb
  clear hcb ih nc ok hq hk
  obtain ⟨k, i, nn, lb, ow, q, ks⟩ := c
  simp only at c0' c11' hlen0 ⊢
  have WK : Hid (∀ W, Calls Tryd.prog 50 #[.int .i64 k, .int .i64 ks.length] W fun e w' => e = .returned (.int .i64 (wkids k ks.length)) ∧ Below W.heap.size W w') := fun W => (wrongKids_any k ks.length hlen0 W).mono (by rintro e w' ⟨rfl, rfl⟩; exact ⟨rfl, Below.refl _ _⟩)
  obtain ⟨r, hr⟩ : ∃ r, r = (if wkids k ks.length = 0 then (if wfields ⟨k, i, nn, lb, ow, q, ks⟩ ar = 0 then ckL (ckC F (if k = 8 then ar + i else ar)) ks (n + 1) else (wfields ⟨k, i, nn, lb, ow, q, ks⟩ ar, n + 1)) else (wkids k ks.length, n + 1)) := ⟨_, rfl⟩
  rw [← hr]
  have HR := hidd hr
  clear hr
  generalize wkids k ks.length = y at WK HR
  go_enter Tryd.func35, Tryd.ntmps35
  go_upto_region 4 with fail
  have KW : Hid (Keep cb w (w.setCell ⟨cb, 0, none⟩ (.int .i64 ((n + 1 : Nat) : Int))) ∧ Ctr cb (n + 1) (w.setCell ⟨cb, 0, none⟩ (.int .i64 ((n + 1 : Nat) : Int)))) := ⟨(Keep.refl _ _).setCell _ rfl _, HCB.out.set (n + 1)⟩
  have hbW : b < (w.setCell ⟨cb, 0, none⟩ (.int .i64 ((n + 1 : Nat) : Int))).heap.size := Nat.lt_of_lt_of_le hbW0 KW.out.1.size
  have c0 : (w.setCell ⟨cb, 0, none⟩ (.int .i64 ((n + 1 : Nat) : Int))).cell? ⟨b, o, none⟩ = some (.int .i64 k) := (KW.out.1.cell (p := ⟨b, o, none⟩) hbW0 hbc).trans c0'
  have c11 : (w.setCell ⟨cb, 0, none⟩ (.int .i64 ((n + 1 : Nat) : Int))).cell? ⟨b, o + 11, none⟩ = some (.slice ka ks.length kc) := (KW.out.1.cell (p := ⟨b, o + 11, none⟩) hbW0 hbc).trans c11'
  clear c0' c11' c1 f1 HCB
  rw [show ((n : Int) + 1) = ((n + 1 : Nat) : Int) by omega]
  generalize w.setCell ⟨cb, 0, none⟩ (.int .i64 ((n + 1 : Nat) : Int)) = W0 at KW hbW c0 c11 ⊢
  refine wp_region_held_drew (S := fun u => Below W0.heap.size W0 u) (by kernel_rfl) (Below.drew (Below.refl _ _)) (fun hS => ?_)
  refine wpAnyH_take (i := 0) (oi := { dst := some 29, op := Op.move (Operand.tmp 1), type := 79, pos := _, after := _, guard := none }) (v := .pointer (some ⟨b, o, none⟩)) rfl (by kernel_rfl) (by kernel_rfl) (by kernel_rfl) (fun _ _ _ h => h) (Or.inl ⟨by rfl, fun u hu => by go_simp⟩) hS ?_
  simp only [Act.put, List.setIfInBounds_toArray, List.set_cons_zero, List.set_cons_succ]
  refine wpAnyH_take (i := 1) (oi := { dst := some 30, op := Op.nilCheck (Operand.tmp 29), type := 0, pos := _, after := _, guard := none }) (v := .pointer (some ⟨b, o, none⟩)) rfl (by kernel_rfl) (by kernel_rfl) (by kernel_rfl) (fun _ _ _ h => h) (Or.inl ⟨by rfl, fun u hu => by go_simp⟩) hS ?_
  simp only [Act.put, List.setIfInBounds_toArray, List.set_cons_zero, List.set_cons_succ]
  refine wpAnyH_take (i := 2) (oi := { dst := some 31, op := Op.fieldAddr 45 (Operand.tmp 30) 0, type := 0, pos := _, after := _, guard := none }) (v := .pointer (some ⟨b, o, none⟩)) rfl (by kernel_rfl) (by kernel_rfl) (by kernel_rfl) (fun _ _ _ h => h) (Or.inl ⟨by rfl, fun u hu => by go_simp⟩) hS ?_
  simp only [Act.put, List.setIfInBounds_toArray, List.set_cons_zero, List.set_cons_succ]
  refine wpAnyH_take (i := 3) (oi := { dst := some 32, op := Op.load 3 (Operand.tmp 31), type := 3, pos := _, after := _, guard := none }) (v := .int .i64 k) rfl (by kernel_rfl) (by kernel_rfl) (by kernel_rfl) (fun _ _ _ h => h) (Or.inl ⟨by rfl, fun u hu => by (have z := (hu.cell (p := ⟨b, o, none⟩) hbW).trans c0; go_simp)⟩) hS ?_
  simp only [Act.put, List.setIfInBounds_toArray, List.set_cons_zero, List.set_cons_succ]
  refine wpAnyH_take (i := 4) (oi := { dst := some 33, op := Op.move (Operand.tmp 1), type := 79, pos := _, after := _, guard := none }) (v := .pointer (some ⟨b, o, none⟩)) rfl (by kernel_rfl) (by kernel_rfl) (by kernel_rfl) (fun _ _ _ h => h) (Or.inl ⟨by rfl, fun u hu => by go_simp⟩) hS ?_
  simp only [Act.put, List.setIfInBounds_toArray, List.set_cons_zero, List.set_cons_succ]
  refine wpAnyH_take (i := 5) (oi := { dst := some 34, op := Op.nilCheck (Operand.tmp 33), type := 0, pos := _, after := _, guard := none }) (v := .pointer (some ⟨b, o, none⟩)) rfl (by kernel_rfl) (by kernel_rfl) (by kernel_rfl) (fun _ _ _ h => h) (Or.inl ⟨by rfl, fun u hu => by go_simp⟩) hS ?_
  simp only [Act.put, List.setIfInBounds_toArray, List.set_cons_zero, List.set_cons_succ]
  refine wpAnyH_take (i := 6) (oi := { dst := some 35, op := Op.fieldAddr 45 (Operand.tmp 34) 6, type := 0, pos := _, after := _, guard := none }) (v := .pointer (some ⟨b, o + 11, none⟩)) rfl (by kernel_rfl) (by kernel_rfl) (by kernel_rfl) (fun _ _ _ h => h) (Or.inl ⟨by rfl, fun u hu => by go_simp⟩) hS ?_
  simp only [Act.put, List.setIfInBounds_toArray, List.set_cons_zero, List.set_cons_succ]
  refine wpAnyH_take (i := 7) (oi := { dst := some 36, op := Op.load 37 (Operand.tmp 35), type := 37, pos := _, after := _, guard := none }) (v := .slice ka ks.length kc) rfl (by kernel_rfl) (by kernel_rfl) (by kernel_rfl) (fun _ _ _ h => h) (Or.inl ⟨by rfl, fun u hu => by (have z := (hu.cell (p := ⟨b, o + 11, none⟩) hbW).trans c11; go_simp)⟩) hS ?_
  simp only [Act.put, List.setIfInBounds_toArray, List.set_cons_zero, List.set_cons_succ]
  refine wpAnyH_take (i := 8) (oi := { dst := some 37, op := Op.call { callee := Callee.builtin Builtin.len, args := #[Operand.tmp 36], argTypes := #[37] }, type := 3, pos := _, after := _, guard := none }) (v := .int .i64 ks.length) rfl (by kernel_rfl) (by kernel_rfl) (by kernel_rfl) (fun _ _ _ h => h) (Or.inl ⟨by rfl, fun u hu => by go_simp⟩) hS ?_
  simp only [Act.put, List.setIfInBounds_toArray, List.set_cons_zero, List.set_cons_succ]
  refine wpAnyH_ready (rs := [9]) (by kernel_rfl) (by simp) (AllReadyH.cons (o := { dst := some 38, op := Op.call { callee := Callee.value (Operand.func 50), args := #[Operand.tmp 32, Operand.tmp 37], argTypes := #[3, 3] }, type := 26, pos := _, after := _, guard := none }) rfl (fun K hK => ?_) AllReadyH.nil)
  go_simp
  refine Calls.mono (WK.out W0.drew) ?_
  rintro e W1 ⟨rfl, hb1⟩
  have hS1 := hS.trans (hb1.mono hS.size)
  clear hb1
  show K _ W1
  refine hK.out _ _ hS1 (fun hS => ?_)
  clear hK K
  refine wpAnyH_take (i := 10) (oi := { dst := some 9, op := Op.assign (Operand.tmp 38), type := 26, pos := _, after := _, guard := none }) (v := .int .i64 y) rfl (by kernel_rfl) (by kernel_rfl) (by kernel_rfl) (fun _ _ _ h => h) (Or.inl ⟨by rfl, fun u hu => by go_simp⟩) hS ?_
  simp only [Act.put, List.setIfInBounds_toArray, List.set_cons_zero, List.set_cons_succ]
  refine wpAnyH_done (by kernel_rfl) ?_ _
  have HK1 : Hid (Keep cb w W1) := Keep.below (KW.out.1) hS
  have HC1 : Hid (Ctr cb (n + 1) W1) := KW.out.2.below hS
  clear hS KW c0 c11 WK
  by_cases hy : y = 0
  case neg =>
    have hy' : (y != 0) = true := by simpa using hy
    have hre := HR.out
    rw [if_neg hy] at hre
    subst hre
    clear HN IH hy HR
    go_wp2_with fail
    go_ret
    exact ⟨rfl, HK1.out, HC1.out⟩
  rw [if_pos hy] at HR
  subst hy
  have CN1 : Hid (Cn B W1 f b o ⟨k, i, nn, lb, ow, q, ks⟩) := HN.out.below (HK1.out.toBelow hB (by omega))
  have l1 := HC1.out.lt
  have WF : Hid (Calls Tryd.prog 51 #[.pointer (some ⟨b, o, none⟩), .int .i64 ar] W1 fun e w' => e = .returned (.int .i64 (wfields ⟨k, i, nn, lb, ow, q, ks⟩ ar)) ∧ Below W1.heap.size W1 w') := wrongFields_any B f b o _ ar W1 CN1.out (by omega)
  have HF : Hid (k = 8 → wfields ⟨k, i, nn, lb, ow, q, ks⟩ ar = 0 → 0 ≤ i ∧ i ≤ 2000) := by
    intro h8 h0
    subst h8
    simp [wfields] at h0
    exact h0
  generalize wfields ⟨k, i, nn, lb, ow, q, ks⟩ ar = z at WF HF HR
  go_wp2_with fail
  refine WF.out.mono ?_
  rintro e w2 ⟨rfl, hb2⟩
  have HK2 : Hid (Keep cb w w2) := HK1.out.below hb2
  have HC2 : Hid (Ctr cb (n + 1) w2) := HC1.out.below hb2
  clear hb2 WF HK1 HC1 CN1
  by_cases hz : z = 0
  case neg =>
    have hz' : (z != 0) = true := by simpa using hz
    have hre := HR.out
    rw [if_neg hz] at hre
    subst hre
    clear HN IH hz HF HR
    go_wp2_with fail
    go_ret
    exact ⟨rfl, HK2.out, HC2.out⟩
  rw [if_pos hz] at HR
  subst hz
  have CN2 : Hid (Cn B w2 f b o ⟨k, i, nn, lb, ow, q, ks⟩) := HN.out.below (HK2.out.toBelow hB (by omega))
  obtain ⟨_, qa2, qc2, ka2, kc2, nc2, ok2, hq2, hk2⟩ := CN2.out
  have c0 := nc2.c0
  have c1 := nc2.c1
  have c11 := nc2.c11
  simp only at c0 c1 c11
  have hlen := hk2.len
  simp only at hlen
  have ECK : Hid (∀ j m, j ≤ ks.length → m ≤ 3000 → True) := fun _ _ _ _ => trivial
  clear nc2 ok2 hq2 hk2 ECK
  have HN0 := HN
  clear HN
  by_cases h8 : k = 8
  · subst h8
    have hi := HF.out rfl rfl
    clear HF
    rw [if_pos rfl] at HR
    go_wp2_with fail
    go_loopw [64] (fun ix wr => ∃ j m : Nat, j ≤ ks.length ∧ m ≤ 3000 ∧ ix = .int .i64 j ∧ Keep cb w wr ∧ Ctr cb m wr ∧ ckL (ckC F (ar + i)) ks (n + 1) = ckL (ckC F (ar + i)) (ks.drop j) m) (fun ix _ => ks.length - (intOf ix).toNat)
    case atStart => exact ⟨0, n + 1, Nat.zero_le _, by omega, rfl, HK2.out, HC2.out, rfl⟩
    case round =>
      clear c0 c1 c11
      obtain ⟨j, m, hj, hm, rfl, hkr, hcr, he⟩ := hrel
      have HEQ := hidd he
      have HKr : Hid (Keep cb w wr ∧ Ctr cb m wr) := ⟨hkr, hcr⟩
      have CNr := hidd (HN0.out.below (hkr.toBelow hB hBw))
      clear he hkr hcr
      by_cases hlt : j < ks.length
      · obtain ⟨kid, hkid⟩ : ∃ kid, ks[j]? = some kid := ⟨ks[j], List.getElem?_eq_getElem hlt⟩
        have hne : ks ≠ [] := by intro e; rw [e] at hlt; simp at hlt
        obtain ⟨_, qar, qcr, kar, kcr, ncr, okr, hqr, hkr⟩ := CNr.out
        obtain ⟨g', b', o', hg, ha, hall⟩ := hkr.at hne
        subst ha
        have cr11 := ncr.c11
        simp only at cr11
        have hkc : ks.length ≤ kcr := okr.2.2.2.2
        have HKid := hidd (hall j kid hkid)
        have HK := hidd hkid
        clear hkid hall hkr hqr ncr okr hne
        go_wp2_with fail
        refine (IH.out g' b' (o' + j * 12) kid (ar + i) m wr (by omega) (by omega) HKid.out hm HKr.out.2).mono ?_
        rintro e w3 ⟨rfl, hk3, hc3⟩
        have HK3 : Hid (Keep cb w w3) := HKr.out.1.trans hk3
        have HC3 := hidd hc3
        have HM : Hid ((ckC F (ar + i) kid m).1 = 0 → (ckC F (ar + i) kid m).2 ≤ 3000) := ckC_le F _ kid m hm
        have H1 : Hid ((ckC F (ar + i) kid m).1 = 0 → ckL (ckC F (ar + i)) ks (n + 1) = ckL (ckC F (ar + i)) (ks.drop (j + 1)) (ckC F (ar + i) kid m).2) := fun h => HEQ.out.trans (ckL_drop _ _ _ _ _ HK.out h)
        have H2 : Hid ((ckC F (ar + i) kid m).1 ≠ 0 → ckL (ckC F (ar + i)) ks (n + 1) = ckC F (ar + i) kid m) := fun h => HEQ.out.trans (ckL_bad _ _ _ _ _ HK.out h)
        clear hk3 hc3 HK HKid HKr IH HEQ CNr cr11 HN0 CN2 HK2 HC2
        generalize ckC F (ar + i) kid m = yy at HC3 HM H1 H2 ⊢
        obtain ⟨y1, y2⟩ := yy
        simp only at HC3 HM H1 H2 ⊢
        by_cases y0 : y1 = 0
        · subst y0
          go_wp2_with fail
          go_roundw
          case rel => exact ⟨j + 1, y2, by omega, HM.out rfl, by go_num, HK3.out, HC3.out, H1.out rfl⟩
          case measure => simp [intOf]; omega
        · have y0' : (y1 != 0) = true := by simpa using y0
          go_wp2_with fail
          go_ret
          refine ⟨?_, HK3.out, ?_⟩
          · rw [HR.out, H2.out y0]; rfl
          · rw [HR.out, H2.out y0]; exact HC3.out
      · obtain rfl : j = ks.length := by omega
        rw [List.drop_length] at HEQ
        clear IH CNr HN0 CN2
        go_wp2_with fail
        go_ret
        refine ⟨?_, HKr.out.1, ?_⟩
        · rw [HR.out, HEQ.out]; rfl
        · rw [HR.out, HEQ.out]; exact HKr.out.2
  · have h8' : (k == 8) = false := by simpa using h8
    rw [if_neg h8] at HR
    clear HF h8
    go_wp2_with fail
    go_loopw [64] (fun ix wr => ∃ j m : Nat, j ≤ ks.length ∧ m ≤ 3000 ∧ ix = .int .i64 j ∧ Keep cb w wr ∧ Ctr cb m wr ∧ ckL (ckC F (ar)) ks (n + 1) = ckL (ckC F (ar)) (ks.drop j) m) (fun ix _ => ks.length - (intOf ix).toNat)
    case atStart => exact ⟨0, n + 1, Nat.zero_le _, by omega, rfl, HK2.out, HC2.out, rfl⟩
    case round =>
      clear c0 c1 c11
      obtain ⟨j, m, hj, hm, rfl, hkr, hcr, he⟩ := hrel
      have HEQ := hidd he
      have HKr : Hid (Keep cb w wr ∧ Ctr cb m wr) := ⟨hkr, hcr⟩
      have CNr := hidd (HN0.out.below (hkr.toBelow hB hBw))
      clear he hkr hcr
      by_cases hlt : j < ks.length
      · obtain ⟨kid, hkid⟩ : ∃ kid, ks[j]? = some kid := ⟨ks[j], List.getElem?_eq_getElem hlt⟩
        have hne : ks ≠ [] := by intro e; rw [e] at hlt; simp at hlt
        obtain ⟨_, qar, qcr, kar, kcr, ncr, okr, hqr, hkr⟩ := CNr.out
        obtain ⟨g', b', o', hg, ha, hall⟩ := hkr.at hne
        subst ha
        have cr11 := ncr.c11
        simp only at cr11
        have hkc : ks.length ≤ kcr := okr.2.2.2.2
        have HKid := hidd (hall j kid hkid)
        have HK := hidd hkid
        clear hkid hall hkr hqr ncr okr hne
        go_wp2_with fail
        refine (IH.out g' b' (o' + j * 12) kid (ar) m wr (by omega) (by omega) HKid.out hm HKr.out.2).mono ?_
        rintro e w3 ⟨rfl, hk3, hc3⟩
        have HK3 : Hid (Keep cb w w3) := HKr.out.1.trans hk3
        have HC3 := hidd hc3
        have HM : Hid ((ckC F (ar) kid m).1 = 0 → (ckC F (ar) kid m).2 ≤ 3000) := ckC_le F _ kid m hm
        have H1 : Hid ((ckC F (ar) kid m).1 = 0 → ckL (ckC F (ar)) ks (n + 1) = ckL (ckC F (ar)) (ks.drop (j + 1)) (ckC F (ar) kid m).2) := fun h => HEQ.out.trans (ckL_drop _ _ _ _ _ HK.out h)
        have H2 : Hid ((ckC F (ar) kid m).1 ≠ 0 → ckL (ckC F (ar)) ks (n + 1) = ckC F (ar) kid m) := fun h => HEQ.out.trans (ckL_bad _ _ _ _ _ HK.out h)
        clear hk3 hc3 HK HKid HKr IH HEQ CNr cr11 HN0 CN2 HK2 HC2
        generalize ckC F (ar) kid m = yy at HC3 HM H1 H2 ⊢
        obtain ⟨y1, y2⟩ := yy
        simp only at HC3 HM H1 H2 ⊢
        by_cases y0 : y1 = 0
        · subst y0
          go_wp2_with fail
          go_roundw
          case rel => exact ⟨j + 1, y2, by omega, HM.out rfl, by go_num, HK3.out, HC3.out, H1.out rfl⟩
          case measure => simp [intOf]; omega
        · have y0' : (y1 != 0) = true := by simpa using y0
          go_wp2_with fail
          go_ret
          refine ⟨?_, HK3.out, ?_⟩
          · rw [HR.out, H2.out y0]; rfl
          · rw [HR.out, H2.out y0]; exact HC3.out
      · obtain rfl : j = ks.length := by omega
        rw [List.drop_length] at HEQ
        clear IH CNr HN0 CN2
        go_wp2_with fail
        go_ret
        refine ⟨?_, HKr.out.1, ?_⟩
        · rw [HR.out, HEQ.out]; rfl
        · rw [HR.out, HEQ.out]; exact HKr.out.2
end
end Go.Proofs.YthooljlikllnpaaDoor
