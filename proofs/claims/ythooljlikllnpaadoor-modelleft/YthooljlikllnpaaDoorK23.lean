/- What package model finds wrong with a node's fields. -/
import Derived.Test.YthooljlikllnpaaDoorK11
namespace Go.Proofs.YthooljlikllnpaaDoor
set_option linter.unusedVariables false
set_option linter.unusedSimpArgs false
open Go.RowKit

theorem field_fault (x y : Int) (w : World) : (Instr.field 28 (.agg #[.int .i64 x, .int .i64 y]) 0).run Tryd.prog w = .ok (.int .i64 x) w := by
  simp [Instr.field, run_underlying Tryd.underlying28, go_sem, asAgg]

theorem Lies.mono {B B' : Nat} {w : World} (hB : B ≤ B') : ∀ (f : Nat) (a : Option Addr) (ds : List Dat), Lies B w f a ds → Lies B' w f a ds
  | 0, _, _, h => h
  | f + 1, a, ds, h => by
    obtain ⟨hl, h⟩ := h
    refine ⟨hl, ?_⟩
    rcases h with h | ⟨b, o, ha, hb, h⟩
    · exact Or.inl h
    · refine Or.inr ⟨b, o, ha, Nat.lt_of_lt_of_le hb hB, fun i d hd => ?_⟩
      obtain ⟨a', cap, c0, c1, c2, c3, c4, c5, hn, hk⟩ := h i d hd
      exact ⟨a', cap, c0, c1, c2, c3, c4, c5, hn, Lies.mono hB f a' _ hk⟩
/-- One datum in a block of its own. -/
theorem Lies.one {B f : Nat} {w : World} {d : Dat} {a : Option Addr} {cap : Nat} (hB : B ≤ w.heap.size) (h : Lies B w f a d.kids) (hn : d.name.size ≤ maxLen) :
    Lies (w.heap.size + 1) (w.alloc (.cells #[.int .i64 d.kind, .int .i64 d.n, .string d.name, .int .i64 d.stamp, .int .i64 d.lib, .slice a d.kids.length cap] 43)) (f + 1) (some ⟨w.heap.size, 0, none⟩) [d] := by
  have hN := World.alloc_heap_new w (.cells #[.int .i64 d.kind, .int .i64 d.n, .string d.name, .int .i64 d.stamp, .int .i64 d.lib, .slice a d.kids.length cap] 43)
  have hc : ∀ q, (w.alloc (.cells #[.int .i64 d.kind, .int .i64 d.n, .string d.name, .int .i64 d.stamp, .int .i64 d.lib, .slice a d.kids.length cap] 43)).cell? ⟨w.heap.size, q, none⟩ = #[Value.int .i64 d.kind, .int .i64 d.n, .string d.name, .int .i64 d.stamp, .int .i64 d.lib, .slice a d.kids.length cap][q]? := fun q => World.cell?_alloc_mark w _ 43 (0, 0) q
  refine ⟨by simp, Or.inr ⟨w.heap.size, 0, rfl, by omega, ?_⟩⟩
  intro i e he
  cases i with
  | succ i => simp at he
  | zero =>
    simp at he
    subst he
    refine ⟨a, cap, (hc _).trans rfl, (hc _).trans rfl, (hc _).trans rfl, (hc _).trans rfl, (hc _).trans rfl, (hc _).trans rfl, hn, ?_⟩
    have h2 : Lies B (w.alloc (.cells #[.int .i64 d.kind, .int .i64 d.n, .string d.name, .int .i64 d.stamp, .int .i64 d.lib, .slice a d.kids.length cap] 43)) f a d.kids := h.below ((Below.refl _ _).alloc hB _)
    exact Lies.mono (by omega) f a _ h2

set_option maxRecDepth 100000 in
set_option maxHeartbeats 3200000 in
theorem wrongFields_any (B f b o : Nat) (c : Cor) (ar : Int) (w : World) (hc : Cn B w f b o c) (hB : B ≤ w.heap.size) :
    Calls Tryd.prog 51 #[.pointer (some ⟨b, o, none⟩), .int .i64 ar] w fun e w' => e = .returned (.int .i64 (wfields c ar)) ∧ Below w.heap.size w w' := by
  obtain ⟨hb, qa, qc, ka, kc, nc, ok, hq, hk⟩ := hc
  obtain ⟨c0, c1, c2, c3, c4, c5, c6, c7, c8, c9, c10, c11⟩ := nc
  have WR : Hid (Calls Tryd.prog 65 #[.slice (some ⟨w.heap.size, 0, none⟩) 1 1] (w.alloc (.cells #[.int .i64 c.quote.kind, .int .i64 c.quote.n, .string c.quote.name, .int .i64 c.quote.stamp, .int .i64 c.quote.lib, .slice qa c.quote.kids.length qc] 43)) fun e w' => e = .returned (fv (wrong [c.quote])) ∧ Below (w.alloc (.cells #[.int .i64 c.quote.kind, .int .i64 c.quote.n, .string c.quote.name, .int .i64 c.quote.stamp, .int .i64 c.quote.lib, .slice qa c.quote.kids.length qc] 43)).heap.size (w.alloc (.cells #[.int .i64 c.quote.kind, .int .i64 c.quote.n, .string c.quote.name, .int .i64 c.quote.stamp, .int .i64 c.quote.lib, .slice qa c.quote.kids.length qc] 43)) w') := by
    have h5 := Wrong_any (w.heap.size + 1) (f + 1) [c.quote] (some ⟨w.heap.size, 0, none⟩) 1 _ (Lies.one (cap := qc) hB (Dc.lies (fun _ h => h) _ _ _ hq) ok.2.2.1) (by simp)
    exact h5
  have hos := ok.2.1
  clear ok hq hk hb
  obtain ⟨k, i, n, lb, ow, q, ks⟩ := c
  simp only at c0 c1 c2 c3 c4 c5 c6 c7 c8 c9 c10 c11 WR hos
  by_cases k1 : k = 1
  · subst k1
    by_cases hr : -1000000000000000 ≤ n ∧ n ≤ 1000000000000000
    · rw [show wfields ⟨1, i, n, lb, ow, q, ks⟩ ar = 0 by simp [wfields, hr]]
      clear WR
      go_enter Tryd.func51, Tryd.ntmps51
      go_wp2_with fail
      refine (mRange_any n _).mono ?_
      rintro e w1 ⟨rfl, rfl⟩
      rw [show decide (-1000000000000000 ≤ n ∧ n ≤ 1000000000000000) = true by simp [hr]]
      clear hr
      go_wp2_with fail
      go_ret
      exact ⟨rfl, Below.refl _ _⟩
    · rw [show wfields ⟨1, i, n, lb, ow, q, ks⟩ ar = 3 by simp [wfields, hr]]
      clear WR
      go_enter Tryd.func51, Tryd.ntmps51
      go_wp2_with fail
      refine (mRange_any n _).mono ?_
      rintro e w1 ⟨rfl, rfl⟩
      rw [show decide (-1000000000000000 ≤ n ∧ n ≤ 1000000000000000) = false by simp [hr]]
      clear hr
      go_wp2_with fail
      go_ret
      exact ⟨rfl, Below.refl _ _⟩
  by_cases k2 : k = 2
  · subst k2
    by_cases h0 : n = 0
    · rw [show wfields ⟨2, i, n, lb, ow, q, ks⟩ ar = 0 by simp [wfields, h0]]
      subst h0
      clear WR
      go_enter Tryd.func51, Tryd.ntmps51
      go_wp2_with fail
      go_ret
      exact ⟨rfl, Below.refl _ _⟩
    have h0' : (n == 0) = false := by simpa using h0
    by_cases h1 : n = 1
    · rw [show wfields ⟨2, i, n, lb, ow, q, ks⟩ ar = 0 by simp [wfields, h1]]
      subst h1
      clear WR
      go_enter Tryd.func51, Tryd.ntmps51
      go_wp2_with fail
      go_ret
      exact ⟨rfl, Below.refl _ _⟩
    rw [show wfields ⟨2, i, n, lb, ow, q, ks⟩ ar = 3 by simp [wfields, h0, h1]]
    have h1' : (n == 1) = false := by simpa using h1
    clear WR h0 h1
    go_enter Tryd.func51, Tryd.ntmps51
    go_wp2_with fail
    go_ret
    exact ⟨rfl, Below.refl _ _⟩
  by_cases k4 : k = 4
  · subst k4
    by_cases h0 : 0 ≤ i
    · by_cases h1 : i < ar
      · rw [show wfields ⟨4, i, n, lb, ow, q, ks⟩ ar = 0 by simp [wfields, h0, h1]]
        clear WR
        go_enter Tryd.func51, Tryd.ntmps51
        go_wp2_with fail
        go_ret
        exact ⟨rfl, Below.refl _ _⟩
      · rw [show wfields ⟨4, i, n, lb, ow, q, ks⟩ ar = 3 by simp [wfields, h0, h1]]
        clear WR
        go_enter Tryd.func51, Tryd.ntmps51
        go_wp2_with fail
        go_ret
        exact ⟨rfl, Below.refl _ _⟩
    · rw [show wfields ⟨4, i, n, lb, ow, q, ks⟩ ar = 3 by simp [wfields, h0]]
      clear WR
      go_enter Tryd.func51, Tryd.ntmps51
      go_wp2_with fail
      go_ret
      exact ⟨rfl, Below.refl _ _⟩
  by_cases k10 : k = 10
  · subst k10
    by_cases h0 : 0 ≤ i
    · by_cases h1 : i < ar
      · rw [show wfields ⟨10, i, n, lb, ow, q, ks⟩ ar = 0 by simp [wfields, h0, h1]]
        clear WR
        go_enter Tryd.func51, Tryd.ntmps51
        go_wp2_with fail
        go_ret
        exact ⟨rfl, Below.refl _ _⟩
      · rw [show wfields ⟨10, i, n, lb, ow, q, ks⟩ ar = 3 by simp [wfields, h0, h1]]
        clear WR
        go_enter Tryd.func51, Tryd.ntmps51
        go_wp2_with fail
        go_ret
        exact ⟨rfl, Below.refl _ _⟩
    · rw [show wfields ⟨10, i, n, lb, ow, q, ks⟩ ar = 3 by simp [wfields, h0]]
      clear WR
      go_enter Tryd.func51, Tryd.ntmps51
      go_wp2_with fail
      go_ret
      exact ⟨rfl, Below.refl _ _⟩
  by_cases k8 : k = 8
  · subst k8
    by_cases h0 : 0 ≤ i
    · by_cases h1 : i ≤ 2000
      · rw [show wfields ⟨8, i, n, lb, ow, q, ks⟩ ar = 0 by simp [wfields, h0, h1]]
        clear WR
        go_enter Tryd.func51, Tryd.ntmps51
        go_wp2_with fail
        go_ret
        exact ⟨rfl, Below.refl _ _⟩
      · rw [show wfields ⟨8, i, n, lb, ow, q, ks⟩ ar = 3 by simp [wfields, h0, h1]]
        clear WR
        go_enter Tryd.func51, Tryd.ntmps51
        go_wp2_with fail
        go_ret
        exact ⟨rfl, Below.refl _ _⟩
    · rw [show wfields ⟨8, i, n, lb, ow, q, ks⟩ ar = 3 by simp [wfields, h0]]
      clear WR
      go_enter Tryd.func51, Tryd.ntmps51
      go_wp2_with fail
      go_ret
      exact ⟨rfl, Below.refl _ _⟩
  by_cases k6 : k = 6
  · subst k6
    have HA := hidd (argsOf_any ow w)
    clear WR
    by_cases h0 : argsB ow = 0
    · rw [show wfields ⟨6, i, n, lb, ow, q, ks⟩ ar = 7 by simp [wfields, h0]]
      rw [h0] at HA
      clear h0
      go_enter Tryd.func51, Tryd.ntmps51
      go_wp2_with fail
      refine HA.out.mono ?_
      rintro e w1 ⟨rfl, rfl⟩
      go_wp2_with fail
      go_ret
      exact ⟨rfl, Below.refl _ _⟩
    · rw [show wfields ⟨6, i, n, lb, ow, q, ks⟩ ar = 0 by simp [wfields, h0]]
      generalize argsB ow = z at HA h0
      have h0' : (z == 0) = false := by simpa using h0
      clear h0
      go_enter Tryd.func51, Tryd.ntmps51
      go_wp2_with fail
      refine HA.out.mono ?_
      rintro e w1 ⟨rfl, rfl⟩
      go_wp2_with fail
      go_ret
      exact ⟨rfl, Below.refl _ _⟩
  by_cases k3 : k = 3
  · subst k3
    rw [show wfields ⟨3, i, n, lb, ow, q, ks⟩ ar = (wrong [q]).1 by simp [wfields]]
    generalize wrong [q] = y at WR ⊢
    obtain ⟨y1, y2⟩ := y
    unfold fv at WR
    simp only at WR ⊢
    go_enter Tryd.func51, Tryd.ntmps51
    go_wp2_with fail
    refine WR.out.mono ?_
    rintro e w1 ⟨rfl, hb1⟩
    have hb2 := hidd (((Below.refl _ _).alloc (Nat.le_refl _) _).trans (hb1.mono (by simp)))
    have hfl := field_fault y1 y2 w1
    clear hb1 c0 c1 c2 c3 c4 c5 c6 c7 c8 c9 c10 c11
    go_wp2_with fail
    go_ret
    exact ⟨rfl, hb2.out⟩
  rw [show wfields ⟨k, i, n, lb, ow, q, ks⟩ ar = 0 by simp [wfields, k1, k2, k4, k10, k8, k6, k3]]
  have j1 : (k == 1) = false := by simpa using k1
  have j2 : (k == 2) = false := by simpa using k2
  have j4 : (k == 4) = false := by simpa using k4
  have j10 : (k == 10) = false := by simpa using k10
  have j8 : (k == 8) = false := by simpa using k8
  have j6 : (k == 6) = false := by simpa using k6
  have j3 : (k == 3) = false := by simpa using k3
  clear WR k1 k2 k4 k10 k8 k6 k3
  go_enter Tryd.func51, Tryd.ntmps51
  go_wp2_with fail
  go_ret
  exact ⟨rfl, Below.refl _ _⟩
end Go.Proofs.YthooljlikllnpaaDoor
