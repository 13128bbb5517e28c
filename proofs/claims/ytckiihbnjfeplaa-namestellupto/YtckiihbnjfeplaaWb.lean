/- Package names: what is wrong with a set, all the way down. -/
import Derived.Test.YtckiihbnjfeplaaWa
namespace Go.Proofs.Ytckiihbnjfeplaa
set_option linter.unusedVariables false
set_option linter.unusedSimpArgs false
open Go.RowKit

theorem form_lib {f : Nat} {s : St} (h : s.ly.kind = 1) : form (f + 1) s = 0 := by
  unfold form
  rw [if_pos h]
theorem form_kind {f : Nat} {s : St} (h : s.ly.kind ≠ 1) (h' : s.ly.kind < 2 ∨ 5 < s.ly.kind) : form (f + 1) s = 1 := by
  unfold form
  rw [if_neg h, if_pos h']
theorem form_alone {f : Nat} {s : St} (h : 2 ≤ s.ly.kind ∧ s.ly.kind ≤ 5) (h' : aloneS s.ly s.nk ≠ 0) : form (f + 1) s = aloneS s.ly s.nk := by
  unfold form
  rw [if_neg (by omega), if_neg (by omega), if_pos h']
theorem form_kid {f : Nat} {l : Ly} {n : Nat} {k : St} (h : 2 ≤ l.kind ∧ l.kind ≤ 5) (h' : aloneS l (n + 1) = 0) : form (f + 1) (.more l n k) = form f k := by
  conv => lhs; unfold form
  have g1 : ¬ (St.more l n k).ly.kind = 1 := by show ¬ l.kind = 1; omega
  have g2 : ¬ ((St.more l n k).ly.kind < 2 ∨ 5 < (St.more l n k).ly.kind) := by show ¬ (l.kind < 2 ∨ 5 < l.kind); omega
  have g3 : ¬ (aloneS (St.more l n k).ly (St.more l n k).nk ≠ 0) := fun h => h h'
  rw [if_neg g1, if_neg g2, if_neg g3]
theorem alone_last {l : Ly} : aloneS l 0 ≠ 0 := by
  unfold aloneS
  simp

/-- A set's value, by its cells. -/
def aggOf (vs : List Value) : Value := .agg vs.toArray

set_option maxRecDepth 100000 in
set_option maxHeartbeats 800000 in
theorem wrongSet_over (s : St) (vs : List Value) (w : World) (hv : ∃ l a0 a1 a2 c0 c1 c2 n, vs = setV l a0 a1 a2 c0 c1 c2 n) :
    Calls Try.prog 12 #[aggOf vs, .int .i64 13] w fun e w' => e = .returned (.int .i64 4) ∧ Below w.heap.size w w' := by
  obtain ⟨l, a0, a1, a2, c0, c1, c2, n, rfl⟩ := hv
  show Calls Try.prog 12 #[setA l a0 a1 a2 c0 c1 c2 n, .int .i64 13] w _
  unfold setA
  go_enter Try.func12, Try.ntmps12
  go_wp2_with fail
  go_ret
  exact ⟨rfl, (Below.refl _ _).alloc (Nat.le_refl _) _⟩

set_option maxRecDepth 100000 in
set_option maxHeartbeats 800000 in
theorem wrongSet_lib (l : Ly) (a0 a1 a2 : Option Addr) (c0 c1 c2 n : Nat) (dp : Int) (hd0 : 1 ≤ dp) (hd : dp ≤ 12) (hk : l.kind = 1) (w : World) :
    Calls Try.prog 12 #[setA l a0 a1 a2 c0 c1 c2 n, .int .i64 dp] w fun e w' => e = .returned (.int .i64 0) ∧ Below w.heap.size w w' := by
  unfold setA
  rw [hk]
  go_enter Try.func12, Try.ntmps12
  go_wp2_with fail
  go_ret
  exact ⟨rfl, (Below.refl _ _).alloc (Nat.le_refl _) _⟩

set_option maxRecDepth 100000 in
set_option maxHeartbeats 800000 in
theorem wrongSet_kind (l : Ly) (a0 a1 a2 : Option Addr) (c0 c1 c2 n : Nat) (dp : Int) (hd0 : 1 ≤ dp) (hd : dp ≤ 12) (hk : l.kind ≠ 1) (hk' : l.kind < 2 ∨ 5 < l.kind) (w : World) :
    Calls Try.prog 12 #[setA l a0 a1 a2 c0 c1 c2 n, .int .i64 dp] w fun e w' => e = .returned (.int .i64 1) ∧ Below w.heap.size w w' := by
  unfold setA
  have g1 : ¬ l.kind = 1 := hk
  have g2 : ¬ l.kind = 2 := by omega
  have g3 : ¬ l.kind = 3 := by omega
  have g4 : ¬ l.kind = 4 := by omega
  have g5 : ¬ l.kind = 5 := by omega
  clear hk hk'
  generalize l.kind = kd at *
  go_enter Try.func12, Try.ntmps12
  go_wp2_with fail
  go_ret
  exact ⟨rfl, (Below.refl _ _).alloc (Nat.le_refl _) _⟩

set_option maxRecDepth 100000 in
set_option maxHeartbeats 3200000 in
theorem wrongSet_alone (kd : Int) (na : ByteArray) (nn nas : List ByteArray) (pr : ByteArray) (B : Nat) (a0 a1 a2 : Option Addr) (c0 c1 c2 n : Nat) (dp : Int) (hd0 : 1 ≤ dp) (hd : dp ≤ 12) (hk : 2 ≤ kd ∧ kd ≤ 5) (w : World)
    (h : LiesL B w ⟨kd, na, nn, nas, pr⟩ a0 a1) (hn : n ≤ 9223372036854775807) (hB : B ≤ w.heap.size) (r : Int) (hr : aloneS ⟨kd, na, nn, nas, pr⟩ n = r) (h0 : r ≠ 0) :
    Calls Try.prog 12 #[.agg #[.int .i64 kd, .string na, .slice a0 nn.length c0, .slice a1 nas.length c1, .string pr, .slice a2 n c2], .int .i64 dp] w fun e w' => e = .returned (.int .i64 r) ∧ Below w.heap.size w w' := by
  have AL : Hid (∀ w', Below w.heap.size w w' → Calls Try.prog 27 #[.agg #[.int .i64 kd, .string na, .slice a0 nn.length c0, .slice a1 nas.length c1, .string pr, .slice a2 n c2]] w' fun e w'' => e = .returned (.int .i64 r) ∧ Below w'.heap.size w' w'') := fun w' hb => by
    have := wrongAlone_any B ⟨kd, na, nn, nas, pr⟩ a0 a1 a2 c0 c1 c2 n w' (h.stay (fun k hk => hb.block k (Nat.lt_of_lt_of_le hk hB)) (Nat.le_refl _)) hn (Nat.le_trans hB hb.size)
    rwa [hr] at this
  have hrr : (r == 0) = false := by simpa using h0
  clear h hr h0
  obtain ⟨k1, k2⟩ := hk
  have hcase : kd = 2 ∨ kd = 3 ∨ kd = 4 ∨ kd = 5 := by omega
  clear k1 k2
  rcases hcase with rfl | rfl | rfl | rfl
  all_goals
    go_enter Try.func12, Try.ntmps12
    go_wp2_with fail
    refine (AL.out _ ((Below.refl _ _).alloc (Nat.le_refl _) _)).mono ?_
    rintro e w1 ⟨rfl, hb1⟩
    have HB1 : Hid (Below w.heap.size w w1) := ((Below.refl _ _).alloc (Nat.le_refl _) _).trans (hb1.mono (by simp))
    clear hb1
    go_wp2_with fail
    go_ret
    exact ⟨rfl, HB1.out⟩

set_option maxRecDepth 100000 in
set_option maxHeartbeats 3200000 in
theorem wrongSet_kid (kd : Int) (na : ByteArray) (nn nas : List ByteArray) (pr : ByteArray) (B : Nat) (a0 a1 : Option Addr) (b o c0 c1 c2 n : Nat) (dp : Int) (hd0 : 1 ≤ dp) (hd : dp ≤ 12) (hk : 2 ≤ kd ∧ kd ≤ 5) (w : World)
    (h : LiesL B w ⟨kd, na, nn, nas, pr⟩ a0 a1) (hn : n + 1 ≤ 9223372036854775807) (hB : B ≤ w.heap.size) (hb : b < B) (hr : aloneS ⟨kd, na, nn, nas, pr⟩ (n + 1) = 0) (r : Int)
    (l : Ly) (e0 e1 e2 : Option Addr) (f0 f1 f2 m : Nat) (hc : ∀ (i : Nat) (v : Value), (setV l e0 e1 e2 f0 f1 f2 m)[i]? = some v → w.cell? ⟨b, o + i, none⟩ = some v)
    (hcall : ∀ w', Below w.heap.size w w' → Calls Try.prog 12 #[setA l e0 e1 e2 f0 f1 f2 m, .int .i64 (dp + 1)] w' fun e w'' => e = .returned (.int .i64 r) ∧ Below w'.heap.size w' w'') :
    Calls Try.prog 12 #[.agg #[.int .i64 kd, .string na, .slice a0 nn.length c0, .slice a1 nas.length c1, .string pr, .slice (some ⟨b, o, none⟩) (n + 1) c2], .int .i64 dp] w fun e w' => e = .returned (.int .i64 r) ∧ Below w.heap.size w w' := by
  have AL : Hid (∀ w', Below w.heap.size w w' → Calls Try.prog 27 #[.agg #[.int .i64 kd, .string na, .slice a0 nn.length c0, .slice a1 nas.length c1, .string pr, .slice (some ⟨b, o, none⟩) (n + 1) c2]] w' fun e w'' => e = .returned (.int .i64 0) ∧ Below w'.heap.size w' w'') := fun w' hb => by
    have := wrongAlone_any B ⟨kd, na, nn, nas, pr⟩ a0 a1 (some ⟨b, o, none⟩) c0 c1 c2 (n + 1) w' (h.stay (fun k hk => hb.block k (Nat.lt_of_lt_of_le hk hB)) (Nat.le_refl _)) hn (Nat.le_trans hB hb.size)
    rwa [hr] at this
  have HC : Hid (∀ w', Below w.heap.size w w' → Calls Try.prog 12 #[setA l e0 e1 e2 f0 f1 f2 m, .int .i64 (dp + 1)] w' fun e w'' => e = .returned (.int .i64 r) ∧ Below w'.heap.size w' w'') := hcall
  have k0 := hc 0 _ rfl
  have k1 := hc 1 _ rfl
  have k2 := hc 2 _ rfl
  have k3 := hc 3 _ rfl
  have k4 := hc 4 _ rfl
  have k5 := hc 5 _ rfl
  have HK : Hid (∀ w', Below w.heap.size w w' → w'.cell? ⟨b, o, none⟩ = some (.int .i64 l.kind) ∧ w'.cell? ⟨b, o + 1, none⟩ = some (.string l.name) ∧ w'.cell? ⟨b, o + 2, none⟩ = some (.slice e0 l.names.length f0) ∧ w'.cell? ⟨b, o + 3, none⟩ = some (.slice e1 l.asn.length f1) ∧ w'.cell? ⟨b, o + 4, none⟩ = some (.string l.pre) ∧ w'.cell? ⟨b, o + 5, none⟩ = some (.slice e2 m f2)) := fun w' hb' => by
    have e : ∀ q, w'.cell? ⟨b, q, none⟩ = w.cell? ⟨b, q, none⟩ := fun q => hb'.cell (p := ⟨b, q, none⟩) (Nat.lt_of_lt_of_le hb hB)
    exact ⟨(e _).trans k0, (e _).trans k1, (e _).trans k2, (e _).trans k3, (e _).trans k4, (e _).trans k5⟩
  have hN : b < w.heap.size := Nat.lt_of_lt_of_le hb hB
  clear h hr hc hcall k0 k1 k2 k3 k4 k5
  obtain ⟨k1, k2⟩ := hk
  have hcase : kd = 2 ∨ kd = 3 ∨ kd = 4 ∨ kd = 5 := by omega
  clear k1 k2
  rcases hcase with rfl | rfl | rfl | rfl
  all_goals
    go_enter Try.func12, Try.ntmps12
    go_wp2_with fail
    refine (AL.out _ ((Below.refl _ _).alloc (Nat.le_refl _) _)).mono ?_
    rintro e w1 ⟨rfl, hb1⟩
    have HB1 : Hid (Below w.heap.size w w1) := ((Below.refl _ _).alloc (Nat.le_refl _) _).trans (hb1.mono (by simp))
    have c5 := (hb1.cell (p := ⟨w.heap.size, 5, none⟩) (by simp)).trans (by simp [go_sem] : _ = some (.slice (some ⟨b, o, none⟩) (n + 1) c2))
    obtain ⟨k0, k1, k2, k3, k4, k5⟩ := HK.out w1 HB1.out
    clear hb1
    go_wp2_with fail
    refine (HC.out _ HB1.out).mono ?_
    rintro e w2 ⟨rfl, hb2⟩
    have HB2 : Hid (Below w.heap.size w w2) := HB1.out.trans (hb2.mono HB1.out.size)
    clear hb2 k0 k1 k2 k3 k4 k5 c5
    go_wp2_with fail
    go_ret
    exact ⟨rfl, HB2.out⟩

theorem LiesS.old {B : Nat} {w w' : World} {s : St} {vs : List Value} (h : LiesS B w s vs) (hB : B ≤ w.heap.size) (hb : Below w.heap.size w w') : LiesS B w' s vs :=
  LiesS.stay (fun k hk => hb.block k (Nat.lt_of_lt_of_le hk hB)) (Nat.le_refl _) s vs h

theorem wrongSet_any (B : Nat) : ∀ (f : Nat) (s : St) (vs : List Value) (w : World), f ≤ 12 → LiesS B w s vs → B ≤ w.heap.size →
    Calls Try.prog 12 #[aggOf vs, .int .i64 (13 - (f : Int))] w fun e w' => e = .returned (.int .i64 (form f s)) ∧ Below w.heap.size w w'
  | 0, s, vs, w, _, h, hB => by
    obtain ⟨a0, a1, a2, c0, c1, c2, rfl, hL, hn⟩ := h.cells
    exact wrongSet_over s _ w ⟨_, a0, a1, a2, c0, c1, c2, _, rfl⟩
  | f + 1, s, vs, w, hf, h, hB => by
    obtain ⟨a0, a1, a2, c0, c1, c2, hvs, hL, hn⟩ := h.cells
    by_cases h1 : s.ly.kind = 1
    · rw [form_lib h1, hvs]
      exact wrongSet_lib s.ly a0 a1 a2 c0 c1 c2 s.nk _ (by omega) (by omega) h1 w
    · by_cases h2 : s.ly.kind < 2 ∨ 5 < s.ly.kind
      · rw [form_kind h1 h2, hvs]
        exact wrongSet_kind s.ly a0 a1 a2 c0 c1 c2 s.nk _ (by omega) (by omega) h1 h2 w
      · by_cases h3 : aloneS s.ly s.nk = 0
        · cases s with
          | last l => exact absurd h3 alone_last
          | more l n k =>
            obtain ⟨a0, a1, b, o, c0, c1, c2, ws, rfl, hL, hn, hb, hk, hc⟩ := h
            obtain ⟨e0, e1, e2, f0, f1, f2, rfl, _, _⟩ := hk.cells
            simp only [St.ly, St.nk] at *
            rw [form_kid (by omega) h3]
            refine wrongSet_kid l.kind l.name l.names l.asn l.pre B a0 a1 b o c0 c1 c2 n _ (by omega) (by omega) (by omega) w hL hn hB hb h3 _ k.ly e0 e1 e2 f0 f1 f2 k.nk hc ?_
            intro w' hb'
            have := wrongSet_any B f k _ w' (by omega) (hk.old hB hb') (Nat.le_trans hB hb'.size)
            rw [show (13 - ((f + 1 : Nat) : Int) + 1) = 13 - (f : Int) by omega]
            exact this
        · rw [form_alone (by omega) h3, hvs]
          exact wrongSet_alone s.ly.kind s.ly.name s.ly.names s.ly.asn s.ly.pre B a0 a1 a2 c0 c1 c2 s.nk _ (by omega) (by omega) (by omega) w hL hn hB _ rfl h3
end Go.Proofs.Ytckiihbnjfeplaa
