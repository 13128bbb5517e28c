/- What package model finds wrong with a part. What package model finds wrong with one part. How much code there will be: package code's scale. Whether there will be too much code. How long the code is, and how many procedures there are. -/
import Derived.Test.YtfmanhkeclogfaaGreatDoorK07
namespace Go.Proofs.YtfmanhkeclogfaaGreatDoor
section
set_option linter.unusedVariables false
set_option linter.unusedSimpArgs false
open Go.RowKit

set_option maxRecDepth 100000 in
/-- WHAT THE CHECKER SAYS of an expression. -/
theorem core_any (B cb : Nat) (hB : B ≤ cb) : ∀ (F : Nat), F ≤ 300 → ∀ (g b o : Nat) (c : Cor) (ar : Int) (n : Nat) (w : World), 0 ≤ ar → ar ≤ 2000 * (300 - (F : Int)) → Cn B w g b o c → n ≤ 3000 → Ctr cb n w →
    Calls Tryz.prog 99 #[.pointer (some ⟨cb, 0, none⟩), .pointer (some ⟨b, o, none⟩), .int .i64 (301 - (F : Int)), .int .i64 ar] w (Told cb (ckC F ar c n) w)
  | 0, _, g, b, o, c, ar, n, w, _, _, _, hn, hc => by
    rw [show (301 : Int) - ((0 : Nat) : Int) = 301 from rfl, ckC]
    exact core_deep _ ar cb n w hn hc
  | F + 1, hF, g, b, o, c, ar, n, w, h0, h1, hcn, hn, hc => by
    unfold ckC
    by_cases h : 3000 < n + 1
    · rw [if_pos h]
      exact core_much _ ar _ cb n w (by omega) hc
    · rw [if_neg h]
      refine core_step B F g b o c ar _ cb n w hcn (by omega) (by omega) (by omega) h0 (by omega) hB hc ?_
      intro g b o c a2 n w ha ha2 hcn hn hc
      have := core_any B cb hB F (by omega) g b o c a2 n w ha (by omega) hcn hn hc
      rw [show 301 - ((F + 1 : Nat) : Int) + 1 = 301 - (F : Int) from by omega]
      exact this

theorem ckB_drop (l : List Cor) (i : Nat) (c : Cor) (h : l[i]? = some c) (h0 : (ckC 300 0 c 0).1 = 0) : ckB (l.drop i) = ckB (l.drop (i + 1)) := by
  obtain ⟨hi, e⟩ := List.getElem?_eq_some_iff.1 h
  rw [List.drop_eq_getElem_cons hi, e]
  show (if (ckC 300 0 c 0).1 = 0 then _ else _) = _
  rw [if_pos h0]
theorem ckB_bad (l : List Cor) (i : Nat) (c : Cor) (h : l[i]? = some c) (h0 : (ckC 300 0 c 0).1 ≠ 0) : ckB (l.drop i) = (ckC 300 0 c 0).1 := by
  obtain ⟨hi, e⟩ := List.getElem?_eq_some_iff.1 h
  rw [List.drop_eq_getElem_cons hi, e]
  show (if (ckC 300 0 c 0).1 = 0 then _ else _) = _
  rw [if_neg h0]
theorem Ctr.new (w : World) : Ctr w.heap.size 0 (w.alloc (.cells #[.int .i64 0] 161)) :=
  ⟨by simp, (World.cell?_alloc_mark w _ 161 (0, 0) 0).trans rfl, by
    have h := World.alloc_heap_new w (.cells #[.int .i64 0] 161)
    unfold World.frozen?
    simp only
    rw [h]
    rfl⟩

/-- A part's box, and what lies below. -/
structure Pb (w : World) (nm : ByteArray) (a : Option Addr) (len cap : Nat) (W : World) : Prop where
  old : Below w.heap.size w W
  lt : w.heap.size < W.heap.size
  box : W.heap[w.heap.size]? = some (.cells #[.string nm, .slice a len cap] 39 (0, 0))
theorem Pb.start (w : World) (nm : ByteArray) (a : Option Addr) (len cap : Nat) : Pb w nm a len cap (w.alloc (.cells #[.string nm, .slice a len cap] 39)) :=
  ⟨(Below.refl _ _).alloc (Nat.le_refl _) _, by simp, World.alloc_heap_new w _⟩
theorem Pb.next {w : World} {nm : ByteArray} {a : Option Addr} {len cap : Nat} {W W' : World} (h : Pb w nm a len cap W) (hb : Below W.heap.size W W') : Pb w nm a len cap W' :=
  ⟨h.old.trans (hb.mono (by have := h.lt; omega)), Nat.lt_of_lt_of_le h.lt hb.size, (hb.block _ h.lt).trans h.box⟩

set_option maxRecDepth 100000 in
set_option maxHeartbeats 3200000 in
theorem wrongPart_any (B g : Nat) (nm : ByteArray) (l : List Cor) (a : Option Addr) (cap : Nat) (w : World) (hl : Cc B w g a l) (hB : B ≤ w.heap.size) (hcap : l.length ≤ cap) :
    Calls Tryz.prog 67 #[.agg #[.string nm, .slice a l.length cap]] w fun e w' => e = .returned (.int .i64 (wrongB l)) ∧ Below w.heap.size w w' := by
  have hlen := hl.len
  have HL := hidd hl
  clear hl
  have HP := hidd (Pb.start w nm a l.length cap)
  by_cases h2 : 200 < l.length
  · rw [show wrongB l = 5 by unfold wrongB; rw [if_pos h2]]
    go_enter Tryz.func67, Tryz.ntmps67
    go_wp2_with fail
    go_ret
    exact ⟨rfl, HP.out.old⟩
  have HW : Hid (wrongB l = ckB l) := by unfold wrongB; rw [if_neg h2]; rfl
  generalize wrongB l = y at HW ⊢
  go_enter Tryz.func67, Tryz.ntmps67
  go_wp2_with fail
  go_loopw [13] (fun i wr => ∃ j : Nat, j ≤ l.length ∧ i = .int .i64 j ∧ Hid (Pb w nm a l.length cap wr) ∧ Hid (y = ckB (l.drop j))) (fun i _ => l.length - (intOf i).toNat)
  case atStart => exact ⟨0, Nat.zero_le _, rfl, HP.out, HW.out⟩
  case round =>
    clear HP HW
    obtain ⟨j, hj, rfl, HP, HY⟩ := hrel
    have hcl : wr.cell? ⟨w.heap.size, 1, none⟩ = some (.slice a l.length cap) := by simp [World.cell?, HP.out.box]
    by_cases hlt : j < l.length
    · obtain ⟨c, hc⟩ : ∃ c, l[j]? = some c := ⟨l[j], List.getElem?_eq_getElem hlt⟩
      have hne : l ≠ [] := by intro e; rw [e] at hlt; simp at hlt
      have ba : Below wr.heap.size wr (wr.alloc (.cells #[.int .i64 0] 161)) := (Below.refl _ _).alloc (Nat.le_refl _) _
      have hlw := HP.out.lt
      have hLr : Cc B (wr.alloc (.cells #[.int .i64 0] 161)) g a l := HL.out.below ((HP.out.old.trans (ba.mono (by omega))).mono hB)
      obtain ⟨g', b, o, hg, ha, hall⟩ := hLr.at hne
      subst ha
      have CT := hidd (Ctr.new wr)
      have HK := hidd (hall j c hc)
      have HC := hidd hc
      have HP2 := hidd (HP.out.next ba)
      clear hall hLr hc hne ba
      go_wp2_with fail
      refine (core_any B wr.heap.size (by omega) 300 (Nat.le_refl _) g' b (o + j * 12) c 0 0 _ (Int.le_refl _) (by omega) HK.out (by omega) CT.out).mono ?_
      rintro e w2 ⟨rfl, hk2, hc2⟩
      have HP3 : Hid (Pb w nm (some ⟨b, o, none⟩) l.length cap w2) := ⟨HP2.out.old.trans ((hk2.toBelow (Nat.le_refl _) (by simp)).mono (by omega)), Nat.lt_of_lt_of_le HP2.out.lt hk2.size, (hk2.block _ HP2.out.lt (by simp; omega)).trans HP2.out.box⟩
      have H1 : Hid ((ckC 300 0 c 0).1 = 0 → y = ckB (l.drop (j + 1))) := fun h => HY.out.trans (ckB_drop _ _ _ HC.out h)
      have H2 : Hid ((ckC 300 0 c 0).1 ≠ 0 → y = (ckC 300 0 c 0).1) := fun h => HY.out.trans (ckB_bad _ _ _ HC.out h)
      clear hk2 hc2 HK HC HP2 CT HY HL hcl HP
      generalize (ckC 300 0 c 0).1 = z at H1 H2 ⊢
      by_cases z0 : z = 0
      · subst z0
        go_wp2_with fail
        go_roundw
        case rel => exact ⟨j + 1, by omega, by go_num, HP3.out, H1.out (by trivial)⟩
        case measure => simp [intOf]; omega
      · have z0' : (z != 0) = true := by simpa using z0
        go_wp2_with fail
        go_ret
        exact ⟨by rw [H2.out z0]; rfl, HP3.out.old⟩
    · obtain rfl : j = l.length := by omega
      rw [List.drop_length] at HY
      clear HL
      go_wp2_with fail
      go_ret
      exact ⟨by rw [HY.out]; rfl, HP.out.old⟩
end
section
set_option linter.unusedVariables false
set_option linter.unusedSimpArgs false
open Go.RowKit

/-- An answer's block is as it was made. -/
structure Af (w wr : World) : Prop where
  below : Below w.heap.size w wr
  lt : w.heap.size < wr.heap.size
  box : wr.heap[w.heap.size]? = some (.cells #[.int .i64 0, .int .i64 0] 42 (0, 0))
theorem Af.start (w : World) : Af w (w.alloc (.cells #[.int .i64 0, .int .i64 0] 42)) := ⟨(Below.refl _ _).alloc (Nat.le_refl _) _, by simp, World.alloc_heap_new w _⟩
theorem Af.next {w W W' : World} (h : Af w W) (hb : Below W.heap.size W W') : Af w W' :=
  ⟨h.below.trans (hb.mono (by have := h.lt; omega)), Nat.lt_of_lt_of_le h.lt hb.size, (hb.block _ h.lt).trans h.box⟩
theorem Af.set {w W : World} (h : Af w W) (x y : Int) : Below w.heap.size w ((W.setCell ⟨w.heap.size, 0, none⟩ (.int .i64 x)).setCell ⟨w.heap.size, 1, none⟩ (.int .i64 y)) :=
  (h.below.setCell (p := ⟨w.heap.size, 0, none⟩) (Nat.le_refl _) _).setCell (p := ⟨w.heap.size, 1, none⟩) (Nat.le_refl _) _

set_option maxRecDepth 100000 in
set_option maxHeartbeats 3200000 in
theorem Wrong1 (B g N : Nat) (nm : ByteArray) (l : List Cor) (a : Option Addr) (cap : Nat) (w : World) (hl : Cc B w g a l) (hB : B ≤ w.heap.size) (hcap : l.length ≤ cap)
    (hN : w.heap[N]? = some (.cells #[.string nm, .slice a l.length cap] 39 (0, 0))) :
    Calls Tryz.prog 40 #[.slice (some ⟨N, 0, none⟩) 1 1] w fun e w' => e = .returned (fv (wrongB l, 0)) ∧ Below w.heap.size w w' := by
  have hNl : N < w.heap.size := (Array.getElem?_eq_some_iff.1 hN).1
  have c0 : w.cell? ⟨N, 0, none⟩ = some (.string nm) := by simp [World.cell?, hN]
  have c1 : w.cell? ⟨N, 1, none⟩ = some (.slice a l.length cap) := by simp [World.cell?, hN]
  have WP : Hid (∀ W, Below w.heap.size w W → Calls Tryz.prog 67 #[.agg #[.string nm, .slice a l.length cap]] W fun e w' => e = .returned (.int .i64 (wrongB l)) ∧ Below W.heap.size W w') := fun W hb => wrongPart_any B g nm l a cap W (hl.below (hb.mono hB)) (Nat.le_trans hB hb.size) hcap
  have HA := hidd (Af.start w)
  have hlen := hl.len
  clear hl hB hN
  generalize wrongB l = y at WP ⊢
  go_enter Tryz.func40, Tryz.ntmps40
  go_wp2_with fail
  go_loopw [12] (fun i wr => ∃ j : Nat, j ≤ 1 ∧ i = .int .i64 j ∧ Hid (Af w wr) ∧ Hid (j = 1 → y = 0)) (fun i _ => 1 - (intOf i).toNat)
  case atStart => exact ⟨0, by omega, rfl, HA.out, fun h => by cases h⟩
  case round =>
    clear HA
    obtain ⟨j, hj, rfl, HA, HY⟩ := hrel
    by_cases hlt : j < 1
    · obtain rfl : j = 0 := by omega
      have d0 := (HA.out.below.cell (p := ⟨N, 0, none⟩) hNl).trans c0
      have d1 := (HA.out.below.cell (p := ⟨N, 1, none⟩) hNl).trans c1
      have ba : Below wr.heap.size wr (wr.alloc (.cells #[.string nm, .slice a l.length cap] 39)) := (Below.refl _ _).alloc (Nat.le_refl _) _
      have HA2 := hidd (HA.out.next ba)
      clear ba c0 c1 HY
      go_wp2_with fail
      refine (WP.out _ HA2.out.below).mono ?_
      rintro e w2 ⟨rfl, hb2⟩
      have HA3 := hidd (HA2.out.next hb2)
      have q0 : w2.cell? ⟨w.heap.size, 0, none⟩ = some (.int .i64 0) := by simp [World.cell?, HA3.out.box]
      have q1 : w2.cell? ⟨w.heap.size, 1, none⟩ = some (.int .i64 0) := by simp [World.cell?, HA3.out.box]
      have z0 : w2.frozen? ⟨w.heap.size, 0, none⟩ = false := by simp [World.frozen?, HA3.out.box]
      have z1 : w2.frozen? ⟨w.heap.size, 1, none⟩ = false := by simp [World.frozen?, HA3.out.box]
      clear hb2 HA HA2 d0 d1 WP
      by_cases y0 : y = 0
      · subst y0
        go_wp2_with fail
        go_roundw
        case rel => exact ⟨1, by omega, by go_num, HA3.out, fun _ => by trivial⟩
        case measure => simp [intOf]
      · have y0' : (y != 0) = true := by simpa using y0
        go_wp2_with fail
        refine bodyPost_ret (v := fv (y, 0)) (by simp [results, Tryz.results40, go_sem, fv, q0, q1]) rfl ⟨rfl, HA3.out.set _ _⟩
    · obtain rfl : j = 1 := by omega
      obtain rfl := HY.out rfl
      have q0 : wr.cell? ⟨w.heap.size, 0, none⟩ = some (.int .i64 0) := by simp [World.cell?, HA.out.box]
      have q1 : wr.cell? ⟨w.heap.size, 1, none⟩ = some (.int .i64 0) := by simp [World.cell?, HA.out.box]
      have z0 : wr.frozen? ⟨w.heap.size, 0, none⟩ = false := by simp [World.frozen?, HA.out.box]
      have z1 : wr.frozen? ⟨w.heap.size, 1, none⟩ = false := by simp [World.frozen?, HA.out.box]
      clear WP c0 c1
      go_wp2_with fail
      refine bodyPost_ret (v := fv (0, 0)) (by simp [results, Tryz.results40, go_sem, fv, q0, q1]) rfl ⟨rfl, HA.out.set _ _⟩
end
section
set_option linter.unusedVariables false
set_option linter.unusedSimpArgs false
open Go.RowKit

mutual
/-- How many procedures are in an expression. -/
def lamC : Cor → Nat
  | ⟨k, i, n, lb, ow, q, ks⟩ => (if k = 8 then 1 else 0) + lamL ks
def lamL : List Cor → Nat
  | [] => 0
  | c :: r => lamC c + lamL r
end
mutual
/-- How long the longest one of these is. -/
def lonC : Cor → Nat
  | ⟨k, i, n, lb, ow, q, ks⟩ => max (lonL ks) (if k = 8 then sizL ks + 1 else 0)
def lonL : List Cor → Nat
  | [] => 0
  | c :: r => max (lonC c) (lonL r)
end
mutual
/-- Each node has as many kids as it must. -/
def okC : Cor → Prop
  | ⟨k, i, n, lb, ow, q, ks⟩ => wkids k ks.length = 0 ∧ okL ks
def okL : List Cor → Prop
  | [] => True
  | c :: r => okC c ∧ okL r
end
theorem sizL_append : ∀ (a b : List Cor), sizL (a ++ b) = sizL a + sizL b
  | [], b => by simp [sizL]
  | c :: a, b => by rw [List.cons_append, sizL, sizL, sizL_append a b]; omega
theorem lamL_append : ∀ (a b : List Cor), lamL (a ++ b) = lamL a + lamL b
  | [], b => by simp [lamL]
  | c :: a, b => by rw [List.cons_append, lamL, lamL, lamL_append a b]; omega
theorem lonL_append : ∀ (a b : List Cor), lonL (a ++ b) = max (lonL a) (lonL b)
  | [], b => by simp [lonL]
  | c :: a, b => by rw [List.cons_append, lonL, lonL, lonL_append a b]; omega
theorem take_more {α : Type} {l : List α} {j : Nat} {c : α} (h : l[j]? = some c) : l.take (j + 1) = l.take j ++ [c] := by
  rw [List.take_add_one, h]; rfl
theorem sizL_more {l : List Cor} {j : Nat} {c : Cor} (h : l[j]? = some c) : sizL (l.take (j + 1)) = sizL (l.take j) + sizC c := by
  rw [take_more h, sizL_append]; simp [sizL]
theorem lamL_more {l : List Cor} {j : Nat} {c : Cor} (h : l[j]? = some c) : lamL (l.take (j + 1)) = lamL (l.take j) + lamC c := by
  rw [take_more h, lamL_append]; simp [lamL]
theorem lonL_more {l : List Cor} {j : Nat} {c : Cor} (h : l[j]? = some c) : lonL (l.take (j + 1)) = max (lonL (l.take j)) (lonC c) := by
  rw [take_more h, lonL_append]; simp [lonL]
theorem sizL_take (l : List Cor) (j : Nat) : sizL (l.take j) ≤ sizL l := by
  have h := sizL_append (l.take j) (l.drop j)
  rw [List.take_append_drop] at h
  omega
theorem lamL_take (l : List Cor) (j : Nat) : lamL (l.take j) ≤ lamL l := by
  have h := lamL_append (l.take j) (l.drop j)
  rw [List.take_append_drop] at h
  omega
theorem okL_at : ∀ (l : List Cor) (j : Nat) (c : Cor), okL l → l[j]? = some c → okC c
  | x :: r, 0, c, h, hj => by
    rw [okL] at h
    simp at hj
    subst hj
    exact h.1
  | x :: r, j + 1, c, h, hj => by
    rw [okL] at h
    exact okL_at r j c h.2 (by simpa using hj)
theorem okC_kids {c : Cor} (h : okC c) : okL c.kids := by
  obtain ⟨k, i, n, lb, ow, q, ks⟩ := c
  rw [okC] at h
  exact h.2
theorem okC_wk {c : Cor} (h : okC c) : wkids c.kind c.kids.length = 0 := by
  obtain ⟨k, i, n, lb, ow, q, ks⟩ := c
  rw [okC] at h
  exact h.1

theorem wk12 {n : Nat} (h : wkids 12 n = 0) : 1 ≤ n := by
  cases n with
  | zero => simp [wkids] at h
  | succ n => omega

/-- What a scale holds. -/
structure Scl (sb p q : Nat) (w : World) : Prop where
  lt : sb < w.heap.size
  c0 : w.cell? ⟨sb, 0, none⟩ = some (.int .i64 (p : Int))
  c1 : w.cell? ⟨sb, 1, none⟩ = some (.int .i64 (q : Int))
  z0 : w.frozen? ⟨sb, 0, none⟩ = false
  z1 : w.frozen? ⟨sb, 1, none⟩ = false
def ToldS (sb : Nat) (r p q : Nat) (w : World) (e : Ending) (w' : World) : Prop := e = .returned (.int .i64 (r : Int)) ∧ Keep sb w w' ∧ Scl sb p q w'

theorem Scl.set {sb p q : Nat} {w : World} (h : Scl sb p q w) (p' q' : Nat) : Scl sb p' q' ((w.setCell ⟨sb, 0, none⟩ (.int .i64 (p' : Int))).setCell ⟨sb, 1, none⟩ (.int .i64 (q' : Int))) := by
  obtain ⟨lt, c0, c1, z0, z1⟩ := h
  refine ⟨by simp [World.setCell]; exact lt, ?_, ?_, ?_, ?_⟩
  · go_simp
  · go_simp
  · go_simp
  · go_simp

set_option maxRecDepth 100000 in
set_option maxHeartbeats 1600000 in
theorem sproto_any (sb p q n : Nat) (w : World) (h : Scl sb p q w) (hp : p ≤ 1000000000) (hq : q ≤ 1000000000) (hn : n ≤ 1000000000) :
    Calls Tryz.prog 68 #[.pointer (some ⟨sb, 0, none⟩), .int .i64 (n : Int)] w fun e w' => e = .returned (.tuple #[]) ∧ Keep sb w w' ∧ Scl sb (p + 1) (max q (n + 1)) w' := by
  have HS := hidd (h.set (p + 1) (max q (n + 1)))
  have HK : Hid (Keep sb w ((w.setCell ⟨sb, 0, none⟩ (.int .i64 ((p + 1 : Nat) : Int))).setCell ⟨sb, 1, none⟩ (.int .i64 ((max q (n + 1) : Nat) : Int)))) := ((Keep.refl sb w).setCell ⟨sb, 0, none⟩ rfl _).setCell ⟨sb, 1, none⟩ rfl _
  obtain ⟨lt, c0, c1, z0, z1⟩ := h
  go_enter Tryz.func68, Tryz.ntmps68
  go_wp2_with fail
  rw [show max (q : Int) ((n : Int) + 1) = ((max q (n + 1) : Nat) : Int) by omega, show (p : Int) + 1 = ((p + 1 : Nat) : Int) by omega]
  go_end0
  exact ⟨rfl, HK.out, HS.out⟩

set_option maxRecDepth 100000 in
set_option maxHeartbeats 3200000 in
theorem score_step (B f sb : Nat) (hB : B ≤ sb)
    (ih : ∀ (l : List Cor) (a : Option Addr) (cap p q : Nat) (w : World), Cc B w f a l → l.length ≤ cap → okL l → sizL l ≤ 1000000000 → p + lamL l ≤ 1000000000 → q ≤ 1000000000 → lonL l ≤ 1000000000 → Scl sb p q w → Calls Tryz.prog 69 #[.pointer (some ⟨sb, 0, none⟩), .slice a l.length cap] w (ToldS sb (sizL l) (p + lamL l) (max q (lonL l)) w))
    (b o : Nat) (c : Cor) (p q : Nat) (w : World) (hc : Cn B w f b o c) (hok : okC c) (hs : sizC c ≤ 1000000000) (hp : p + lamC c ≤ 1000000000) (hq : q ≤ 1000000000) (hl : lonC c ≤ 1000000000) (h : Scl sb p q w) :
    Calls Tryz.prog 100 #[.pointer (some ⟨sb, 0, none⟩), .pointer (some ⟨b, o, none⟩)] w (ToldS sb (sizC c) (p + lamC c) (max q (lonC c)) w) := by
  obtain ⟨hbB, qa, qc, ka, kc, nc, ok, hqd, hk⟩ := hc
  have hw1 := okC_wk hok
  have hlen := hk.len
  have hbs : b ≠ sb := by omega
  have hsl := h.lt
  obtain ⟨k, i, n, lb, ow, qq, ks⟩ := c
  have c0 := nc.c0
  have c11 := nc.c11
  simp only at c0 c11 hk hw1 hlen
  have hkc : ks.length ≤ kc := ok.2.2.2.2
  have hks : sizL ks ≤ 1000000000 := by
    by_cases h8 : k = 8
    · subst h8; rw [lonC, if_pos rfl] at hl; omega
    · rw [sizC, if_neg h8] at hs
      by_cases h7 : k = 7
      · rw [if_pos h7] at hs; omega
      · rw [if_neg h7] at hs
        by_cases h12 : k = 12
        · rw [if_pos h12] at hs
          subst h12
          have := wk12 hw1
          omega
        · rw [if_neg h12] at hs; omega
  have hkl : lonL ks ≤ 1000000000 := by rw [lonC] at hl; omega
  have hkp : p + lamL ks ≤ 1000000000 := by rw [lamC] at hp; omega
  have H25 := hidd (ih ks ka kc p q w hk hkc (okC_kids hok) hks hkp hq hkl h)
  have E1 : Hid (k = 8 → sizC ⟨k, i, n, lb, ow, qq, ks⟩ = 1 ∧ p + lamC ⟨k, i, n, lb, ow, qq, ks⟩ = p + lamL ks + 1 ∧ max q (lonC ⟨k, i, n, lb, ow, qq, ks⟩) = max (max q (lonL ks)) (sizL ks + 1)) := fun h8 => by
    rw [sizC, lamC, lonC, if_pos h8, if_pos h8, if_pos h8]; omega
  have E2 : Hid (k ≠ 8 → p + lamC ⟨k, i, n, lb, ow, qq, ks⟩ = p + lamL ks ∧ max q (lonC ⟨k, i, n, lb, ow, qq, ks⟩) = max q (lonL ks)) := fun h8 => by
    rw [lamC, lonC, if_neg h8, if_neg h8]; omega
  have E3 : Hid (k ≠ 8 → sizC ⟨k, i, n, lb, ow, qq, ks⟩ = if k = 7 then sizL ks + 2 else if k = 12 then sizL ks + ks.length - 1 else sizL ks + 1) := fun h8 => by
    show sizC _ = _
    rw [sizC, if_neg h8]
  have hw12 : k = 12 → 1 ≤ ks.length := fun h12 => by subst h12; exact wk12 hw1
  generalize sizC ⟨k, i, n, lb, ow, qq, ks⟩ = S at hs E1 E3 ⊢
  generalize p + lamC ⟨k, i, n, lb, ow, qq, ks⟩ = P at hp E1 E2 ⊢
  generalize max q (lonC ⟨k, i, n, lb, ow, qq, ks⟩) = Q at E1 E2 ⊢
  generalize hSL : sizL ks = sl at *
  generalize hPL : p + lamL ks = pl at *
  generalize hQL : max q (lonL ks) = ql at *
  have hql : ql ≤ 1000000000 := by omega
  clear hSL hPL hQL nc ok hqd hk hok hl ih hw1 hkl h
  go_enter Tryz.func100, Tryz.ntmps100
  go_wp2_with fail
  refine H25.out.mono ?_
  rintro e w1 ⟨rfl, hk1, hs1⟩
  have d0 := (hk1.cell (p := ⟨b, o, none⟩) (by show b < w.heap.size; omega) hbs).trans c0
  have d11 := (hk1.cell (p := ⟨b, o + 11, none⟩) (by show b < w.heap.size; omega) hbs).trans c11
  have HK1 := hidd hk1
  have HS1 := hidd hs1
  clear hk1 hs1 c0 c11 H25
  by_cases h8 : k = 8
  · obtain ⟨rfl, rfl, rfl⟩ := E1.out h8
    subst h8
    clear E1 E2 E3
    go_wp2_with fail
    refine (sproto_any sb pl ql sl w1 HS1.out hkp hql hks).mono ?_
    rintro e w2 ⟨rfl, hk2, hs2⟩
    have HK2 := hidd (HK1.out.trans hk2)
    have HS2 := hidd hs2
    clear hk2 hs2 d0 d11
    go_wp2_with fail
    go_ret
    exact ⟨rfl, HK2.out, HS2.out⟩
  · obtain ⟨rfl, rfl⟩ := E2.out h8
    have e3 := E3.out h8
    have h8' : (k == 8) = false := by simpa using h8
    clear E1 E2 E3 h8
    by_cases h7 : k = 7
    · rw [if_pos h7] at e3
      subst e3 h7
      go_wp2_with fail
      go_ret
      exact ⟨by simp, HK1.out, HS1.out⟩
    · rw [if_neg h7] at e3
      have h7' : (k == 7) = false := by simpa using h7
      clear h7
      by_cases h12 : k = 12
      · rw [if_pos h12] at e3
        have := hw12 h12
        subst e3 h12
        go_wp2_with fail
        go_ret
        exact ⟨by rw [show ((sl + ks.length - 1 : Nat) : Int) = (sl : Int) + ks.length - 1 by omega]; rfl, HK1.out, HS1.out⟩
      · rw [if_neg h12] at e3
        have h12' : (k == 12) = false := by simpa using h12
        clear h12
        subst e3
        go_wp2_with fail
        go_ret
        exact ⟨by simp, HK1.out, HS1.out⟩

set_option maxRecDepth 100000 in
set_option maxHeartbeats 3200000 in
theorem sall_step (B f sb : Nat) (hB : B ≤ sb)
    (l : List Cor)
    (ih : l ≠ [] → ∀ (b o : Nat) (c : Cor) (p q : Nat) (w : World), Cn B w f b o c → okC c → sizC c ≤ 1000000000 → p + lamC c ≤ 1000000000 → q ≤ 1000000000 → lonC c ≤ 1000000000 → Scl sb p q w → Calls Tryz.prog 100 #[.pointer (some ⟨sb, 0, none⟩), .pointer (some ⟨b, o, none⟩)] w (ToldS sb (sizC c) (p + lamC c) (max q (lonC c)) w))
    (a : Option Addr) (cap p q : Nat) (w : World) (hc : Cc B w (f + 1) a l) (hcap : l.length ≤ cap) (hok : okL l) (hs : sizL l ≤ 1000000000) (hp : p + lamL l ≤ 1000000000) (hq : q ≤ 1000000000) (hl : lonL l ≤ 1000000000) (h : Scl sb p q w) :
    Calls Tryz.prog 69 #[.pointer (some ⟨sb, 0, none⟩), .slice a l.length cap] w (ToldS sb (sizL l) (p + lamL l) (max q (lonL l)) w) := by
  have hlen := hc.len
  have HL := hidd hc
  have IH := hidd ih
  have HOK : Hid (okL l ∧ sizL l ≤ 1000000000 ∧ p + lamL l ≤ 1000000000 ∧ lonL l ≤ 1000000000) := ⟨hok, hs, hp, hl⟩
  have HS0 := hidd h
  have hsl := h.lt
  clear hc ih hok h hs hp hl
  obtain ⟨sz, hsz⟩ : ∃ sz, sz = sizL l := ⟨_, rfl⟩
  obtain ⟨pp, hpp⟩ : ∃ pp, pp = p + lamL l := ⟨_, rfl⟩
  obtain ⟨qq, hqq⟩ : ∃ qq, qq = max q (lonL l) := ⟨_, rfl⟩
  rw [← hsz, ← hpp, ← hqq]
  have EQ : Hid (sz = sizL l ∧ pp = p + lamL l ∧ qq = max q (lonL l)) := ⟨hsz, hpp, hqq⟩
  clear hsz hpp hqq
  go_enter Tryz.func69, Tryz.ntmps69
  go_wp2_with fail
  go_loopw [5, 9] (fun v ix wr => ∃ j s : Nat, j ≤ l.length ∧ ix = .int .i64 j ∧ v = .int .i64 s ∧ s ≤ 1000000000 ∧ Hid (s = sizL (l.take j) ∧ Keep sb w wr ∧ Scl sb (p + lamL (l.take j)) (max q (lonL (l.take j))) wr)) (fun _ ix _ => l.length - (intOf ix).toNat)
  case atStart => exact ⟨0, 0, Nat.zero_le _, rfl, rfl, by omega, by rfl, Keep.refl _ _, by simpa [lamL, lonL] using HS0.out⟩
  case round =>
    clear HS0
    obtain ⟨j, s, hj, rfl, rfl, hs9, HR⟩ := hrel
    by_cases hlt : j < l.length
    · obtain ⟨c, hc⟩ : ∃ c, l[j]? = some c := ⟨l[j], List.getElem?_eq_getElem hlt⟩
      have hne : l ≠ [] := by intro e; rw [e] at hlt; simp at hlt
      obtain ⟨g', b, o, hg, ha, hall⟩ := (HL.out.below (HR.out.2.1.toBelow hB (by omega))).at hne
      obtain rfl : f = g' := by omega
      subst ha
      have b1 := sizL_more hc
      have b2 := lamL_more hc
      have b3 := lonL_more hc
      have t1 := sizL_take l (j + 1)
      have t2 := lamL_take l (j + 1)
      have t3 : lonL (l.take (j + 1)) ≤ lonL l := by
        have h := lonL_append (l.take (j + 1)) (l.drop (j + 1))
        rw [List.take_append_drop] at h
        omega
      have hkk := HOK.out
      have hse := HR.out.1
      have hsum : s + sizC c ≤ 1000000000 := by omega
      have CALL := hidd (IH.out hne b (o + j * 12) c (p + lamL (l.take j)) (max q (lonL (l.take j))) wr (hall j c hc) (okL_at l j c hkk.1 hc) (by omega) (by omega) (by omega) (by omega) HR.out.2.2)
      have NX : Hid (s + sizC c = sizL (l.take (j + 1)) ∧ p + lamL (l.take j) + lamC c = p + lamL (l.take (j + 1)) ∧ max (max q (lonL (l.take j))) (lonC c) = max q (lonL (l.take (j + 1)))) := ⟨by omega, by omega, by omega⟩
      have HKr := hidd HR.out.2.1
      clear hall hc hne b1 b2 b3 t1 t2 t3 hkk hse HR
      generalize p + lamL (l.take j) + lamC c = P at CALL NX
      generalize max (max q (lonL (l.take j))) (lonC c) = Q at CALL NX
      generalize sizC c = S at CALL NX hsum
      go_wp2_with fail
      refine CALL.out.mono ?_
      rintro e w2 ⟨rfl, hk2, hs2⟩
      obtain ⟨n1, n2, n3⟩ := NX.out
      have HE : Hid (s + S = sizL (l.take (j + 1)) ∧ Keep sb w w2 ∧ Scl sb (p + lamL (l.take (j + 1))) (max q (lonL (l.take (j + 1)))) w2) := ⟨n1, HKr.out.trans hk2, by rw [← n2, ← n3]; exact hs2⟩
      clear hk2 hs2 n1 n2 n3 NX HKr CALL
      go_wp2_with fail
      go_roundw
      case rel => exact ⟨j + 1, s + S, by omega, by go_num, by simp, hsum, HE.out⟩
      case measure => simp [intOf]; omega
    · obtain rfl : j = l.length := by omega
      rw [List.take_length] at HR
      obtain ⟨e1, e2, e3⟩ := EQ.out
      clear EQ IH HL HOK
      go_wp2_with fail
      go_ret
      exact ⟨by rw [e1, HR.out.1]; rfl, HR.out.2.1, by rw [e2, e3]; exact HR.out.2.2⟩

theorem sall_any (B sb : Nat) (hB : B ≤ sb) : ∀ (f : Nat) (l : List Cor) (a : Option Addr) (cap p q : Nat) (w : World), Cc B w f a l → l.length ≤ cap → okL l → sizL l ≤ 1000000000 → p + lamL l ≤ 1000000000 → q ≤ 1000000000 → lonL l ≤ 1000000000 → Scl sb p q w →
    Calls Tryz.prog 69 #[.pointer (some ⟨sb, 0, none⟩), .slice a l.length cap] w (ToldS sb (sizL l) (p + lamL l) (max q (lonL l)) w)
  | 0, l, a, cap, p, q, w, h, h1, h2, h3, h4, h5, h6, h7 => by
    have e : l = [] := h
    subst e
    exact sall_step B 0 sb hB [] (fun h => absurd rfl h) a cap p q w ⟨Nat.zero_le _, Or.inl rfl⟩ h1 h2 h3 h4 h5 h6 h7
  | f + 1, l, a, cap, p, q, w, h, h1, h2, h3, h4, h5, h6, h7 =>
    sall_step B f sb hB l (fun _ => score_step B f sb hB (sall_any B sb hB f)) a cap p q w h h1 h2 h3 h4 h5 h6 h7
end
section
set_option linter.unusedVariables false
set_option linter.unusedSimpArgs false
open Go.RowKit

def mchB (l : List Cor) : Bool := decide (500 < lamL l + 1) || decide (6000 < max (lonL l) (sizL l + l.length + 1))
theorem Scl.new (w : World) : Scl w.heap.size 0 0 (w.alloc (.cells #[.int .i64 0, .int .i64 0] 123)) := by
  have h := World.alloc_heap_new w (.cells #[.int .i64 0, .int .i64 0] 123)
  refine ⟨by simp, (World.cell?_alloc_mark w _ 123 (0, 0) 0).trans rfl, (World.cell?_alloc_mark w _ 123 (0, 0) 1).trans rfl, ?_, ?_⟩
  · unfold World.frozen?
    simp only
    rw [h]
    rfl
  · unfold World.frozen?
    simp only
    rw [h]
    rfl

set_option maxRecDepth 100000 in
set_option maxHeartbeats 1600000 in
theorem much_any (B g : Nat) (l : List Cor) (a : Option Addr) (cap : Nat) (w : World) (hc : Cc B w g a l) (hB : B ≤ w.heap.size) (hcap : l.length ≤ cap) (hok : okL l) (hs : sizL l ≤ 100000000) (hp : lamL l ≤ 100000000) (hl : lonL l ≤ 100000000) (hn : l.length ≤ 200) :
    Calls Tryz.prog 41 #[.slice a l.length cap] w fun e w' => e = .returned (.bool (mchB l)) ∧ Below w.heap.size w w' := by
  have HC := hidd (sall_any B w.heap.size hB g l a cap 0 0 _ (hc.below ((Below.refl _ _).alloc hB (.cells #[.int .i64 0, .int .i64 0] 123))) hcap hok (by omega) (by omega) (by omega) (by omega) (Scl.new w))
  have HE : Hid (mchB l = (decide (500 < 0 + lamL l + 1) || decide (6000 < max (max 0 (lonL l)) (sizL l + l.length + 1)))) := by
    show mchB l = _
    unfold mchB
    rw [Nat.zero_add, Nat.zero_max]
  have hq : max 0 (lonL l) ≤ 100000000 := by omega
  have hp' : 0 + lamL l ≤ 100000000 := by omega
  generalize max 0 (lonL l) = q at HC HE hq
  generalize 0 + lamL l = p at HC HE hp'
  generalize sizL l = s at HC HE hs
  clear hc hok hp hl
  generalize mchB l = y at HE ⊢
  go_enter Tryz.func41, Tryz.ntmps41
  go_wp2_with fail
  refine HC.out.mono ?_
  rintro e w1 ⟨rfl, hk1, hs1⟩
  have HB1 : Hid (Below w.heap.size w w1) := ((Below.refl _ _).alloc (Nat.le_refl _) _).trans (hk1.toBelow (Nat.le_refl _) (by simp))
  have HS1 := hidd hs1
  clear hk1 hs1 HC
  go_wp2_with fail
  rw [show (s : Int) + l.length = ((s + l.length : Nat) : Int) by omega]
  refine (sproto_any w.heap.size p q (s + l.length) w1 HS1.out (by omega) (by omega) (by omega)).mono ?_
  rintro e w2 ⟨rfl, hk2, hs2⟩
  have HB2 : Hid (Below w.heap.size w w2) := HB1.out.trans (hk2.toBelow (Nat.le_refl _) HB1.out.size)
  obtain ⟨lt, c0, c1, z0, z1⟩ := hs2
  clear hk2 HB1 HS1
  by_cases h5 : 500 < p + 1
  · have h5' : (500 : Int) < ((p + 1 : Nat) : Int) := by omega
    have e5 : y = true := by rw [HE.out]; simp [h5]
    subst e5
    clear HE h5
    go_wp2_with fail
    go_ret
    exact ⟨rfl, HB2.out⟩
  · have h5' : ¬ (500 : Int) < ((p + 1 : Nat) : Int) := by omega
    by_cases h6 : 6000 < max q (s + l.length + 1)
    · have h6' : (6000 : Int) < ((max q (s + l.length + 1) : Nat) : Int) := by omega
      have e5 : y = true := by rw [HE.out]; simp only [h6, decide_true, Bool.or_true]
      subst e5
      clear HE h5 h6
      generalize max q (s + l.length + 1) = M at c1 h6'
      go_wp2_with fail
      go_ret
      exact ⟨rfl, HB2.out⟩
    · have h6' : ¬ (6000 : Int) < ((max q (s + l.length + 1) : Nat) : Int) := by omega
      have e5 : y = false := by rw [HE.out]; simp only [h5, h6, decide_false, Bool.or_false]
      subst e5
      clear HE h5 h6
      generalize max q (s + l.length + 1) = M at c1 h6'
      go_wp2_with fail
      go_ret
      exact ⟨by simp [h6']; omega, HB2.out⟩
end
section
set_option linter.unusedVariables false
set_option linter.unusedSimpArgs false

theorem wk8 {n : Nat} (h : wkids 8 n = 0) : n = 1 := by
  unfold wkids at h
  simp at h
  exact h
theorem wk7 {n : Nat} (h : wkids 7 n = 0) : n = 3 := by
  unfold wkids at h
  simp at h
  exact h
theorem genC_else {k : Int} (i n : Int) (lb ow : ByteArray) (q : Dat) (ks : List Cor) (at0 pr : Nat) (h8 : ¬ k = 8) (h7 : ¬ k = 7) (h12 : ¬ k = 12) :
    genC ⟨k, i, n, lb, ow, q, ks⟩ at0 pr = ((genL ks at0 pr).1 ++ [lastI ⟨k, i, n, lb, ow, q, ks⟩], (genL ks at0 pr).2) := by
  rw [genC.eq_def]
  simp only [if_neg h8, if_neg h7, if_neg h12]
def Len (c : Cor) : Prop := ∀ at0 pr, (genC c at0 pr).1.length = sizC c ∧ (genC c at0 pr).2.length = lamC c
theorem genL_len : ∀ (l : List Cor), (∀ c ∈ l, Len c) → ∀ at0 pr, (genL l at0 pr).1.length = sizL l ∧ (genL l at0 pr).2.length = lamL l
  | [], _, at0, pr => by rw [genL, sizL, lamL]; exact ⟨rfl, rfl⟩
  | c :: r, h, at0, pr => by
    have h1 := h c (by simp) at0 pr
    have h2 := genL_len r (fun c hc => h c (List.mem_cons_of_mem _ hc)) (at0 + (genC c at0 pr).1.length) (pr + (genC c at0 pr).2.length)
    rw [genL, sizL, lamL]
    simp only [List.length_append]
    omega
theorem genS_len : ∀ (l : List Cor), (∀ c ∈ l, Len c) → ∀ at0 pr, (genS l false at0 pr).1.length = sizL l + l.length ∧ (genS l false at0 pr).2.length = lamL l
  | [], _, at0, pr => by rw [genS, sizL, lamL]; exact ⟨rfl, rfl⟩
  | c :: r, h, at0, pr => by
    have h1 := h c (by simp) (at0 + 1) pr
    have h2 := genS_len r (fun c hc => h c (List.mem_cons_of_mem _ hc)) (at0 + 1 + (genC c (at0 + 1) pr).1.length) (pr + (genC c (at0 + 1) pr).2.length)
    rw [genS, sizL, lamL]
    simp only [List.length_append, Bool.false_eq_true, if_false, List.length_cons, List.length_nil, Nat.zero_add]
    omega
theorem genS_len1 (c : Cor) (r : List Cor) (h : ∀ x ∈ c :: r, Len x) (at0 pr : Nat) : (genS (c :: r) true at0 pr).1.length = sizL (c :: r) + (c :: r).length - 1 ∧ (genS (c :: r) true at0 pr).2.length = lamL (c :: r) := by
  have h1 := h c (by simp) at0 pr
  have h2 := genS_len r (fun c hc => h c (List.mem_cons_of_mem _ hc)) (at0 + (genC c at0 pr).1.length) (pr + (genC c at0 pr).2.length)
  rw [genS, sizL, lamL]
  simp only [List.length_append, if_true, List.length_cons, List.length_nil, Nat.add_zero, List.nil_append]
  omega
mutual
theorem genC_len : ∀ (c : Cor), okC c → Len c
  | ⟨k, i, n, lb, ow, q, ks⟩, h => by
    rw [okC] at h
    have E := each_len ks h.2
    have hw := h.1
    intro at0 pr
    by_cases h8 : k = 8
    · subst h8
      have := wk8 hw
      match ks, this, E with
      | [b], _, E =>
        have h1 := E b (by simp) 0 (pr + 1)
        rw [genC, sizC, lamC]
        simp [lamL]
        omega
    · by_cases h7 : k = 7
      · subst h7
        have := wk7 hw
        match ks, this, E with
        | [x, y, z], _, E =>
          have h1 := E x (by simp) at0 pr
          have h2 := E y (by simp) (at0 + (genC x at0 pr).1.length + 1) (pr + (genC x at0 pr).2.length)
          have h3 := E z (by simp) (at0 + (genC x at0 pr).1.length + 1 + (genC y (at0 + (genC x at0 pr).1.length + 1) (pr + (genC x at0 pr).2.length)).1.length + 1) (pr + (genC x at0 pr).2.length + (genC y (at0 + (genC x at0 pr).1.length + 1) (pr + (genC x at0 pr).2.length)).2.length)
          rw [genC, sizC, lamC]
          simp [lamL, sizL]
          omega
      · by_cases h12 : k = 12
        · subst h12
          have := wk12 hw
          match ks, this, E with
          | c :: r, _, E =>
            have h1 := genS_len1 c r E at0 pr
            rw [genC, sizC, lamC]
            simp only [Int.reduceEq, if_false, if_true, Nat.zero_add]
            exact h1
        · have h1 := genL_len ks E at0 pr
          rw [genC_else i n lb ow q ks at0 pr h8 h7 h12, sizC, lamC, if_neg h8, if_neg h7, if_neg h12, if_neg h8]
          simp only [List.length_append, List.length_singleton]
          omega
theorem each_len : ∀ (l : List Cor), okL l → ∀ c ∈ l, Len c
  | [], _, c, hc => by cases hc
  | x :: r, h, c, hc => by
    rw [okL] at h
    rcases List.mem_cons.1 hc with e | hc
    · rw [e]; exact genC_len x h.1
    · exact each_len r h.2 c hc
end
end
end Go.Proofs.YtfmanhkeclogfaaGreatDoor
