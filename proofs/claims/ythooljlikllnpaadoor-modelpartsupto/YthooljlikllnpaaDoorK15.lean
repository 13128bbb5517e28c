/- What package model finds wrong with a part. What package model finds wrong with one part. -/
import Derived.Test.YthooljlikllnpaaDoorK14
namespace Go.Proofs.YthooljlikllnpaaDoor
section
set_option linter.unusedVariables false
set_option linter.unusedSimpArgs false
open Go.RowKit

set_option maxRecDepth 100000 in
/-- WHAT THE CHECKER SAYS of an expression. -/
theorem core_any (B cb : Nat) (hB : B ≤ cb) : ∀ (F : Nat), F ≤ 300 → ∀ (g b o : Nat) (c : Cor) (ar : Int) (n : Nat) (w : World), 0 ≤ ar → ar ≤ 2000 * (300 - (F : Int)) → Cn B w g b o c → n ≤ 3000 → Ctr cb n w →
    Calls Tryd.prog 35 #[.pointer (some ⟨cb, 0, none⟩), .pointer (some ⟨b, o, none⟩), .int .i64 (301 - (F : Int)), .int .i64 ar] w (Told cb (ckC F ar c n) w)
  | 0, _, g, b, o, c, ar, n, w, _, _, _, hn, hc => by
    rw [show (301 : Int) - ((0 : Nat) : Int) = 301 from rfl, ckC]
    exact core_deep _ ar cb n w hn hc
  | F + 1, hF, g, b, o, c, ar, n, w, h0, h1, hcn, hn, hc => by
    unfold ckC
    by_cases h : 3000 < n + 1
    · rw [if_pos h]
      exact core_much _ ar _ cb n w (by omega) hc
    · rw [if_neg h]
      refine core_step B F g b o c ar _ cb n w hcn (by omega) (by omega) (by omega) h0 (by omega) hB hc ?_
      intro g b o c a2 n w ha ha2 hcn hn hc
      have := core_any B cb hB F (by omega) g b o c a2 n w ha (by omega) hcn hn hc
      rw [show 301 - ((F + 1 : Nat) : Int) + 1 = 301 - (F : Int) from by omega]
      exact this

theorem ckB_drop (l : List Cor) (i : Nat) (c : Cor) (h : l[i]? = some c) (h0 : (ckC 300 0 c 0).1 = 0) : ckB (l.drop i) = ckB (l.drop (i + 1)) := by
  obtain ⟨hi, e⟩ := List.getElem?_eq_some_iff.1 h
  rw [List.drop_eq_getElem_cons hi, e]
  show (if (ckC 300 0 c 0).1 = 0 then _ else _) = _
  rw [if_pos h0]
theorem ckB_bad (l : List Cor) (i : Nat) (c : Cor) (h : l[i]? = some c) (h0 : (ckC 300 0 c 0).1 ≠ 0) : ckB (l.drop i) = (ckC 300 0 c 0).1 := by
  obtain ⟨hi, e⟩ := List.getElem?_eq_some_iff.1 h
  rw [List.drop_eq_getElem_cons hi, e]
  show (if (ckC 300 0 c 0).1 = 0 then _ else _) = _
  rw [if_neg h0]
theorem Ctr.new (w : World) : Ctr w.heap.size 0 (w.alloc (.cells #[.int .i64 0] 96)) :=
  ⟨by simp, (World.cell?_alloc_mark w _ 96 (0, 0) 0).trans rfl, by
    have h := World.alloc_heap_new w (.cells #[.int .i64 0] 96)
    unfold World.frozen?
    simp only
    rw [h]
    rfl⟩

/-- A part's box, and what lies below. -/
structure Pb (w : World) (nm : ByteArray) (a : Option Addr) (len cap : Nat) (W : World) : Prop where
  old : Below w.heap.size w W
  lt : w.heap.size < W.heap.size
  box : W.heap[w.heap.size]? = some (.cells #[.string nm, .slice a len cap] 39 (0, 0))
theorem Pb.start (w : World) (nm : ByteArray) (a : Option Addr) (len cap : Nat) : Pb w nm a len cap (w.alloc (.cells #[.string nm, .slice a len cap] 39)) :=
  ⟨(Below.refl _ _).alloc (Nat.le_refl _) _, by simp, World.alloc_heap_new w _⟩
theorem Pb.next {w : World} {nm : ByteArray} {a : Option Addr} {len cap : Nat} {W W' : World} (h : Pb w nm a len cap W) (hb : Below W.heap.size W W') : Pb w nm a len cap W' :=
  ⟨h.old.trans (hb.mono (by have := h.lt; omega)), Nat.lt_of_lt_of_le h.lt hb.size, (hb.block _ h.lt).trans h.box⟩

set_option maxRecDepth 100000 in
set_option maxHeartbeats 3200000 in
theorem wrongPart_any (B g : Nat) (nm : ByteArray) (l : List Cor) (a : Option Addr) (cap : Nat) (w : World) (hl : Cc B w g a l) (hB : B ≤ w.heap.size) (hcap : l.length ≤ cap) :
    Calls Tryd.prog 23 #[.agg #[.string nm, .slice a l.length cap]] w fun e w' => e = .returned (.int .i64 (wrongB l)) ∧ Below w.heap.size w w' := by
  have hlen := hl.len
  have HL := hidd hl
  clear hl
  have HP := hidd (Pb.start w nm a l.length cap)
  by_cases h2 : 200 < l.length
  · rw [show wrongB l = 5 by unfold wrongB; rw [if_pos h2]]
    go_enter Tryd.func23, Tryd.ntmps23
    go_wp2_with fail
    go_ret
    exact ⟨rfl, HP.out.old⟩
  have HW : Hid (wrongB l = ckB l) := by unfold wrongB; rw [if_neg h2]; rfl
  generalize wrongB l = y at HW ⊢
  go_enter Tryd.func23, Tryd.ntmps23
  go_wp2_with fail
  go_loopw [13] (fun i wr => ∃ j : Nat, j ≤ l.length ∧ i = .int .i64 j ∧ Hid (Pb w nm a l.length cap wr) ∧ Hid (y = ckB (l.drop j))) (fun i _ => l.length - (intOf i).toNat)
  case atStart => exact ⟨0, Nat.zero_le _, rfl, HP.out, HW.out⟩
  case round =>
    clear HP HW
    obtain ⟨j, hj, rfl, HP, HY⟩ := hrel
    have hcl : wr.cell? ⟨w.heap.size, 1, none⟩ = some (.slice a l.length cap) := by simp [World.cell?, HP.out.box]
    by_cases hlt : j < l.length
    · obtain ⟨c, hc⟩ : ∃ c, l[j]? = some c := ⟨l[j], List.getElem?_eq_getElem hlt⟩
      have hne : l ≠ [] := by intro e; rw [e] at hlt; simp at hlt
      have ba : Below wr.heap.size wr (wr.alloc (.cells #[.int .i64 0] 96)) := (Below.refl _ _).alloc (Nat.le_refl _) _
      have hlw := HP.out.lt
      have hLr : Cc B (wr.alloc (.cells #[.int .i64 0] 96)) g a l := HL.out.below ((HP.out.old.trans (ba.mono (by omega))).mono hB)
      obtain ⟨g', b, o, hg, ha, hall⟩ := hLr.at hne
      subst ha
      have CT := hidd (Ctr.new wr)
      have HK := hidd (hall j c hc)
      have HC := hidd hc
      have HP2 := hidd (HP.out.next ba)
      clear hall hLr hc hne ba
      go_wp2_with fail
      refine (core_any B wr.heap.size (by omega) 300 (Nat.le_refl _) g' b (o + j * 12) c 0 0 _ (Int.le_refl _) (by omega) HK.out (by omega) CT.out).mono ?_
      rintro e w2 ⟨rfl, hk2, hc2⟩
      have HP3 : Hid (Pb w nm (some ⟨b, o, none⟩) l.length cap w2) := ⟨HP2.out.old.trans ((hk2.toBelow (Nat.le_refl _) (by simp)).mono (by omega)), Nat.lt_of_lt_of_le HP2.out.lt hk2.size, (hk2.block _ HP2.out.lt (by simp; omega)).trans HP2.out.box⟩
      have H1 : Hid ((ckC 300 0 c 0).1 = 0 → y = ckB (l.drop (j + 1))) := fun h => HY.out.trans (ckB_drop _ _ _ HC.out h)
      have H2 : Hid ((ckC 300 0 c 0).1 ≠ 0 → y = (ckC 300 0 c 0).1) := fun h => HY.out.trans (ckB_bad _ _ _ HC.out h)
      clear hk2 hc2 HK HC HP2 CT HY HL hcl HP
      generalize (ckC 300 0 c 0).1 = z at H1 H2 ⊢
      by_cases z0 : z = 0
      · subst z0
        go_wp2_with fail
        go_roundw
        case rel => exact ⟨j + 1, by omega, by go_num, HP3.out, H1.out (by trivial)⟩
        case measure => simp [intOf]; omega
      · have z0' : (z != 0) = true := by simpa using z0
        go_wp2_with fail
        go_ret
        exact ⟨by rw [H2.out z0]; rfl, HP3.out.old⟩
    · obtain rfl : j = l.length := by omega
      rw [List.drop_length] at HY
      clear HL
      go_wp2_with fail
      go_ret
      exact ⟨by rw [HY.out]; rfl, HP.out.old⟩
end
section
set_option linter.unusedVariables false
set_option linter.unusedSimpArgs false
open Go.RowKit

/-- An answer's block is as it was made. -/
structure Af (w wr : World) : Prop where
  below : Below w.heap.size w wr
  lt : w.heap.size < wr.heap.size
  box : wr.heap[w.heap.size]? = some (.cells #[.int .i64 0, .int .i64 0] 28 (0, 0))
theorem Af.start (w : World) : Af w (w.alloc (.cells #[.int .i64 0, .int .i64 0] 28)) := ⟨(Below.refl _ _).alloc (Nat.le_refl _) _, by simp, World.alloc_heap_new w _⟩
theorem Af.next {w W W' : World} (h : Af w W) (hb : Below W.heap.size W W') : Af w W' :=
  ⟨h.below.trans (hb.mono (by have := h.lt; omega)), Nat.lt_of_lt_of_le h.lt hb.size, (hb.block _ h.lt).trans h.box⟩
theorem Af.set {w W : World} (h : Af w W) (x y : Int) : Below w.heap.size w ((W.setCell ⟨w.heap.size, 0, none⟩ (.int .i64 x)).setCell ⟨w.heap.size, 1, none⟩ (.int .i64 y)) :=
  (h.below.setCell (p := ⟨w.heap.size, 0, none⟩) (Nat.le_refl _) _).setCell (p := ⟨w.heap.size, 1, none⟩) (Nat.le_refl _) _

set_option maxRecDepth 100000 in
set_option maxHeartbeats 3200000 in
theorem Wrong1 (B g N : Nat) (nm : ByteArray) (l : List Cor) (a : Option Addr) (cap : Nat) (w : World) (hl : Cc B w g a l) (hB : B ≤ w.heap.size) (hcap : l.length ≤ cap)
    (hN : w.heap[N]? = some (.cells #[.string nm, .slice a l.length cap] 39 (0, 0))) :
    Calls Tryd.prog 10 #[.slice (some ⟨N, 0, none⟩) 1 1] w fun e w' => e = .returned (fv (wrongB l, 0)) ∧ Below w.heap.size w w' := by
  have hNl : N < w.heap.size := (Array.getElem?_eq_some_iff.1 hN).1
  have c0 : w.cell? ⟨N, 0, none⟩ = some (.string nm) := by simp [World.cell?, hN]
  have c1 : w.cell? ⟨N, 1, none⟩ = some (.slice a l.length cap) := by simp [World.cell?, hN]
  have WP : Hid (∀ W, Below w.heap.size w W → Calls Tryd.prog 23 #[.agg #[.string nm, .slice a l.length cap]] W fun e w' => e = .returned (.int .i64 (wrongB l)) ∧ Below W.heap.size W w') := fun W hb => wrongPart_any B g nm l a cap W (hl.below (hb.mono hB)) (Nat.le_trans hB hb.size) hcap
  have HA := hidd (Af.start w)
  have hlen := hl.len
  clear hl hB hN
  generalize wrongB l = y at WP ⊢
  go_enter Tryd.func10, Tryd.ntmps10
  go_wp2_with fail
  go_loopw [12] (fun i wr => ∃ j : Nat, j ≤ 1 ∧ i = .int .i64 j ∧ Hid (Af w wr) ∧ Hid (j = 1 → y = 0)) (fun i _ => 1 - (intOf i).toNat)
  case atStart => exact ⟨0, by omega, rfl, HA.out, fun h => by cases h⟩
  case round =>
    clear HA
    obtain ⟨j, hj, rfl, HA, HY⟩ := hrel
    by_cases hlt : j < 1
    · obtain rfl : j = 0 := by omega
      have d0 := (HA.out.below.cell (p := ⟨N, 0, none⟩) hNl).trans c0
      have d1 := (HA.out.below.cell (p := ⟨N, 1, none⟩) hNl).trans c1
      have ba : Below wr.heap.size wr (wr.alloc (.cells #[.string nm, .slice a l.length cap] 39)) := (Below.refl _ _).alloc (Nat.le_refl _) _
      have HA2 := hidd (HA.out.next ba)
      clear ba c0 c1 HY
      go_wp2_with fail
      refine (WP.out _ HA2.out.below).mono ?_
      rintro e w2 ⟨rfl, hb2⟩
      have HA3 := hidd (HA2.out.next hb2)
      have q0 : w2.cell? ⟨w.heap.size, 0, none⟩ = some (.int .i64 0) := by simp [World.cell?, HA3.out.box]
      have q1 : w2.cell? ⟨w.heap.size, 1, none⟩ = some (.int .i64 0) := by simp [World.cell?, HA3.out.box]
      have z0 : w2.frozen? ⟨w.heap.size, 0, none⟩ = false := by simp [World.frozen?, HA3.out.box]
      have z1 : w2.frozen? ⟨w.heap.size, 1, none⟩ = false := by simp [World.frozen?, HA3.out.box]
      clear hb2 HA HA2 d0 d1 WP
      by_cases y0 : y = 0
      · subst y0
        go_wp2_with fail
        go_roundw
        case rel => exact ⟨1, by omega, by go_num, HA3.out, fun _ => by trivial⟩
        case measure => simp [intOf]
      · have y0' : (y != 0) = true := by simpa using y0
        go_wp2_with fail
        refine bodyPost_ret (v := fv (y, 0)) (by simp [results, Tryd.results10, go_sem, fv, q0, q1]) rfl ⟨rfl, HA3.out.set _ _⟩
    · obtain rfl : j = 1 := by omega
      obtain rfl := HY.out rfl
      have q0 : wr.cell? ⟨w.heap.size, 0, none⟩ = some (.int .i64 0) := by simp [World.cell?, HA.out.box]
      have q1 : wr.cell? ⟨w.heap.size, 1, none⟩ = some (.int .i64 0) := by simp [World.cell?, HA.out.box]
      have z0 : wr.frozen? ⟨w.heap.size, 0, none⟩ = false := by simp [World.frozen?, HA.out.box]
      have z1 : wr.frozen? ⟨w.heap.size, 1, none⟩ = false := by simp [World.frozen?, HA.out.box]
      clear WP c0 c1
      go_wp2_with fail
      refine bodyPost_ret (v := fv (0, 0)) (by simp [results, Tryd.results10, go_sem, fv, q0, q1]) rfl ⟨rfl, HA.out.set _ _⟩
end
end Go.Proofs.YthooljlikllnpaaDoor
