/- Chapter 3, the document's side: whether libraries are the same. -/
import Derived.Test.YtonafbennobgdaaGreatDoorK29
import Derived.Test.YtonafbennobgdaaGreatDoorK31
namespace Go.Proofs.YtonafbennobgdaaGreatDoor
set_option linter.unusedVariables false
set_option linter.unusedSimpArgs false
open Go.RowKit
set_option maxRecDepth 100000
set_option maxHeartbeats 12800000
def YesB (w : World) (e : Ending) (w' : World) : Prop := e = .returned (.bool true) ∧ Below w.heap.size w w'
theorem samePr_any (B : Nat) (l : List (ByteArray × ByteArray)) (v1 v2 : Value) (w : World) (hB : B ≤ w.heap.size) (h1 : PrM (fun k => k < B) l v1 w) (h2 : PrM (fun k => k < B) l v2 w) (hn : l.length ≤ 100000) :
 Calls Tryz.prog 37 #[v1, v2] w (YesB w) := by
 obtain ⟨a1, c1, rfl, _, h1⟩ := h1
 obtain ⟨a2, c2, rfl, _, h2⟩ := h2
 have HC : Hid (∀ W j p, Below w.heap.size w W → l[j]? = some p → (∃ b o, a1 = some ⟨b, o, none⟩ ∧ W.cell? ⟨b, o + j * 2, none⟩ = some (.string p.1) ∧ W.cell? ⟨b, o + j * 2 + 1, none⟩ = some (.string p.2)) ∧ (∃ b o, a2 = some ⟨b, o, none⟩ ∧ W.cell? ⟨b, o + j * 2, none⟩ = some (.string p.1) ∧ W.cell? ⟨b, o + j * 2 + 1, none⟩ = some (.string p.2))) := fun W j p hb hj => by
  refine ⟨?_, ?_⟩
  ·rcases h1 with h0 | ⟨b, o, e1, e2, e3⟩
   ·rw [h0] at hj; simp at hj
   exact ⟨b, o, e1, (hb.cell (p := ⟨b, o + j * 2, none⟩) (Nat.lt_of_lt_of_le e2 hB)).trans (e3 j p hj).1, (hb.cell (p := ⟨b, o + j * 2 + 1, none⟩) (Nat.lt_of_lt_of_le e2 hB)).trans (e3 j p hj).2⟩
  rcases h2 with h0 | ⟨b, o, e1, e2, e3⟩
  ·rw [h0] at hj; simp at hj
  exact ⟨b, o, e1, (hb.cell (p := ⟨b, o + j * 2, none⟩) (Nat.lt_of_lt_of_le e2 hB)).trans (e3 j p hj).1, (hb.cell (p := ⟨b, o + j * 2 + 1, none⟩) (Nat.lt_of_lt_of_le e2 hB)).trans (e3 j p hj).2⟩
 have HL : Hid (∀ j, j < l.length → ∃ d, l[j]? = some d) := fun j hj => ⟨_, List.getElem?_eq_getElem hj⟩
 generalize l.length = n at *
 clear h1 h2 hB
 go_enter Tryz.func37, Tryz.ntmps37
 go_wp2_with fail
 go_loopw [5, 13] (fun _ ix wr => ∃ (j : Nat), j ≤ n ∧ ix = .int .i64 j ∧ Hid (Below w.heap.size w wr)) (fun _ ix _ => n - (intOf ix).toNat)
 case atStart => exact ⟨0, Nat.zero_le _, rfl, Below.refl _ _⟩
 obtain ⟨j, hj, rfl, HI⟩ := hrel
 by_cases hlt : j < n
 ·obtain ⟨⟨q1, q2⟩, hp⟩ := HL.out j hlt
  obtain ⟨⟨b, o, rfl, x0, x1⟩, b', o', rfl, y0, y1⟩ := HC.out wr j _ HI.out hp
  have i1 : (0 : Int) ≤ (j : Int) := by omega
  have i2 : (j : Int) < (n : Int) := by omega
  simp only at x0 x1 y0 y1
  clear hp HC HL
  go_wp2_with fail
  go_quiet (fail)
  have HI2 : ∀ m, Below w.heap.size w (wr.drewN m) := fun m => below_drewN HI.out m
  go_wp2_with fail
  go_roundw
  case rel => exact ⟨j + 1, hlt, by go_num, HI2 _⟩
  case measure => simp [intOf]; omega
 obtain rfl : j = n := by omega
 go_wp2_with fail
 go_ret
 exact ⟨rfl, HI.out⟩
theorem SeL.at {ok : Nat → Prop} {w : World} {ks : List Se} {v : Value} (h : SeL ok w ks v) : ∃ a c, v = .slice a ks.length c ∧ ∀ (j : Nat) (k : Int) (nm : ByteArray) (ns as_ : List ByteArray) (p : ByteArray) (ks' : List Se), ks[j]? = Option.some (.mk k nm ns as_ p ks') → ∃ b o nv av kv, a = Option.some ⟨b, o, Option.none⟩ ∧ ok b ∧ w.cell? ⟨b, o + j * 6, Option.none⟩ = Option.some (.int .i64 k) ∧ w.cell? ⟨b, o + j * 6 + 1, Option.none⟩ = Option.some (.string nm) ∧ w.cell? ⟨b, o + j * 6 + 2, Option.none⟩ = Option.some nv ∧ w.cell? ⟨b, o + j * 6 + 3, Option.none⟩ = Option.some av ∧ w.cell? ⟨b, o + j * 6 + 4, Option.none⟩ = Option.some (.string p) ∧ w.cell? ⟨b, o + j * 6 + 5, Option.none⟩ = Option.some kv ∧ SV ok ns nv w ∧ SV ok as_ av w ∧ SeL ok w ks' kv := by
 cases h with
 | none a c => exact ⟨a, c, rfl, fun j k nm ns as_ p ks' hj => by simp at hj⟩
 | some ks b o c nv av kv hb hc hcell hkids =>
  refine ⟨_, c, rfl, fun j k nm ns as_ p ks' hj => ?_⟩
  obtain ⟨g0, g1, g2, g3, g4, g5, g6, g7⟩ := hcell j k nm ns as_ p ks' hj
  exact ⟨b, o, nv j, av j, kv j, rfl, hb, g0, g1, g2, g3, g4, g5, g6, g7, hkids j k nm ns as_ p ks' hj⟩
theorem SV.look {ok : Nat → Prop} {l : List ByteArray} {a : Option Addr} {n c : Nat} {w : World} (h : SV ok l (.slice a n c) w) {i : Nat} {z : ByteArray} (hz : l[i]? = some z) : ∃ b o, a = some ⟨b, o, none⟩ ∧ w.cell? ⟨b, o + i, none⟩ = some (.string z) := by
 obtain ⟨a', c', h1, h2, h3⟩ := h
 simp at h1
 obtain ⟨rfl, _, rfl⟩ := h1
 rcases h3 with h0 | ⟨b, o, e1, e2, e3⟩
 ·rw [h0] at hz; simp at hz
 exact ⟨b, o, e1, e3 i z hz⟩
theorem sameSe_over (B : Nat) (ks : List Se) (v1 v2 : Value) (w : World) (hB : B ≤ w.heap.size) (h1 : SeL (fun k => k < B) w ks v1) (h2 : SeL (fun k => k < B) w ks v2) (hn : ks.length ≤ 100000) (hns : ∀ (j : Nat) (k : Int) (nm : ByteArray) (ns as_ : List ByteArray) (p : ByteArray) (ks' : List Se), ks[j]? = some (Se.mk k nm ns as_ p ks') → ns.length ≤ 100000 ∧ as_.length ≤ 100000)
 (IH0 : ∀ (j : Nat) (k : Int) (nm : ByteArray) (ns as_ : List ByteArray) (p : ByteArray) (ks' : List Se), ks[j]? = some (Se.mk k nm ns as_ p ks') → ∀ u1 u2 W, Below w.heap.size w W → SeL (fun k => k < B) W ks' u1 → SeL (fun k => k < B) W ks' u2 → Calls Tryz.prog 38 #[u1, u2] W (YesB W)) :
 Calls Tryz.prog 38 #[v1, v2] w (YesB w) := by
 have HS1 := hidd (fun W (hb : Below w.heap.size w W) => h1.stay (ok' := fun k => k < B) (w' := W) (fun k hk => hb.block k (Nat.lt_of_lt_of_le hk hB)) (fun _ h => h))
 have HS2 := hidd (fun W (hb : Below w.heap.size w W) => h2.stay (ok' := fun k => k < B) (w' := W) (fun k hk => hb.block k (Nat.lt_of_lt_of_le hk hB)) (fun _ h => h))
 obtain ⟨a1, cc1, rfl, _⟩ := h1.at
 obtain ⟨a2, cc2, rfl, _⟩ := h2.at
 have IH := hidd IH0
 have HL : Hid (∀ j, j < ks.length → ∃ d, ks[j]? = some d) := fun j hj => ⟨_, List.getElem?_eq_getElem hj⟩
 have HNS := hidd hns
 have HBB := hidd hB
 generalize ks.length = n at *
 clear h1 h2 hns IH0 hB
 go_enter Tryz.func38, Tryz.ntmps38
 go_wp2_with fail
 go_loopw [5, 6, 7, 8, 16] (fun _ _ _ _ ix wr => ∃ (j : Nat), j ≤ n ∧ ix = .int .i64 j ∧ Hid (Below w.heap.size w wr)) (fun _ _ _ _ ix _ => n - (intOf ix).toNat)
 case atStart => exact ⟨0, Nat.zero_le _, rfl, Below.refl _ _⟩
 obtain ⟨j, hj, rfl, HI⟩ := hrel
 by_cases hlt : j < n
 rotate_left
 ·obtain rfl : j = n := by omega
  go_wp2_with fail
  go_ret
  exact ⟨rfl, HI.out⟩
 obtain ⟨⟨k, nm, ns, as_, p, ks'⟩, hp⟩ := HL.out j hlt
 obtain ⟨ax, cx, ex, q1⟩ := (HS1.out wr HI.out).at
 obtain ⟨ay, cy, ey, q2⟩ := (HS2.out wr HI.out).at
 obtain ⟨rfl, hnk1, rfl⟩ : a1 = ax ∧ n = ks.length ∧ cc1 = cx := by simpa using ex
 obtain ⟨rfl, hnk2, rfl⟩ : a2 = ay ∧ n = ks.length ∧ cc2 = cy := by simpa using ey
 obtain ⟨b1, o1, nv1, av1, kv1, rfl, hb1, x0, x1, x2, x3, x4, x5, sn1, sa1, sk1⟩ := q1 j k nm ns as_ p ks' hp
 obtain ⟨b2, o2, nv2, av2, kv2, rfl, hb2, y0, y1, y2, y3, y4, y5, sn2, sa2, sk2⟩ := q2 j k nm ns as_ p ks' hp
 have SN := hidd (And.intro (And.intro sn1 sa1) (And.intro sn2 sa2))
 obtain ⟨na1, nc1, rfl, _⟩ := id sn1
 obtain ⟨aa1, ac1, rfl, _⟩ := id sa1
 obtain ⟨na2, nc2, rfl, _⟩ := id sn2
 obtain ⟨aa2, ac2, rfl, _⟩ := id sa2
 have SK := hidd (And.intro sk1 sk2)
 obtain ⟨ka1, kn1, kc1, rfl⟩ := SeL.slice sk1
 obtain ⟨ka2, kn2, kc2, rfl⟩ := SeL.slice sk2
 clear hnk1 hnk2 ex ey
 have i1 : (0 : Int) ≤ (j : Int) := by omega
 have i2 : (j : Int) < (n : Int) := by omega
 have KQ : Hid (∀ u, Below wr.heap.size wr u → u.cell? ⟨b1, o1 + j * 6, none⟩ = some (.int .i64 k) ∧ u.cell? ⟨b1, o1 + j * 6 + 1, none⟩ = some (.string nm) ∧ u.cell? ⟨b1, o1 + j * 6 + 2, none⟩ = some (.slice na1 ns.length nc1) ∧ u.cell? ⟨b1, o1 + j * 6 + 3, none⟩ = some (.slice aa1 as_.length ac1) ∧ u.cell? ⟨b1, o1 + j * 6 + 4, none⟩ = some (.string p) ∧ u.cell? ⟨b1, o1 + j * 6 + 5, none⟩ = some (.slice ka1 kn1 kc1) ∧ u.cell? ⟨b2, o2 + j * 6, none⟩ = some (.int .i64 k) ∧ u.cell? ⟨b2, o2 + j * 6 + 1, none⟩ = some (.string nm) ∧ u.cell? ⟨b2, o2 + j * 6 + 2, none⟩ = some (.slice na2 ns.length nc2) ∧ u.cell? ⟨b2, o2 + j * 6 + 3, none⟩ = some (.slice aa2 as_.length ac2) ∧ u.cell? ⟨b2, o2 + j * 6 + 4, none⟩ = some (.string p) ∧ u.cell? ⟨b2, o2 + j * 6 + 5, none⟩ = some (.slice ka2 kn2 kc2)) := fun u hb => by
  have e1 : ∀ q, u.cell? ⟨b1, q, none⟩ = wr.cell? ⟨b1, q, none⟩ := fun q => hb.cell (p := ⟨b1, q, none⟩) (Nat.lt_of_lt_of_le hb1 (Nat.le_trans HBB.out HI.out.size))
  have e2 : ∀ q, u.cell? ⟨b2, q, none⟩ = wr.cell? ⟨b2, q, none⟩ := fun q => hb.cell (p := ⟨b2, q, none⟩) (Nat.lt_of_lt_of_le hb2 (Nat.le_trans HBB.out HI.out.size))
  exact ⟨(e1 _).trans x0, (e1 _).trans x1, (e1 _).trans x2, (e1 _).trans x3, (e1 _).trans x4, (e1 _).trans x5, (e2 _).trans y0, (e2 _).trans y1, (e2 _).trans y2, (e2 _).trans y3, (e2 _).trans y4, (e2 _).trans y5⟩
 have HP := hidd (And.intro hp (HNS.out j k nm ns as_ p ks' hp))
 have HBW : Hid (Below wr.heap.size wr wr) := Below.refl _ _
 clear hp q1 q2 x0 x1 x2 x3 x4 x5 y0 y1 y2 y3 y4 y5 sn1 sa1 sn2 sa2 sk1 sk2 hb1 hb2
 go_upto_region 6 with fail
 go_region_held3 (fun u => u.cell? ⟨b1, o1 + j * 6, none⟩ = some (.int .i64 k) ∧ u.cell? ⟨b1, o1 + j * 6 + 1, none⟩ = some (.string nm) ∧ u.cell? ⟨b1, o1 + j * 6 + 2, none⟩ = some (.slice na1 ns.length nc1) ∧ u.cell? ⟨b1, o1 + j * 6 + 3, none⟩ = some (.slice aa1 as_.length ac1) ∧ u.cell? ⟨b1, o1 + j * 6 + 4, none⟩ = some (.string p) ∧ u.cell? ⟨b1, o1 + j * 6 + 5, none⟩ = some (.slice ka1 kn1 kc1) ∧ u.cell? ⟨b2, o2 + j * 6, none⟩ = some (.int .i64 k) ∧ u.cell? ⟨b2, o2 + j * 6 + 1, none⟩ = some (.string nm) ∧ u.cell? ⟨b2, o2 + j * 6 + 2, none⟩ = some (.slice na2 ns.length nc2) ∧ u.cell? ⟨b2, o2 + j * 6 + 3, none⟩ = some (.slice aa2 as_.length ac2) ∧ u.cell? ⟨b2, o2 + j * 6 + 4, none⟩ = some (.string p) ∧ u.cell? ⟨b2, o2 + j * 6 + 5, none⟩ = some (.slice ka2 kn2 kc2))
  (first | exact KQ.out _ HBW.out.drew | exact KQ.out _ (HBW.out.alloc (Nat.le_refl _) _) | exact KQ.out _ (HBW.out.drew.alloc (Nat.le_refl _) _) | exact KQ.out _ (HBW.out.alloc (Nat.le_refl _) _).drew | exact KQ.out _ ((HBW.out.alloc (Nat.le_refl _) _).alloc (by simp) _) | exact KQ.out _ ((HBW.out.drew.alloc (Nat.le_refl _) _).alloc (by simp) _) | exact KQ.out _ ((HBW.out.alloc (Nat.le_refl _) _).alloc (by simp) _).drew)
  (fail)
 ·have hb4 : Below wr.heap.size wr (((wr.alloc (.cells #[.int .i64 k, .string nm, .slice na1 ns.length nc1, .slice aa1 as_.length ac1, .string p, .slice ka1 kn1 kc1] 73)).alloc (.cells #[.int .i64 k, .string nm, .slice na2 ns.length nc2, .slice aa2 as_.length ac2, .string p, .slice ka2 kn2 kc2] 73)).drew) := (((Below.refl _ _).alloc (Nat.le_refl _) _).alloc (by simp) _).drew
  have hp0 : ((((wr.alloc (.cells #[.int .i64 k, .string nm, .slice na1 ns.length nc1, .slice aa1 as_.length ac1, .string p, .slice ka1 kn1 kc1] 73)).alloc (.cells #[.int .i64 k, .string nm, .slice na2 ns.length nc2, .slice aa2 as_.length ac2, .string p, .slice ka2 kn2 kc2] 73)).drew)).heap[wr.heap.size]? = some (.cells #[.int .i64 k, .string nm, .slice na1 ns.length nc1, .slice aa1 as_.length ac1, .string p, .slice ka1 kn1 kc1] 73 (0, 0)) := by
   show ((wr.alloc (.cells #[.int .i64 k, .string nm, .slice na1 ns.length nc1, .slice aa1 as_.length ac1, .string p, .slice ka1 kn1 kc1] 73)).alloc (.cells #[.int .i64 k, .string nm, .slice na2 ns.length nc2, .slice aa2 as_.length ac2, .string p, .slice ka2 kn2 kc2] 73)).heap[wr.heap.size]? = _
   rw [Below.heap_alloc _ _ _ (by simp)]; exact World.alloc_heap_new wr _
  have hp1 : ((((wr.alloc (.cells #[.int .i64 k, .string nm, .slice na1 ns.length nc1, .slice aa1 as_.length ac1, .string p, .slice ka1 kn1 kc1] 73)).alloc (.cells #[.int .i64 k, .string nm, .slice na2 ns.length nc2, .slice aa2 as_.length ac2, .string p, .slice ka2 kn2 kc2] 73)).drew)).heap[wr.heap.size + 1]? = some (.cells #[.int .i64 k, .string nm, .slice na2 ns.length nc2, .slice aa2 as_.length ac2, .string p, .slice ka2 kn2 kc2] 73 (0, 0)) := by
   show ((wr.alloc (.cells #[.int .i64 k, .string nm, .slice na1 ns.length nc1, .slice aa1 as_.length ac1, .string p, .slice ka1 kn1 kc1] 73)).alloc (.cells #[.int .i64 k, .string nm, .slice na2 ns.length nc2, .slice aa2 as_.length ac2, .string p, .slice ka2 kn2 kc2] 73)).heap[wr.heap.size + 1]? = _
   have := World.alloc_heap_new (wr.alloc (.cells #[.int .i64 k, .string nm, .slice na1 ns.length nc1, .slice aa1 as_.length ac1, .string p, .slice ka1 kn1 kc1] 73)) (.cells #[.int .i64 k, .string nm, .slice na2 ns.length nc2, .slice aa2 as_.length ac2, .string p, .slice ka2 kn2 kc2] 73)
   simpa using this
  generalize (((wr.alloc (.cells #[.int .i64 k, .string nm, .slice na1 ns.length nc1, .slice aa1 as_.length ac1, .string p, .slice ka1 kn1 kc1] 73)).alloc (.cells #[.int .i64 k, .string nm, .slice na2 ns.length nc2, .slice aa2 as_.length ac2, .string p, .slice ka2 kn2 kc2] 73)).drew) = W4 at hb4 hp0 hp1 ⊢
  obtain ⟨s0, hs0⟩ : ∃ s0, s0 = wr.heap.size := ⟨_, rfl⟩
  have HS0 : Hid (w.heap.size ≤ s0 ∧ B ≤ s0) := ⟨by rw [hs0]; exact HI.out.size, by rw [hs0]; exact Nat.le_trans HBB.out HI.out.size⟩
  have hlb := hb4
  rw [← hs0] at hp0 hp1 hb4 ⊢
  clear hs0
  have HX4 : Hid (W4.heap[s0]? = some (.cells #[.int .i64 k, .string nm, .slice na1 ns.length nc1, .slice aa1 as_.length ac1, .string p, .slice ka1 kn1 kc1] 73 (0, 0)) ∧ W4.heap[s0 + 1]? = some (.cells #[.int .i64 k, .string nm, .slice na2 ns.length nc2, .slice aa2 as_.length ac2, .string p, .slice ka2 kn2 kc2] 73 (0, 0)) ∧ Below s0 wr W4) := ⟨hp0, hp1, hb4⟩
  have CK := hidd (IH.out j k nm ns as_ p ks' HP.out.1 _ _ W4 (HI.out.trans (hlb.mono HI.out.size)) (SK.out.1.stay (fun q hq => hlb.block q (Nat.lt_of_lt_of_le hq (Nat.le_trans HBB.out HI.out.size))) (fun _ h => h)) (SK.out.2.stay (fun q hq => hlb.block q (Nat.lt_of_lt_of_le hq (Nat.le_trans HBB.out HI.out.size))) (fun _ h => h)))
  have m0 : W4.cell? ⟨s0, 0, none⟩ = some _ := (cellO HX4.out.1).trans rfl
  have m1 : W4.cell? ⟨s0, 1, none⟩ = some _ := (cellO HX4.out.1).trans rfl
  have m2 : W4.cell? ⟨s0, 2, none⟩ = some _ := (cellO HX4.out.1).trans rfl
  have m3 : W4.cell? ⟨s0, 3, none⟩ = some _ := (cellO HX4.out.1).trans rfl
  have m4 : W4.cell? ⟨s0, 4, none⟩ = some _ := (cellO HX4.out.1).trans rfl
  have m5 : W4.cell? ⟨s0, 5, none⟩ = some _ := (cellO HX4.out.1).trans rfl
  have l0 : W4.cell? ⟨s0 + 1, 0, none⟩ = some _ := (cellO HX4.out.2.1).trans rfl
  have l1 : W4.cell? ⟨s0 + 1, 1, none⟩ = some _ := (cellO HX4.out.2.1).trans rfl
  have l2 : W4.cell? ⟨s0 + 1, 2, none⟩ = some _ := (cellO HX4.out.2.1).trans rfl
  have l3 : W4.cell? ⟨s0 + 1, 3, none⟩ = some _ := (cellO HX4.out.2.1).trans rfl
  have l4 : W4.cell? ⟨s0 + 1, 4, none⟩ = some _ := (cellO HX4.out.2.1).trans rfl
  have l5 : W4.cell? ⟨s0 + 1, 5, none⟩ = some _ := (cellO HX4.out.2.1).trans rfl
  clear hb4 hp0 hp1 hlb
  go_wp2_with fail
  refine CK.out.mono ?_
  rintro e w5 ⟨rfl, hb5⟩
  have HX5 : Hid (w5.heap[s0]? = some (.cells #[.int .i64 k, .string nm, .slice na1 ns.length nc1, .slice aa1 as_.length ac1, .string p, .slice ka1 kn1 kc1] 73 (0, 0)) ∧ w5.heap[s0 + 1]? = some (.cells #[.int .i64 k, .string nm, .slice na2 ns.length nc2, .slice aa2 as_.length ac2, .string p, .slice ka2 kn2 kc2] 73 (0, 0)) ∧ Below s0 wr w5) := ⟨(hb5.block _ (Array.getElem?_eq_some_iff.1 HX4.out.1).1).trans HX4.out.1, (hb5.block _ (Array.getElem?_eq_some_iff.1 HX4.out.2.1).1).trans HX4.out.2.1, HX4.out.2.2.trans (hb5.mono (Nat.le_of_lt (Array.getElem?_eq_some_iff.1 HX4.out.1).1))⟩
  have r2 : w5.cell? ⟨s0, 2, none⟩ = some _ := (cellO HX5.out.1).trans rfl
  clear hb5 CK m0 m1 m2 m3 m4 m5 l0 l1 l2 l3 l4 l5
  go_wp2_with fail
  go_loopw [8, 75] (fun _ ix wr => ∃ (i : Nat), i ≤ ns.length ∧ ix = .int .i64 i ∧ Hid (Below w5.heap.size w5 wr)) (fun _ ix _ => ns.length - (intOf ix).toNat)
  case atStart => exact ⟨0, Nat.zero_le _, rfl, Below.refl _ _⟩
  obtain ⟨i, hi, rfl, HQ⟩ := hrel
  have hnl : ns.length ≤ 100000 := HP.out.2.1
  have hal : as_.length ≤ 100000 := HP.out.2.2
  by_cases hit : i < ns.length
  rotate_left
  ·obtain rfl : i = ns.length := by omega
   have HF : Hid (Below w.heap.size w wr) := HI.out.trans ((HX5.out.2.2.trans (HQ.out.mono (Nat.le_of_lt (Array.getElem?_eq_some_iff.1 HX5.out.1).1))).mono HS0.out.1)
   go_wp2_with fail
   go_roundw
   case rel => exact ⟨j + 1, hlt, by go_num, HF.out⟩
   case measure => simp [intOf]; omega
  have hx5 := (HQ.out.block _ (Array.getElem?_eq_some_iff.1 HX5.out.1).1).trans HX5.out.1
  have hy5 := (HQ.out.block _ (Array.getElem?_eq_some_iff.1 HX5.out.2.1).1).trans HX5.out.2.1
  have r2 : wr.cell? ⟨s0, 2, none⟩ = some _ := (cellO hx5).trans rfl
  have r3 : wr.cell? ⟨s0, 3, none⟩ = some _ := (cellO hx5).trans rfl
  have s2 : wr.cell? ⟨s0 + 1, 2, none⟩ = some _ := (cellO hy5).trans rfl
  have s3 : wr.cell? ⟨s0 + 1, 3, none⟩ = some _ := (cellO hy5).trans rfl
  have hbq : Below B _ wr := (HX5.out.2.2.trans (HQ.out.mono (Nat.le_of_lt (Array.getElem?_eq_some_iff.1 HX5.out.1).1))).mono HS0.out.2
  obtain ⟨z, hz⟩ : ∃ z, ns[i]? = some z := ⟨_, List.getElem?_eq_getElem hit⟩
  obtain ⟨nb1, no1, hn1, t1⟩ := (SN.out.1.1.stay (ok' := fun q => q < B) (w' := wr) (fun q hq => hbq.block q hq) (fun _ h => h)).look hz
  obtain ⟨nb2, no2, hn2, t2⟩ := (SN.out.2.1.stay (ok' := fun q => q < B) (w' := wr) (fun q hq => hbq.block q hq) (fun _ h => h)).look hz
  subst hn1
  subst hn2
  have i3 : (0 : Int) ≤ (i : Int) := by omega
  have i4 : (i : Int) < (ns.length : Int) := by omega
  by_cases hia : i < as_.length
  ·obtain ⟨za, hza⟩ : ∃ z, as_[i]? = some z := ⟨_, List.getElem?_eq_getElem hia⟩
   obtain ⟨ab1, ao1, hn3, t3⟩ := (SN.out.1.2.stay (ok' := fun q => q < B) (w' := wr) (fun q hq => hbq.block q hq) (fun _ h => h)).look hza
   obtain ⟨ab2, ao2, hn4, t4⟩ := (SN.out.2.2.stay (ok' := fun q => q < B) (w' := wr) (fun q hq => hbq.block q hq) (fun _ h => h)).look hza
   subst hn3
   subst hn4
   have i5 : (i : Int) < (as_.length : Int) := by omega
   have g1 : decide ((i : Int) < (as_.length : Int)) = true := by simp; omega
   clear hx5 hy5 hbq hz hza IH HS1 HS2 HNS HL
   go_wp2_with fail
   go_quiet (fail)
   have HQ2 : ∀ m, Below w5.heap.size w5 (wr.drewN m) := fun m => below_drewN HQ.out m
   go_wp2_with fail
   go_roundw
   case rel => exact ⟨i + 1, hit, by go_num, HQ2 _⟩
   case measure => simp [intOf]; omega
  have i5 : ¬ (i : Int) < (as_.length : Int) := by omega
  have g1 : decide ((i : Int) < (as_.length : Int)) = false := by simp; omega
  clear hx5 hy5 hbq hz IH HS1 HS2 HNS HL
  go_wp2_with fail
  go_quiet (fail)
  have HQ2 : ∀ m, Below w5.heap.size w5 (wr.drewN m) := fun m => below_drewN HQ.out m
  go_wp2_with fail
  go_roundw
  case rel => exact ⟨i + 1, hit, by go_num, HQ2 _⟩
  case measure => simp [intOf]; omega
 have hb4 : Below wr.heap.size wr (((wr.alloc (.cells #[.int .i64 k, .string nm, .slice na2 ns.length nc2, .slice aa2 as_.length ac2, .string p, .slice ka2 kn2 kc2] 73)).alloc (.cells #[.int .i64 k, .string nm, .slice na1 ns.length nc1, .slice aa1 as_.length ac1, .string p, .slice ka1 kn1 kc1] 73)).drew) := (((Below.refl _ _).alloc (Nat.le_refl _) _).alloc (by simp) _).drew
 have hp0 : ((((wr.alloc (.cells #[.int .i64 k, .string nm, .slice na2 ns.length nc2, .slice aa2 as_.length ac2, .string p, .slice ka2 kn2 kc2] 73)).alloc (.cells #[.int .i64 k, .string nm, .slice na1 ns.length nc1, .slice aa1 as_.length ac1, .string p, .slice ka1 kn1 kc1] 73)).drew)).heap[wr.heap.size]? = some (.cells #[.int .i64 k, .string nm, .slice na2 ns.length nc2, .slice aa2 as_.length ac2, .string p, .slice ka2 kn2 kc2] 73 (0, 0)) := by
  show ((wr.alloc (.cells #[.int .i64 k, .string nm, .slice na2 ns.length nc2, .slice aa2 as_.length ac2, .string p, .slice ka2 kn2 kc2] 73)).alloc (.cells #[.int .i64 k, .string nm, .slice na1 ns.length nc1, .slice aa1 as_.length ac1, .string p, .slice ka1 kn1 kc1] 73)).heap[wr.heap.size]? = _
  rw [Below.heap_alloc _ _ _ (by simp)]; exact World.alloc_heap_new wr _
 have hp1 : ((((wr.alloc (.cells #[.int .i64 k, .string nm, .slice na2 ns.length nc2, .slice aa2 as_.length ac2, .string p, .slice ka2 kn2 kc2] 73)).alloc (.cells #[.int .i64 k, .string nm, .slice na1 ns.length nc1, .slice aa1 as_.length ac1, .string p, .slice ka1 kn1 kc1] 73)).drew)).heap[wr.heap.size + 1]? = some (.cells #[.int .i64 k, .string nm, .slice na1 ns.length nc1, .slice aa1 as_.length ac1, .string p, .slice ka1 kn1 kc1] 73 (0, 0)) := by
  show ((wr.alloc (.cells #[.int .i64 k, .string nm, .slice na2 ns.length nc2, .slice aa2 as_.length ac2, .string p, .slice ka2 kn2 kc2] 73)).alloc (.cells #[.int .i64 k, .string nm, .slice na1 ns.length nc1, .slice aa1 as_.length ac1, .string p, .slice ka1 kn1 kc1] 73)).heap[wr.heap.size + 1]? = _
  have := World.alloc_heap_new (wr.alloc (.cells #[.int .i64 k, .string nm, .slice na2 ns.length nc2, .slice aa2 as_.length ac2, .string p, .slice ka2 kn2 kc2] 73)) (.cells #[.int .i64 k, .string nm, .slice na1 ns.length nc1, .slice aa1 as_.length ac1, .string p, .slice ka1 kn1 kc1] 73)
  simpa using this
 generalize (((wr.alloc (.cells #[.int .i64 k, .string nm, .slice na2 ns.length nc2, .slice aa2 as_.length ac2, .string p, .slice ka2 kn2 kc2] 73)).alloc (.cells #[.int .i64 k, .string nm, .slice na1 ns.length nc1, .slice aa1 as_.length ac1, .string p, .slice ka1 kn1 kc1] 73)).drew) = W4 at hb4 hp0 hp1 ⊢
 obtain ⟨s0, hs0⟩ : ∃ s0, s0 = wr.heap.size := ⟨_, rfl⟩
 have HS0 : Hid (w.heap.size ≤ s0 ∧ B ≤ s0) := ⟨by rw [hs0]; exact HI.out.size, by rw [hs0]; exact Nat.le_trans HBB.out HI.out.size⟩
 have hlb := hb4
 rw [← hs0] at hp0 hp1 hb4 ⊢
 clear hs0
 have HX4 : Hid (W4.heap[s0 + 1]? = some (.cells #[.int .i64 k, .string nm, .slice na1 ns.length nc1, .slice aa1 as_.length ac1, .string p, .slice ka1 kn1 kc1] 73 (0, 0)) ∧ W4.heap[s0]? = some (.cells #[.int .i64 k, .string nm, .slice na2 ns.length nc2, .slice aa2 as_.length ac2, .string p, .slice ka2 kn2 kc2] 73 (0, 0)) ∧ Below s0 wr W4) := ⟨hp1, hp0, hb4⟩
 have CK := hidd (IH.out j k nm ns as_ p ks' HP.out.1 _ _ W4 (HI.out.trans (hlb.mono HI.out.size)) (SK.out.1.stay (fun q hq => hlb.block q (Nat.lt_of_lt_of_le hq (Nat.le_trans HBB.out HI.out.size))) (fun _ h => h)) (SK.out.2.stay (fun q hq => hlb.block q (Nat.lt_of_lt_of_le hq (Nat.le_trans HBB.out HI.out.size))) (fun _ h => h)))
 have m0 : W4.cell? ⟨s0 + 1, 0, none⟩ = some _ := (cellO HX4.out.1).trans rfl
 have m1 : W4.cell? ⟨s0 + 1, 1, none⟩ = some _ := (cellO HX4.out.1).trans rfl
 have m2 : W4.cell? ⟨s0 + 1, 2, none⟩ = some _ := (cellO HX4.out.1).trans rfl
 have m3 : W4.cell? ⟨s0 + 1, 3, none⟩ = some _ := (cellO HX4.out.1).trans rfl
 have m4 : W4.cell? ⟨s0 + 1, 4, none⟩ = some _ := (cellO HX4.out.1).trans rfl
 have m5 : W4.cell? ⟨s0 + 1, 5, none⟩ = some _ := (cellO HX4.out.1).trans rfl
 have l0 : W4.cell? ⟨s0, 0, none⟩ = some _ := (cellO HX4.out.2.1).trans rfl
 have l1 : W4.cell? ⟨s0, 1, none⟩ = some _ := (cellO HX4.out.2.1).trans rfl
 have l2 : W4.cell? ⟨s0, 2, none⟩ = some _ := (cellO HX4.out.2.1).trans rfl
 have l3 : W4.cell? ⟨s0, 3, none⟩ = some _ := (cellO HX4.out.2.1).trans rfl
 have l4 : W4.cell? ⟨s0, 4, none⟩ = some _ := (cellO HX4.out.2.1).trans rfl
 have l5 : W4.cell? ⟨s0, 5, none⟩ = some _ := (cellO HX4.out.2.1).trans rfl
 clear hb4 hp0 hp1 hlb
 go_wp2_with fail
 refine CK.out.mono ?_
 rintro e w5 ⟨rfl, hb5⟩
 have HX5 : Hid (w5.heap[s0 + 1]? = some (.cells #[.int .i64 k, .string nm, .slice na1 ns.length nc1, .slice aa1 as_.length ac1, .string p, .slice ka1 kn1 kc1] 73 (0, 0)) ∧ w5.heap[s0]? = some (.cells #[.int .i64 k, .string nm, .slice na2 ns.length nc2, .slice aa2 as_.length ac2, .string p, .slice ka2 kn2 kc2] 73 (0, 0)) ∧ Below s0 wr w5) := ⟨(hb5.block _ (Array.getElem?_eq_some_iff.1 HX4.out.1).1).trans HX4.out.1, (hb5.block _ (Array.getElem?_eq_some_iff.1 HX4.out.2.1).1).trans HX4.out.2.1, HX4.out.2.2.trans (hb5.mono (Nat.le_of_lt (Array.getElem?_eq_some_iff.1 HX4.out.2.1).1))⟩
 have r2 : w5.cell? ⟨s0 + 1, 2, none⟩ = some _ := (cellO HX5.out.1).trans rfl
 clear hb5 CK m0 m1 m2 m3 m4 m5 l0 l1 l2 l3 l4 l5
 go_wp2_with fail
 go_loopw [8, 75] (fun _ ix wr => ∃ (i : Nat), i ≤ ns.length ∧ ix = .int .i64 i ∧ Hid (Below w5.heap.size w5 wr)) (fun _ ix _ => ns.length - (intOf ix).toNat)
 case atStart => exact ⟨0, Nat.zero_le _, rfl, Below.refl _ _⟩
 obtain ⟨i, hi, rfl, HQ⟩ := hrel
 have hnl : ns.length ≤ 100000 := HP.out.2.1
 have hal : as_.length ≤ 100000 := HP.out.2.2
 by_cases hit : i < ns.length
 rotate_left
 ·obtain rfl : i = ns.length := by omega
  have HF : Hid (Below w.heap.size w wr) := HI.out.trans ((HX5.out.2.2.trans (HQ.out.mono (Nat.le_of_lt (Array.getElem?_eq_some_iff.1 HX5.out.2.1).1))).mono HS0.out.1)
  go_wp2_with fail
  go_roundw
  case rel => exact ⟨j + 1, hlt, by go_num, HF.out⟩
  case measure => simp [intOf]; omega
 have hx5 := (HQ.out.block _ (Array.getElem?_eq_some_iff.1 HX5.out.1).1).trans HX5.out.1
 have hy5 := (HQ.out.block _ (Array.getElem?_eq_some_iff.1 HX5.out.2.1).1).trans HX5.out.2.1
 have r2 : wr.cell? ⟨s0 + 1, 2, none⟩ = some _ := (cellO hx5).trans rfl
 have r3 : wr.cell? ⟨s0 + 1, 3, none⟩ = some _ := (cellO hx5).trans rfl
 have s2 : wr.cell? ⟨s0, 2, none⟩ = some _ := (cellO hy5).trans rfl
 have s3 : wr.cell? ⟨s0, 3, none⟩ = some _ := (cellO hy5).trans rfl
 have hbq : Below B _ wr := (HX5.out.2.2.trans (HQ.out.mono (Nat.le_of_lt (Array.getElem?_eq_some_iff.1 HX5.out.2.1).1))).mono HS0.out.2
 obtain ⟨z, hz⟩ : ∃ z, ns[i]? = some z := ⟨_, List.getElem?_eq_getElem hit⟩
 obtain ⟨nb1, no1, hn1, t1⟩ := (SN.out.1.1.stay (ok' := fun q => q < B) (w' := wr) (fun q hq => hbq.block q hq) (fun _ h => h)).look hz
 obtain ⟨nb2, no2, hn2, t2⟩ := (SN.out.2.1.stay (ok' := fun q => q < B) (w' := wr) (fun q hq => hbq.block q hq) (fun _ h => h)).look hz
 subst hn1
 subst hn2
 have i3 : (0 : Int) ≤ (i : Int) := by omega
 have i4 : (i : Int) < (ns.length : Int) := by omega
 by_cases hia : i < as_.length
 ·obtain ⟨za, hza⟩ : ∃ z, as_[i]? = some z := ⟨_, List.getElem?_eq_getElem hia⟩
  obtain ⟨ab1, ao1, hn3, t3⟩ := (SN.out.1.2.stay (ok' := fun q => q < B) (w' := wr) (fun q hq => hbq.block q hq) (fun _ h => h)).look hza
  obtain ⟨ab2, ao2, hn4, t4⟩ := (SN.out.2.2.stay (ok' := fun q => q < B) (w' := wr) (fun q hq => hbq.block q hq) (fun _ h => h)).look hza
  subst hn3
  subst hn4
  have i5 : (i : Int) < (as_.length : Int) := by omega
  have g1 : decide ((i : Int) < (as_.length : Int)) = true := by simp; omega
  clear hx5 hy5 hbq hz hza IH HS1 HS2 HNS HL
  go_wp2_with fail
  go_quiet (fail)
  have HQ2 : ∀ m, Below w5.heap.size w5 (wr.drewN m) := fun m => below_drewN HQ.out m
  go_wp2_with fail
  go_roundw
  case rel => exact ⟨i + 1, hit, by go_num, HQ2 _⟩
  case measure => simp [intOf]; omega
 have i5 : ¬ (i : Int) < (as_.length : Int) := by omega
 have g1 : decide ((i : Int) < (as_.length : Int)) = false := by simp; omega
 clear hx5 hy5 hbq hz IH HS1 HS2 HNS HL
 go_wp2_with fail
 go_quiet (fail)
 have HQ2 : ∀ m, Below w5.heap.size w5 (wr.drewN m) := fun m => below_drewN HQ.out m
 go_wp2_with fail
 go_roundw
 case rel => exact ⟨i + 1, hit, by go_num, HQ2 _⟩
 case measure => simp [intOf]; omega
mutual
def seOk : Se → Prop
 | .mk _ _ ns as_ _ ks => ns.length ≤ 100000 ∧ as_.length ≤ 100000 ∧ ks.length ≤ 100000 ∧ seOkL ks
def seOkL : List Se → Prop
 | [] => True
 | s :: r => seOk s ∧ seOkL r
end
theorem seOkL_mem : ∀ {l : List Se}, seOkL l → ∀ s ∈ l, seOk s
 | [], _, s, hs => by simp at hs
 | x :: r, h, s, hs => by
  rw [seOkL] at h
  rcases List.mem_cons.1 hs with rfl | hs
  ·exact h.1
  exact seOkL_mem h.2 s hs
theorem sameSe_any (B : Nat) : ∀ (N : Nat) (ks : List Se), SizeOf.sizeOf ks < N → seOkL ks → ks.length ≤ 100000 → ∀ (v1 v2 : Value) (w : World), B ≤ w.heap.size → SeL (fun k => k < B) w ks v1 → SeL (fun k => k < B) w ks v2 → Calls Tryz.prog 38 #[v1, v2] w (YesB w)
 | 0, ks, hN, _, _ => absurd hN (by omega)
 | N + 1, ks, hN, ho, hl => fun v1 v2 w hB h1 h2 => by
  refine sameSe_over B ks v1 v2 w hB h1 h2 hl (fun j k nm ns as_ p ks' hj => ?_) (fun j k nm ns as_ p ks' hj u1 u2 W hb s1 s2 => ?_)
  ·have := seOkL_mem ho _ (List.mem_of_getElem? hj)
   rw [seOk] at this
   exact ⟨this.1, this.2.1⟩
  have hs := seOkL_mem ho _ (List.mem_of_getElem? hj)
  rw [seOk] at hs
  have hsz : SizeOf.sizeOf ks' < SizeOf.sizeOf ks := by
   have h1 := List.sizeOf_lt_of_mem (List.mem_of_getElem? hj)
   simp at h1
   omega
  exact sameSe_any B N ks' (by omega) hs.2.2.2 hs.2.2.1 u1 u2 W (Nat.le_trans hB hb.size) s1 s2
theorem same_over (B : Nat) (s : LibS) (bs : List Dat) (e1 i1 b1 e2 i2 b2 : Value) (w : World) (hB : B ≤ w.heap.size) (h1 : LibM (fun k => k < B) s e1 i1 b1 w) (h2 : LibM (fun k => k < B) { s with body := bs } e2 i2 b2 w) (hx : s.exports.length ≤ 200) (hi : s.imports.length ≤ 20) (hio : seOkL s.imports)
 (P39 : Hid (∀ W, Below w.heap.size w W → Calls Tryz.prog 39 #[b1, b2] W (YesB W))) :
 Calls Tryz.prog 11 #[.agg #[.string s.name, e1, i1, b1], .agg #[.string s.name, e2, i2, b2]] w (YesB w) := by
 have P37 : Hid (∀ W, Below w.heap.size w W → Calls Tryz.prog 37 #[e1, e2] W (YesB W)) := fun W hb => samePr_any B s.exports e1 e2 W (Nat.le_trans hB hb.size) (h1.ex.stay (fun k hk => hb.block k (Nat.lt_of_lt_of_le hk hB)) (fun _ h => h)) (h2.ex.stay (fun k hk => hb.block k (Nat.lt_of_lt_of_le hk hB)) (fun _ h => h)) (by omega)
 have P38 : Hid (∀ W, Below w.heap.size w W → Calls Tryz.prog 38 #[i1, i2] W (YesB W)) := fun W hb => sameSe_any B (SizeOf.sizeOf s.imports + 1) s.imports (by omega) hio (by omega) i1 i2 W (Nat.le_trans hB hb.size) (h1.im.stay (fun k hk => hb.block k (Nat.lt_of_lt_of_le hk hB)) (fun _ h => h)) (h2.im.stay (fun k hk => hb.block k (Nat.lt_of_lt_of_le hk hB)) (fun _ h => h))
 obtain ⟨ea, ec, rfl, _, _⟩ := id h1.ex
 obtain ⟨ea2, ec2, rfl, _, _⟩ := id h2.ex
 obtain ⟨ia, in1, ic, rfl⟩ := SeL.slice h1.im
 obtain ⟨ia2, in2, ic2, rfl⟩ := SeL.slice h2.im
 obtain ⟨ba, bc, bf, rfl, _, _⟩ := id h1.bo
 obtain ⟨ba2, bc2, bf2, rfl, _, _⟩ := id h2.bo
 obtain ⟨nx, hnx⟩ : ∃ nx, nx = s.exports.length := ⟨_, rfl⟩
 obtain ⟨nb, hnb⟩ : ∃ nb, nb = s.body.length := ⟨_, rfl⟩
 obtain ⟨nc, hnc⟩ : ∃ nc, nc = bs.length := ⟨_, rfl⟩
 simp only at P37 P38 P39 ⊢
 rw [← hnx] at P37 ⊢
 rw [← hnb, ← hnc] at P39 ⊢
 clear h1 h2 hx hi hio hnx hnb hnc hB
 obtain ⟨W2, hW2⟩ : ∃ W2, W2 = ((w.alloc (.cells #[.string s.name, .slice ea nx ec, .slice ia in1 ic, .slice ba nb bc] 30)).alloc (.cells #[.string s.name, .slice ea2 nx ec2, .slice ia2 in2 ic2, .slice ba2 nc bc2] 30)) := ⟨_, rfl⟩
 have g1 : Below w.heap.size w W2 := by rw [hW2]; exact ((Below.refl _ _).alloc (Nat.le_refl _) _).alloc (by simp) _
 have b0 : W2.heap[w.heap.size]? = some (.cells #[.string s.name, .slice ea nx ec, .slice ia in1 ic, .slice ba nb bc] 30 (0, 0)) := by
  rw [hW2, Below.heap_alloc _ _ _ (by simp)]; exact World.alloc_heap_new w _
 have b1 : W2.heap[w.heap.size + 1]? = some (.cells #[.string s.name, .slice ea2 nx ec2, .slice ia2 in2 ic2, .slice ba2 nc bc2] 30 (0, 0)) := by
  rw [hW2]
  have := World.alloc_heap_new (w.alloc (.cells #[.string s.name, .slice ea nx ec, .slice ia in1 ic, .slice ba nb bc] 30)) (.cells #[.string s.name, .slice ea2 nx ec2, .slice ia2 in2 ic2, .slice ba2 nc bc2] 30)
  simpa using this
 have HB2 := hidd g1
 have HQ : Hid (∀ W, Below W2.heap.size W2 W → W.heap[w.heap.size]? = some (.cells #[.string s.name, .slice ea nx ec, .slice ia in1 ic, .slice ba nb bc] 30 (0, 0)) ∧ W.heap[w.heap.size + 1]? = some (.cells #[.string s.name, .slice ea2 nx ec2, .slice ia2 in2 ic2, .slice ba2 nc bc2] 30 (0, 0))) := fun W hb => ⟨(hb.block _ (Array.getElem?_eq_some_iff.1 b0).1).trans b0, (hb.block _ (Array.getElem?_eq_some_iff.1 b1).1).trans b1⟩
 have x0 : W2.cell? ⟨w.heap.size, 0, none⟩ = some _ := (cellO b0).trans rfl
 have x1 : W2.cell? ⟨w.heap.size, 1, none⟩ = some _ := (cellO b0).trans rfl
 have y0 : W2.cell? ⟨w.heap.size + 1, 0, none⟩ = some _ := (cellO b1).trans rfl
 have y1 : W2.cell? ⟨w.heap.size + 1, 1, none⟩ = some _ := (cellO b1).trans rfl
 have HW := hidd hW2.symm
 clear g1 b0 b1 hW2
 go_enter Tryz.func11, Tryz.ntmps11
 go_upto_region 1 with fail
 rw [HW.out]
 clear HW
 go_wp2_with fail
 refine (P37.out W2 HB2.out).mono ?_
 rintro e w3 ⟨rfl, hb3⟩
 obtain ⟨b0, b1⟩ := HQ.out w3 hb3
 have HB3 : Hid (Below w.heap.size w w3 ∧ Below W2.heap.size W2 w3) := ⟨HB2.out.trans (hb3.mono HB2.out.size), hb3⟩
 have x2 : w3.cell? ⟨w.heap.size, 2, none⟩ = some _ := (cellO b0).trans rfl
 have y2 : w3.cell? ⟨w.heap.size + 1, 2, none⟩ = some _ := (cellO b1).trans rfl
 clear hb3 b0 b1 x0 x1 y0 y1
 go_wp2_with fail
 refine (P38.out w3 HB3.out.1).mono ?_
 rintro e w4 ⟨rfl, hb4⟩
 obtain ⟨b0, b1⟩ := HQ.out w4 (HB3.out.2.trans (hb4.mono HB3.out.2.size))
 have HB4 : Hid (Below w.heap.size w w4) := HB3.out.1.trans (hb4.mono HB3.out.1.size)
 have x3 : w4.cell? ⟨w.heap.size, 3, none⟩ = some _ := (cellO b0).trans rfl
 have y3 : w4.cell? ⟨w.heap.size + 1, 3, none⟩ = some _ := (cellO b1).trans rfl
 clear hb4 b0 b1 x2 y2
 go_wp2_with fail
 refine (P39.out w4 HB4.out).mono ?_
 rintro e w5 ⟨rfl, hb5⟩
 have HB5 : Hid (Below w.heap.size w w5) := HB4.out.trans (hb5.mono HB4.out.size)
 clear hb5
 go_wp2_with fail
 go_ret
 exact ⟨rfl, HB5.out⟩
end Go.Proofs.YtonafbennobgdaaGreatDoor
