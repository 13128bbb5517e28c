/- Chapter 3, the document's side: whether sets are the same: some answer, whatever they are. -/
import Derived.Test.YtonafbennobgdaaGreatDoorK46
namespace Go.Proofs.YtonafbennobgdaaGreatDoor
set_option linter.unusedVariables false
set_option linter.unusedSimpArgs false
open Go.RowKit

set_option maxRecDepth 100000 in
set_option maxHeartbeats 25600000 in
theorem maySe_over (B : Nat) (xs ys : List Se) (v1 v2 : Value) (w : World) (hB : B ≤ w.heap.size) (h1 : SeL (fun k => k < B) w xs v1) (h2 : SeL (fun k => k < B) w ys v2) (hn : xs.length ≤ 100000) (hn' : ys.length ≤ 100000) (hns : ∀ (j : Nat) (k : Int) (nm : ByteArray) (ns as_ : List ByteArray) (p : ByteArray) (ks' : List Se), xs[j]? = some (Se.mk k nm ns as_ p ks') → ns.length ≤ 100000 ∧ as_.length ≤ 100000) (hns2 : ∀ (j : Nat) (k : Int) (nm : ByteArray) (ns as_ : List ByteArray) (p : ByteArray) (ks' : List Se), ys[j]? = some (Se.mk k nm ns as_ p ks') → ns.length ≤ 100000 ∧ as_.length ≤ 100000)
    (IH0 : ∀ (j : Nat) (k : Int) (nm : ByteArray) (ns as_ : List ByteArray) (p : ByteArray) (ks' : List Se) (k2 : Int) (nm2 : ByteArray) (ns2 as2 : List ByteArray) (p2 : ByteArray) (ks2 : List Se), xs[j]? = some (Se.mk k nm ns as_ p ks') → ys[j]? = some (Se.mk k2 nm2 ns2 as2 p2 ks2) → ∀ u1 u2 W, Below w.heap.size w W → SeL (fun k => k < B) W ks' u1 → SeL (fun k => k < B) W ks2 u2 → Calls Tryz.prog 38 #[u1, u2] W (MayB W)) :
    Calls Tryz.prog 38 #[v1, v2] w (MayB w) := by
  have HS1 := hidd (fun W (hb : Below w.heap.size w W) => h1.stay (ok' := fun k => k < B) (w' := W) (fun k hk => hb.block k (Nat.lt_of_lt_of_le hk hB)) (fun _ h => h))
  have HS2 := hidd (fun W (hb : Below w.heap.size w W) => h2.stay (ok' := fun k => k < B) (w' := W) (fun k hk => hb.block k (Nat.lt_of_lt_of_le hk hB)) (fun _ h => h))
  obtain ⟨a1, cc1, rfl, _⟩ := h1.at
  obtain ⟨a2, cc2, rfl, _⟩ := h2.at
  have IH := hidd IH0
  have HL : Hid (∀ j, j < xs.length → ∃ d, xs[j]? = some d) := fun j hj => ⟨_, List.getElem?_eq_getElem hj⟩
  have HL2 : Hid (∀ j, j < ys.length → ∃ d, ys[j]? = some d) := fun j hj => ⟨_, List.getElem?_eq_getElem hj⟩
  have HNS := hidd (And.intro hns hns2)
  have HBB := hidd hB
  obtain ⟨n, hnn⟩ : ∃ n, n = xs.length := ⟨_, rfl⟩
  obtain ⟨n', hnn'⟩ : ∃ n, n = ys.length := ⟨_, rfl⟩
  rw [← hnn] at HL hn ⊢
  rw [← hnn'] at HL2 hn' ⊢
  have HN1 := hidd hnn
  have HN2 := hidd hnn'
  clear h1 h2 hns hns2 IH0 hB hnn hnn'
  by_cases hne : ¬ n = n'
  · have g1 : decide ((n : Int) = (n' : Int)) = false := by simp; omega
    have g2 : ((n : Int) == (n' : Int)) = false := by simp; omega
    have g3 : ((n : Int) != (n' : Int)) = true := by simp; omega
    have g4 : ¬ (n : Int) = (n' : Int) := by omega
    go_enter Tryz.func38, Tryz.ntmps38
    go_wp2_with fail
    go_ret
    exact ⟨⟨_, rfl⟩, Below.refl _ _⟩
  obtain rfl : n = n' := Classical.not_not.1 hne
  clear hne
  go_enter Tryz.func38, Tryz.ntmps38
  go_wp2_with fail
  go_loopw [5, 6, 7, 8, 16] (fun _ _ _ _ ix wr => ∃ (j : Nat), j ≤ n ∧ ix = .int .i64 j ∧ Hid (Below w.heap.size w wr)) (fun _ _ _ _ ix _ => n - (intOf ix).toNat)
  case atStart => exact ⟨0, Nat.zero_le _, rfl, Below.refl _ _⟩
  case round =>
    obtain ⟨j, hj, rfl, HI⟩ := hrel
    by_cases hlt : j < n
    · obtain ⟨⟨k, nm, ns, as_, p, ks'⟩, hp⟩ := HL.out j hlt
      obtain ⟨⟨k2, nm2, ns2, as2, p2, ks2⟩, hp2⟩ := HL2.out j hlt
      obtain ⟨ax, cx, ex, q1⟩ := (HS1.out wr HI.out).at
      obtain ⟨ay, cy, ey, q2⟩ := (HS2.out wr HI.out).at
      obtain ⟨rfl, rfl⟩ : a1 = ax ∧ cc1 = cx := by simpa using ex
      obtain ⟨rfl, rfl⟩ : a2 = ay ∧ cc2 = cy := by simpa using ey
      obtain ⟨b1, o1, nv1, av1, kv1, rfl, hb1, x0, x1, x2, x3, x4, x5, sn1, sa1, sk1⟩ := q1 j k nm ns as_ p ks' hp
      obtain ⟨b2, o2, nv2, av2, kv2, rfl, hb2, y0, y1, y2, y3, y4, y5, sn2, sa2, sk2⟩ := q2 j k2 nm2 ns2 as2 p2 ks2 hp2
      have SN := hidd (And.intro (And.intro sn1 sa1) (And.intro sn2 sa2))
      obtain ⟨na1, nc1, rfl, _⟩ := id sn1
      obtain ⟨aa1, ac1, rfl, _⟩ := id sa1
      obtain ⟨na2, nc2, rfl, _⟩ := id sn2
      obtain ⟨aa2, ac2, rfl, _⟩ := id sa2
      have SK := hidd (And.intro sk1 sk2)
      obtain ⟨ka1, kn1, kc1, rfl⟩ := SeL.slice sk1
      obtain ⟨ka2, kn2, kc2, rfl⟩ := SeL.slice sk2
      have HLN := HNS.out.1 j k nm ns as_ p ks' hp
      have HLN2 := HNS.out.2 j k2 nm2 ns2 as2 p2 ks2 hp2
      obtain ⟨n1, hn1⟩ : ∃ n, n = ns.length := ⟨_, rfl⟩
      obtain ⟨n2, hn2⟩ : ∃ n, n = ns2.length := ⟨_, rfl⟩
      obtain ⟨m1, hm1⟩ : ∃ n, n = as_.length := ⟨_, rfl⟩
      obtain ⟨m2, hm2⟩ : ∃ n, n = as2.length := ⟨_, rfl⟩
      rw [← hn1] at SN HLN x2
      rw [← hm1] at SN HLN x3
      rw [← hn2] at SN HLN2 y2
      rw [← hm2] at SN HLN2 y3
      have HLE : Hid ((∀ i, i < n1 → ∃ d, ns[i]? = some d) ∧ (∀ i, i < n2 → ∃ d, ns2[i]? = some d) ∧ (∀ i, i < m1 → ∃ d, as_[i]? = some d) ∧ (∀ i, i < m2 → ∃ d, as2[i]? = some d)) := ⟨fun i hi => ⟨_, List.getElem?_eq_getElem (hn1 ▸ hi)⟩, fun i hi => ⟨_, List.getElem?_eq_getElem (hn2 ▸ hi)⟩, fun i hi => ⟨_, List.getElem?_eq_getElem (hm1 ▸ hi)⟩, fun i hi => ⟨_, List.getElem?_eq_getElem (hm2 ▸ hi)⟩⟩
      clear ex ey hn1 hn2 hm1 hm2
      have i1 : (0 : Int) ≤ (j : Int) := by omega
      have i2 : (j : Int) < (n : Int) := by omega
      have KQ : Hid (∀ u, Below wr.heap.size wr u → u.cell? ⟨b1, o1 + j * 6, none⟩ = some (.int .i64 k) ∧ u.cell? ⟨b1, o1 + j * 6 + 1, none⟩ = some (.string nm) ∧ u.cell? ⟨b1, o1 + j * 6 + 2, none⟩ = some (.slice na1 n1 nc1) ∧ u.cell? ⟨b1, o1 + j * 6 + 3, none⟩ = some (.slice aa1 m1 ac1) ∧ u.cell? ⟨b1, o1 + j * 6 + 4, none⟩ = some (.string p) ∧ u.cell? ⟨b1, o1 + j * 6 + 5, none⟩ = some (.slice ka1 kn1 kc1) ∧ u.cell? ⟨b2, o2 + j * 6, none⟩ = some (.int .i64 k2) ∧ u.cell? ⟨b2, o2 + j * 6 + 1, none⟩ = some (.string nm2) ∧ u.cell? ⟨b2, o2 + j * 6 + 2, none⟩ = some (.slice na2 n2 nc2) ∧ u.cell? ⟨b2, o2 + j * 6 + 3, none⟩ = some (.slice aa2 m2 ac2) ∧ u.cell? ⟨b2, o2 + j * 6 + 4, none⟩ = some (.string p2) ∧ u.cell? ⟨b2, o2 + j * 6 + 5, none⟩ = some (.slice ka2 kn2 kc2)) := fun u hb => by
        have e1 : ∀ q, u.cell? ⟨b1, q, none⟩ = wr.cell? ⟨b1, q, none⟩ := fun q => hb.cell (p := ⟨b1, q, none⟩) (Nat.lt_of_lt_of_le hb1 (Nat.le_trans HBB.out HI.out.size))
        have e2 : ∀ q, u.cell? ⟨b2, q, none⟩ = wr.cell? ⟨b2, q, none⟩ := fun q => hb.cell (p := ⟨b2, q, none⟩) (Nat.lt_of_lt_of_le hb2 (Nat.le_trans HBB.out HI.out.size))
        exact ⟨(e1 _).trans x0, (e1 _).trans x1, (e1 _).trans x2, (e1 _).trans x3, (e1 _).trans x4, (e1 _).trans x5, (e2 _).trans y0, (e2 _).trans y1, (e2 _).trans y2, (e2 _).trans y3, (e2 _).trans y4, (e2 _).trans y5⟩
      have HP := hidd (And.intro (And.intro hp hp2) (And.intro HLN HLN2))
      have HBW : Hid (Below wr.heap.size wr wr) := Below.refl _ _
      clear hp hp2 HLN HLN2 q1 q2 x0 x1 x2 x3 x4 x5 y0 y1 y2 y3 y4 y5 sn1 sa1 sn2 sa2 sk1 sk2 hb1 hb2
      go_upto_region 6 with fail
      go_region_held3 (fun u => u.cell? ⟨b1, o1 + j * 6, none⟩ = some (.int .i64 k) ∧ u.cell? ⟨b1, o1 + j * 6 + 1, none⟩ = some (.string nm) ∧ u.cell? ⟨b1, o1 + j * 6 + 2, none⟩ = some (.slice na1 n1 nc1) ∧ u.cell? ⟨b1, o1 + j * 6 + 3, none⟩ = some (.slice aa1 m1 ac1) ∧ u.cell? ⟨b1, o1 + j * 6 + 4, none⟩ = some (.string p) ∧ u.cell? ⟨b1, o1 + j * 6 + 5, none⟩ = some (.slice ka1 kn1 kc1) ∧ u.cell? ⟨b2, o2 + j * 6, none⟩ = some (.int .i64 k2) ∧ u.cell? ⟨b2, o2 + j * 6 + 1, none⟩ = some (.string nm2) ∧ u.cell? ⟨b2, o2 + j * 6 + 2, none⟩ = some (.slice na2 n2 nc2) ∧ u.cell? ⟨b2, o2 + j * 6 + 3, none⟩ = some (.slice aa2 m2 ac2) ∧ u.cell? ⟨b2, o2 + j * 6 + 4, none⟩ = some (.string p2) ∧ u.cell? ⟨b2, o2 + j * 6 + 5, none⟩ = some (.slice ka2 kn2 kc2))
        (first | exact KQ.out _ HBW.out.drew | exact KQ.out _ (HBW.out.alloc (Nat.le_refl _) _) | exact KQ.out _ (HBW.out.drew.alloc (Nat.le_refl _) _) | exact KQ.out _ (HBW.out.alloc (Nat.le_refl _) _).drew | exact KQ.out _ ((HBW.out.alloc (Nat.le_refl _) _).alloc (by simp) _) | exact KQ.out _ ((HBW.out.drew.alloc (Nat.le_refl _) _).alloc (by simp) _) | exact KQ.out _ ((HBW.out.alloc (Nat.le_refl _) _).alloc (by simp) _).drew)
        (fail)
      · have hb4 : Below wr.heap.size wr (((wr.alloc (.cells #[.int .i64 k, .string nm, .slice na1 n1 nc1, .slice aa1 m1 ac1, .string p, .slice ka1 kn1 kc1] 73)).alloc (.cells #[.int .i64 k2, .string nm2, .slice na2 n2 nc2, .slice aa2 m2 ac2, .string p2, .slice ka2 kn2 kc2] 73)).drew) := (((Below.refl _ _).alloc (Nat.le_refl _) _).alloc (by simp) _).drew
        have hp0 : (((wr.alloc (.cells #[.int .i64 k, .string nm, .slice na1 n1 nc1, .slice aa1 m1 ac1, .string p, .slice ka1 kn1 kc1] 73)).alloc (.cells #[.int .i64 k2, .string nm2, .slice na2 n2 nc2, .slice aa2 m2 ac2, .string p2, .slice ka2 kn2 kc2] 73)).drew).heap[wr.heap.size]? = some (.cells #[.int .i64 k, .string nm, .slice na1 n1 nc1, .slice aa1 m1 ac1, .string p, .slice ka1 kn1 kc1] 73 (0, 0)) := by
          show ((wr.alloc (.cells #[.int .i64 k, .string nm, .slice na1 n1 nc1, .slice aa1 m1 ac1, .string p, .slice ka1 kn1 kc1] 73)).alloc (.cells #[.int .i64 k2, .string nm2, .slice na2 n2 nc2, .slice aa2 m2 ac2, .string p2, .slice ka2 kn2 kc2] 73)).heap[wr.heap.size]? = _
          rw [Below.heap_alloc _ _ _ (by simp)]; exact World.alloc_heap_new wr _
        have hp1 : (((wr.alloc (.cells #[.int .i64 k, .string nm, .slice na1 n1 nc1, .slice aa1 m1 ac1, .string p, .slice ka1 kn1 kc1] 73)).alloc (.cells #[.int .i64 k2, .string nm2, .slice na2 n2 nc2, .slice aa2 m2 ac2, .string p2, .slice ka2 kn2 kc2] 73)).drew).heap[wr.heap.size + 1]? = some (.cells #[.int .i64 k2, .string nm2, .slice na2 n2 nc2, .slice aa2 m2 ac2, .string p2, .slice ka2 kn2 kc2] 73 (0, 0)) := by
          show ((wr.alloc (.cells #[.int .i64 k, .string nm, .slice na1 n1 nc1, .slice aa1 m1 ac1, .string p, .slice ka1 kn1 kc1] 73)).alloc (.cells #[.int .i64 k2, .string nm2, .slice na2 n2 nc2, .slice aa2 m2 ac2, .string p2, .slice ka2 kn2 kc2] 73)).heap[wr.heap.size + 1]? = _
          have := World.alloc_heap_new (wr.alloc (.cells #[.int .i64 k, .string nm, .slice na1 n1 nc1, .slice aa1 m1 ac1, .string p, .slice ka1 kn1 kc1] 73)) (.cells #[.int .i64 k2, .string nm2, .slice na2 n2 nc2, .slice aa2 m2 ac2, .string p2, .slice ka2 kn2 kc2] 73)
          simpa using this
        generalize (((wr.alloc (.cells #[.int .i64 k, .string nm, .slice na1 n1 nc1, .slice aa1 m1 ac1, .string p, .slice ka1 kn1 kc1] 73)).alloc (.cells #[.int .i64 k2, .string nm2, .slice na2 n2 nc2, .slice aa2 m2 ac2, .string p2, .slice ka2 kn2 kc2] 73)).drew) = W4 at hb4 hp0 hp1 ⊢
        obtain ⟨s0, hs0⟩ : ∃ s0, s0 = wr.heap.size := ⟨_, rfl⟩
        have HS0 : Hid (w.heap.size ≤ s0 ∧ B ≤ s0) := ⟨by rw [hs0]; exact HI.out.size, by rw [hs0]; exact Nat.le_trans HBB.out HI.out.size⟩
        have hlb := hb4
        rw [← hs0] at hp0 hp1 hb4 ⊢
        clear hs0
        have HX4 : Hid (W4.heap[s0]? = some (.cells #[.int .i64 k, .string nm, .slice na1 n1 nc1, .slice aa1 m1 ac1, .string p, .slice ka1 kn1 kc1] 73 (0, 0)) ∧ W4.heap[s0 + 1]? = some (.cells #[.int .i64 k2, .string nm2, .slice na2 n2 nc2, .slice aa2 m2 ac2, .string p2, .slice ka2 kn2 kc2] 73 (0, 0)) ∧ Below s0 wr W4) := ⟨hp0, hp1, hb4⟩
        have CK := hidd (IH.out j k nm ns as_ p ks' k2 nm2 ns2 as2 p2 ks2 HP.out.1.1 HP.out.1.2 _ _ W4 (HI.out.trans (hlb.mono HI.out.size)) (SK.out.1.stay (fun q hq => hlb.block q (Nat.lt_of_lt_of_le hq (Nat.le_trans HBB.out HI.out.size))) (fun _ h => h)) (SK.out.2.stay (fun q hq => hlb.block q (Nat.lt_of_lt_of_le hq (Nat.le_trans HBB.out HI.out.size))) (fun _ h => h)))
        have HF : Hid (Below w.heap.size w W4) := HI.out.trans (hb4.mono HS0.out.1)
        have mc0 : W4.cell? ⟨s0, 0, none⟩ = some _ := (cellO HX4.out.1).trans rfl
        have lc0 : W4.cell? ⟨s0 + 1, 0, none⟩ = some _ := (cellO HX4.out.2.1).trans rfl
        have mc1 : W4.cell? ⟨s0, 1, none⟩ = some _ := (cellO HX4.out.1).trans rfl
        have lc1 : W4.cell? ⟨s0 + 1, 1, none⟩ = some _ := (cellO HX4.out.2.1).trans rfl
        have mc2 : W4.cell? ⟨s0, 2, none⟩ = some _ := (cellO HX4.out.1).trans rfl
        have lc2 : W4.cell? ⟨s0 + 1, 2, none⟩ = some _ := (cellO HX4.out.2.1).trans rfl
        have mc3 : W4.cell? ⟨s0, 3, none⟩ = some _ := (cellO HX4.out.1).trans rfl
        have lc3 : W4.cell? ⟨s0 + 1, 3, none⟩ = some _ := (cellO HX4.out.2.1).trans rfl
        have mc4 : W4.cell? ⟨s0, 4, none⟩ = some _ := (cellO HX4.out.1).trans rfl
        have lc4 : W4.cell? ⟨s0 + 1, 4, none⟩ = some _ := (cellO HX4.out.2.1).trans rfl
        have mc5 : W4.cell? ⟨s0, 5, none⟩ = some _ := (cellO HX4.out.1).trans rfl
        have lc5 : W4.cell? ⟨s0 + 1, 5, none⟩ = some _ := (cellO HX4.out.2.1).trans rfl
        clear hb4 hp0 hp1 hlb
        by_cases dd : ¬ k = k2
        · have g1 : decide (k = k2) = false := by simp; omega
          have g2 : (k == k2) = false := by simp; omega
          have g3 : (k != k2) = true := by simp; omega
          have g4 : ¬ k = k2 := by omega
          clear dd CK
          go_wp2_with fail
          go_ret
          exact ⟨⟨_, rfl⟩, HF.out⟩
        obtain rfl : k = k2 := Classical.not_not.1 dd
        clear dd
        by_cases dd : ¬ nm.toList = nm2.toList
        · have g1 : (nm.toList == nm2.toList) = false := by simpa using dd
          have g2 : (nm.toList != nm2.toList) = true := by simpa using dd
          have DD := hidd dd
          clear dd CK
          go_wp2_with fail
          go_ret
          exact ⟨⟨_, rfl⟩, HF.out⟩
        have e_nm : (nm.toList == nm2.toList) = true := by simpa using Classical.not_not.1 dd
        clear dd
        by_cases dd : ¬ p.toList = p2.toList
        · have g1 : (p.toList == p2.toList) = false := by simpa using dd
          have g2 : (p.toList != p2.toList) = true := by simpa using dd
          have DD := hidd dd
          clear dd CK
          go_wp2_with fail
          go_ret
          exact ⟨⟨_, rfl⟩, HF.out⟩
        have e_p : (p.toList == p2.toList) = true := by simpa using Classical.not_not.1 dd
        clear dd
        by_cases dd : ¬ n1 = n2
        · have g1 : decide ((n1 : Int) = (n2 : Int)) = false := by simp; omega
          have g2 : ((n1 : Int) == (n2 : Int)) = false := by simp; omega
          have g3 : ((n1 : Int) != (n2 : Int)) = true := by simp; omega
          have g4 : ¬ (n1 : Int) = (n2 : Int) := by omega
          clear dd CK
          go_wp2_with fail
          go_ret
          exact ⟨⟨_, rfl⟩, HF.out⟩
        obtain rfl : n1 = n2 := Classical.not_not.1 dd
        clear dd
        by_cases dd : ¬ m1 = m2
        · have g1 : decide ((m1 : Int) = (m2 : Int)) = false := by simp; omega
          have g2 : ((m1 : Int) == (m2 : Int)) = false := by simp; omega
          have g3 : ((m1 : Int) != (m2 : Int)) = true := by simp; omega
          have g4 : ¬ (m1 : Int) = (m2 : Int) := by omega
          clear dd CK
          go_wp2_with fail
          go_ret
          exact ⟨⟨_, rfl⟩, HF.out⟩
        obtain rfl : m1 = m2 := Classical.not_not.1 dd
        clear dd
        clear HF
        go_wp2_with fail
        refine CK.out.mono ?_
        rintro e w5 ⟨⟨bb, rfl⟩, hb5⟩
        have HX5 : Hid (w5.heap[s0]? = some (.cells #[.int .i64 k, .string nm, .slice na1 n1 nc1, .slice aa1 m1 ac1, .string p, .slice ka1 kn1 kc1] 73 (0, 0)) ∧ w5.heap[s0 + 1]? = some (.cells #[.int .i64 k, .string nm2, .slice na2 n1 nc2, .slice aa2 m1 ac2, .string p2, .slice ka2 kn2 kc2] 73 (0, 0)) ∧ Below s0 wr w5) := ⟨(hb5.block _ (Array.getElem?_eq_some_iff.1 HX4.out.1).1).trans HX4.out.1, (hb5.block _ (Array.getElem?_eq_some_iff.1 HX4.out.2.1).1).trans HX4.out.2.1, HX4.out.2.2.trans (hb5.mono (Nat.le_of_lt (Array.getElem?_eq_some_iff.1 HX4.out.1).1))⟩
        have HF : Hid (Below w.heap.size w w5) := HI.out.trans (HX5.out.2.2.mono HS0.out.1)
        have r2 : w5.cell? ⟨s0, 2, none⟩ = some _ := (cellO HX5.out.1).trans rfl
        clear hb5 CK mc0 mc1 mc2 mc3 mc4 mc5 lc0 lc1 lc2 lc3 lc4 lc5
        cases bb with
        | false =>
          go_wp2_with fail
          go_ret
          exact ⟨⟨_, rfl⟩, HF.out⟩
        | true =>
          go_wp2_with fail
          go_loopw [8, 75] (fun _ ix wr => ∃ (i : Nat), i ≤ n1 ∧ ix = .int .i64 i ∧ Hid (Below w5.heap.size w5 wr)) (fun _ ix _ => n1 - (intOf ix).toNat)
          case atStart => exact ⟨0, Nat.zero_le _, rfl, Below.refl _ _⟩
          case round =>
            obtain ⟨i, hi, rfl, HQ⟩ := hrel
            have hnl : n1 ≤ 100000 := HP.out.2.1.1
            have hal : m1 ≤ 100000 := HP.out.2.1.2
            have HFQ : Hid (Below w.heap.size w wr) := HF.out.trans (HQ.out.mono HF.out.size)
            by_cases hit : i < n1
            · have hx5 := (HQ.out.block _ (Array.getElem?_eq_some_iff.1 HX5.out.1).1).trans HX5.out.1
              have hy5 := (HQ.out.block _ (Array.getElem?_eq_some_iff.1 HX5.out.2.1).1).trans HX5.out.2.1
              have r2 : wr.cell? ⟨s0, 2, none⟩ = some _ := (cellO hx5).trans rfl
              have r3 : wr.cell? ⟨s0, 3, none⟩ = some _ := (cellO hx5).trans rfl
              have s2 : wr.cell? ⟨s0 + 1, 2, none⟩ = some _ := (cellO hy5).trans rfl
              have s3 : wr.cell? ⟨s0 + 1, 3, none⟩ = some _ := (cellO hy5).trans rfl
              have hbq : Below B _ wr := (HX5.out.2.2.trans (HQ.out.mono (Nat.le_of_lt (Array.getElem?_eq_some_iff.1 HX5.out.1).1))).mono HS0.out.2
              obtain ⟨z, hz⟩ := HLE.out.1 i hit
              obtain ⟨z2, hz2⟩ := HLE.out.2.1 i hit
              obtain ⟨nb1, no1, hn1, t1⟩ := (SN.out.1.1.stay (ok' := fun q => q < B) (w' := wr) (fun q hq => hbq.block q hq) (fun _ h => h)).look hz
              obtain ⟨nb2, no2, hn2, t2⟩ := (SN.out.2.1.stay (ok' := fun q => q < B) (w' := wr) (fun q hq => hbq.block q hq) (fun _ h => h)).look hz2
              subst hn1
              subst hn2
              have i3 : (0 : Int) ≤ (i : Int) := by omega
              have i4 : (i : Int) < (n1 : Int) := by omega
              by_cases dz : ¬ z.toList = z2.toList
              · have ez : (z.toList == z2.toList) = false := by simpa using dz
                have ez2 : (z.toList != z2.toList) = true := by simpa using dz
                have DZ := hidd dz
                clear dz hx5 hy5 hbq hz hz2 IH HS1 HS2 HNS HL HL2
                go_wp2_with fail
                go_quiet (fail)
                have HQ2 : ∀ m, Below w.heap.size w (wr.drewN m) := fun m => below_drewN HFQ.out m
                go_wp2_with fail
                go_ret
                exact ⟨⟨_, rfl⟩, HQ2 _⟩
              have ez : (z.toList == z2.toList) = true := by simpa using Classical.not_not.1 dz
              have ez2 : (z.toList != z2.toList) = false := by simpa using Classical.not_not.1 dz
              clear dz
              by_cases hia : i < m1
              · obtain ⟨za, hza⟩ := HLE.out.2.2.1 i hia
                obtain ⟨zb, hzb⟩ := HLE.out.2.2.2 i hia
                obtain ⟨ab1, ao1, hn3, t3⟩ := (SN.out.1.2.stay (ok' := fun q => q < B) (w' := wr) (fun q hq => hbq.block q hq) (fun _ h => h)).look hza
                obtain ⟨ab2, ao2, hn4, t4⟩ := (SN.out.2.2.stay (ok' := fun q => q < B) (w' := wr) (fun q hq => hbq.block q hq) (fun _ h => h)).look hzb
                subst hn3
                subst hn4
                have i5 : (i : Int) < (m1 : Int) := by omega
                have g1 : decide ((i : Int) < (m1 : Int)) = true := by simp; omega
                clear hx5 hy5 hbq hz hz2 hza hzb IH HS1 HS2 HNS HL HL2
                by_cases da : ¬ za.toList = zb.toList
                · have ea : (za.toList == zb.toList) = false := by simpa using da
                  have ea2 : (za.toList != zb.toList) = true := by simpa using da
                  have DZ := hidd da
                  clear da
                  go_wp2_with fail
                  go_quiet (fail)
                  have HQ2 : ∀ m, Below w.heap.size w (wr.drewN m) := fun m => below_drewN HFQ.out m
                  go_wp2_with fail
                  go_ret
                  exact ⟨⟨_, rfl⟩, HQ2 _⟩
                have ea : (za.toList == zb.toList) = true := by simpa using Classical.not_not.1 da
                have ea2 : (za.toList != zb.toList) = false := by simpa using Classical.not_not.1 da
                clear da
                go_wp2_with fail
                go_quiet (fail)
                have HQ2 : ∀ m, Below w5.heap.size w5 (wr.drewN m) := fun m => below_drewN HQ.out m
                go_wp2_with fail
                go_roundw
                case rel => exact ⟨i + 1, hit, by go_num, HQ2 _⟩
                case measure => simp [intOf]; omega
              · have i5 : ¬ (i : Int) < (m1 : Int) := by omega
                have g1 : decide ((i : Int) < (m1 : Int)) = false := by simp; omega
                clear hx5 hy5 hbq hz hz2 IH HS1 HS2 HNS HL HL2
                go_wp2_with fail
                go_quiet (fail)
                have HQ2 : ∀ m, Below w5.heap.size w5 (wr.drewN m) := fun m => below_drewN HQ.out m
                go_wp2_with fail
                go_roundw
                case rel => exact ⟨i + 1, hit, by go_num, HQ2 _⟩
                case measure => simp [intOf]; omega
            · obtain rfl : i = n1 := by omega
              go_wp2_with fail
              go_roundw
              case rel => exact ⟨j + 1, hlt, by go_num, HFQ.out⟩
              case measure => simp [intOf]; omega
      · have hb4 : Below wr.heap.size wr (((wr.alloc (.cells #[.int .i64 k2, .string nm2, .slice na2 n2 nc2, .slice aa2 m2 ac2, .string p2, .slice ka2 kn2 kc2] 73)).alloc (.cells #[.int .i64 k, .string nm, .slice na1 n1 nc1, .slice aa1 m1 ac1, .string p, .slice ka1 kn1 kc1] 73)).drew) := (((Below.refl _ _).alloc (Nat.le_refl _) _).alloc (by simp) _).drew
        have hp0 : (((wr.alloc (.cells #[.int .i64 k2, .string nm2, .slice na2 n2 nc2, .slice aa2 m2 ac2, .string p2, .slice ka2 kn2 kc2] 73)).alloc (.cells #[.int .i64 k, .string nm, .slice na1 n1 nc1, .slice aa1 m1 ac1, .string p, .slice ka1 kn1 kc1] 73)).drew).heap[wr.heap.size]? = some (.cells #[.int .i64 k2, .string nm2, .slice na2 n2 nc2, .slice aa2 m2 ac2, .string p2, .slice ka2 kn2 kc2] 73 (0, 0)) := by
          show ((wr.alloc (.cells #[.int .i64 k2, .string nm2, .slice na2 n2 nc2, .slice aa2 m2 ac2, .string p2, .slice ka2 kn2 kc2] 73)).alloc (.cells #[.int .i64 k, .string nm, .slice na1 n1 nc1, .slice aa1 m1 ac1, .string p, .slice ka1 kn1 kc1] 73)).heap[wr.heap.size]? = _
          rw [Below.heap_alloc _ _ _ (by simp)]; exact World.alloc_heap_new wr _
        have hp1 : (((wr.alloc (.cells #[.int .i64 k2, .string nm2, .slice na2 n2 nc2, .slice aa2 m2 ac2, .string p2, .slice ka2 kn2 kc2] 73)).alloc (.cells #[.int .i64 k, .string nm, .slice na1 n1 nc1, .slice aa1 m1 ac1, .string p, .slice ka1 kn1 kc1] 73)).drew).heap[wr.heap.size + 1]? = some (.cells #[.int .i64 k, .string nm, .slice na1 n1 nc1, .slice aa1 m1 ac1, .string p, .slice ka1 kn1 kc1] 73 (0, 0)) := by
          show ((wr.alloc (.cells #[.int .i64 k2, .string nm2, .slice na2 n2 nc2, .slice aa2 m2 ac2, .string p2, .slice ka2 kn2 kc2] 73)).alloc (.cells #[.int .i64 k, .string nm, .slice na1 n1 nc1, .slice aa1 m1 ac1, .string p, .slice ka1 kn1 kc1] 73)).heap[wr.heap.size + 1]? = _
          have := World.alloc_heap_new (wr.alloc (.cells #[.int .i64 k2, .string nm2, .slice na2 n2 nc2, .slice aa2 m2 ac2, .string p2, .slice ka2 kn2 kc2] 73)) (.cells #[.int .i64 k, .string nm, .slice na1 n1 nc1, .slice aa1 m1 ac1, .string p, .slice ka1 kn1 kc1] 73)
          simpa using this
        generalize (((wr.alloc (.cells #[.int .i64 k2, .string nm2, .slice na2 n2 nc2, .slice aa2 m2 ac2, .string p2, .slice ka2 kn2 kc2] 73)).alloc (.cells #[.int .i64 k, .string nm, .slice na1 n1 nc1, .slice aa1 m1 ac1, .string p, .slice ka1 kn1 kc1] 73)).drew) = W4 at hb4 hp0 hp1 ⊢
        obtain ⟨s0, hs0⟩ : ∃ s0, s0 = wr.heap.size := ⟨_, rfl⟩
        have HS0 : Hid (w.heap.size ≤ s0 ∧ B ≤ s0) := ⟨by rw [hs0]; exact HI.out.size, by rw [hs0]; exact Nat.le_trans HBB.out HI.out.size⟩
        have hlb := hb4
        rw [← hs0] at hp0 hp1 hb4 ⊢
        clear hs0
        have HX4 : Hid (W4.heap[s0 + 1]? = some (.cells #[.int .i64 k, .string nm, .slice na1 n1 nc1, .slice aa1 m1 ac1, .string p, .slice ka1 kn1 kc1] 73 (0, 0)) ∧ W4.heap[s0]? = some (.cells #[.int .i64 k2, .string nm2, .slice na2 n2 nc2, .slice aa2 m2 ac2, .string p2, .slice ka2 kn2 kc2] 73 (0, 0)) ∧ Below s0 wr W4) := ⟨hp1, hp0, hb4⟩
        have CK := hidd (IH.out j k nm ns as_ p ks' k2 nm2 ns2 as2 p2 ks2 HP.out.1.1 HP.out.1.2 _ _ W4 (HI.out.trans (hlb.mono HI.out.size)) (SK.out.1.stay (fun q hq => hlb.block q (Nat.lt_of_lt_of_le hq (Nat.le_trans HBB.out HI.out.size))) (fun _ h => h)) (SK.out.2.stay (fun q hq => hlb.block q (Nat.lt_of_lt_of_le hq (Nat.le_trans HBB.out HI.out.size))) (fun _ h => h)))
        have HF : Hid (Below w.heap.size w W4) := HI.out.trans (hb4.mono HS0.out.1)
        have mc0 : W4.cell? ⟨s0 + 1, 0, none⟩ = some _ := (cellO HX4.out.1).trans rfl
        have lc0 : W4.cell? ⟨s0, 0, none⟩ = some _ := (cellO HX4.out.2.1).trans rfl
        have mc1 : W4.cell? ⟨s0 + 1, 1, none⟩ = some _ := (cellO HX4.out.1).trans rfl
        have lc1 : W4.cell? ⟨s0, 1, none⟩ = some _ := (cellO HX4.out.2.1).trans rfl
        have mc2 : W4.cell? ⟨s0 + 1, 2, none⟩ = some _ := (cellO HX4.out.1).trans rfl
        have lc2 : W4.cell? ⟨s0, 2, none⟩ = some _ := (cellO HX4.out.2.1).trans rfl
        have mc3 : W4.cell? ⟨s0 + 1, 3, none⟩ = some _ := (cellO HX4.out.1).trans rfl
        have lc3 : W4.cell? ⟨s0, 3, none⟩ = some _ := (cellO HX4.out.2.1).trans rfl
        have mc4 : W4.cell? ⟨s0 + 1, 4, none⟩ = some _ := (cellO HX4.out.1).trans rfl
        have lc4 : W4.cell? ⟨s0, 4, none⟩ = some _ := (cellO HX4.out.2.1).trans rfl
        have mc5 : W4.cell? ⟨s0 + 1, 5, none⟩ = some _ := (cellO HX4.out.1).trans rfl
        have lc5 : W4.cell? ⟨s0, 5, none⟩ = some _ := (cellO HX4.out.2.1).trans rfl
        clear hb4 hp0 hp1 hlb
        by_cases dd : ¬ k = k2
        · have g1 : decide (k = k2) = false := by simp; omega
          have g2 : (k == k2) = false := by simp; omega
          have g3 : (k != k2) = true := by simp; omega
          have g4 : ¬ k = k2 := by omega
          clear dd CK
          go_wp2_with fail
          go_ret
          exact ⟨⟨_, rfl⟩, HF.out⟩
        obtain rfl : k = k2 := Classical.not_not.1 dd
        clear dd
        by_cases dd : ¬ nm.toList = nm2.toList
        · have g1 : (nm.toList == nm2.toList) = false := by simpa using dd
          have g2 : (nm.toList != nm2.toList) = true := by simpa using dd
          have DD := hidd dd
          clear dd CK
          go_wp2_with fail
          go_ret
          exact ⟨⟨_, rfl⟩, HF.out⟩
        have e_nm : (nm.toList == nm2.toList) = true := by simpa using Classical.not_not.1 dd
        clear dd
        by_cases dd : ¬ p.toList = p2.toList
        · have g1 : (p.toList == p2.toList) = false := by simpa using dd
          have g2 : (p.toList != p2.toList) = true := by simpa using dd
          have DD := hidd dd
          clear dd CK
          go_wp2_with fail
          go_ret
          exact ⟨⟨_, rfl⟩, HF.out⟩
        have e_p : (p.toList == p2.toList) = true := by simpa using Classical.not_not.1 dd
        clear dd
        by_cases dd : ¬ n1 = n2
        · have g1 : decide ((n1 : Int) = (n2 : Int)) = false := by simp; omega
          have g2 : ((n1 : Int) == (n2 : Int)) = false := by simp; omega
          have g3 : ((n1 : Int) != (n2 : Int)) = true := by simp; omega
          have g4 : ¬ (n1 : Int) = (n2 : Int) := by omega
          clear dd CK
          go_wp2_with fail
          go_ret
          exact ⟨⟨_, rfl⟩, HF.out⟩
        obtain rfl : n1 = n2 := Classical.not_not.1 dd
        clear dd
        by_cases dd : ¬ m1 = m2
        · have g1 : decide ((m1 : Int) = (m2 : Int)) = false := by simp; omega
          have g2 : ((m1 : Int) == (m2 : Int)) = false := by simp; omega
          have g3 : ((m1 : Int) != (m2 : Int)) = true := by simp; omega
          have g4 : ¬ (m1 : Int) = (m2 : Int) := by omega
          clear dd CK
          go_wp2_with fail
          go_ret
          exact ⟨⟨_, rfl⟩, HF.out⟩
        obtain rfl : m1 = m2 := Classical.not_not.1 dd
        clear dd
        clear HF
        go_wp2_with fail
        refine CK.out.mono ?_
        rintro e w5 ⟨⟨bb, rfl⟩, hb5⟩
        have HX5 : Hid (w5.heap[s0 + 1]? = some (.cells #[.int .i64 k, .string nm, .slice na1 n1 nc1, .slice aa1 m1 ac1, .string p, .slice ka1 kn1 kc1] 73 (0, 0)) ∧ w5.heap[s0]? = some (.cells #[.int .i64 k, .string nm2, .slice na2 n1 nc2, .slice aa2 m1 ac2, .string p2, .slice ka2 kn2 kc2] 73 (0, 0)) ∧ Below s0 wr w5) := ⟨(hb5.block _ (Array.getElem?_eq_some_iff.1 HX4.out.1).1).trans HX4.out.1, (hb5.block _ (Array.getElem?_eq_some_iff.1 HX4.out.2.1).1).trans HX4.out.2.1, HX4.out.2.2.trans (hb5.mono (Nat.le_of_lt (Array.getElem?_eq_some_iff.1 HX4.out.2.1).1))⟩
        have HF : Hid (Below w.heap.size w w5) := HI.out.trans (HX5.out.2.2.mono HS0.out.1)
        have r2 : w5.cell? ⟨s0 + 1, 2, none⟩ = some _ := (cellO HX5.out.1).trans rfl
        clear hb5 CK mc0 mc1 mc2 mc3 mc4 mc5 lc0 lc1 lc2 lc3 lc4 lc5
        cases bb with
        | false =>
          go_wp2_with fail
          go_ret
          exact ⟨⟨_, rfl⟩, HF.out⟩
        | true =>
          go_wp2_with fail
          go_loopw [8, 75] (fun _ ix wr => ∃ (i : Nat), i ≤ n1 ∧ ix = .int .i64 i ∧ Hid (Below w5.heap.size w5 wr)) (fun _ ix _ => n1 - (intOf ix).toNat)
          case atStart => exact ⟨0, Nat.zero_le _, rfl, Below.refl _ _⟩
          case round =>
            obtain ⟨i, hi, rfl, HQ⟩ := hrel
            have hnl : n1 ≤ 100000 := HP.out.2.1.1
            have hal : m1 ≤ 100000 := HP.out.2.1.2
            have HFQ : Hid (Below w.heap.size w wr) := HF.out.trans (HQ.out.mono HF.out.size)
            by_cases hit : i < n1
            · have hx5 := (HQ.out.block _ (Array.getElem?_eq_some_iff.1 HX5.out.1).1).trans HX5.out.1
              have hy5 := (HQ.out.block _ (Array.getElem?_eq_some_iff.1 HX5.out.2.1).1).trans HX5.out.2.1
              have r2 : wr.cell? ⟨s0 + 1, 2, none⟩ = some _ := (cellO hx5).trans rfl
              have r3 : wr.cell? ⟨s0 + 1, 3, none⟩ = some _ := (cellO hx5).trans rfl
              have s2 : wr.cell? ⟨s0, 2, none⟩ = some _ := (cellO hy5).trans rfl
              have s3 : wr.cell? ⟨s0, 3, none⟩ = some _ := (cellO hy5).trans rfl
              have hbq : Below B _ wr := (HX5.out.2.2.trans (HQ.out.mono (Nat.le_of_lt (Array.getElem?_eq_some_iff.1 HX5.out.2.1).1))).mono HS0.out.2
              obtain ⟨z, hz⟩ := HLE.out.1 i hit
              obtain ⟨z2, hz2⟩ := HLE.out.2.1 i hit
              obtain ⟨nb1, no1, hn1, t1⟩ := (SN.out.1.1.stay (ok' := fun q => q < B) (w' := wr) (fun q hq => hbq.block q hq) (fun _ h => h)).look hz
              obtain ⟨nb2, no2, hn2, t2⟩ := (SN.out.2.1.stay (ok' := fun q => q < B) (w' := wr) (fun q hq => hbq.block q hq) (fun _ h => h)).look hz2
              subst hn1
              subst hn2
              have i3 : (0 : Int) ≤ (i : Int) := by omega
              have i4 : (i : Int) < (n1 : Int) := by omega
              by_cases dz : ¬ z.toList = z2.toList
              · have ez : (z.toList == z2.toList) = false := by simpa using dz
                have ez2 : (z.toList != z2.toList) = true := by simpa using dz
                have DZ := hidd dz
                clear dz hx5 hy5 hbq hz hz2 IH HS1 HS2 HNS HL HL2
                go_wp2_with fail
                go_quiet (fail)
                have HQ2 : ∀ m, Below w.heap.size w (wr.drewN m) := fun m => below_drewN HFQ.out m
                go_wp2_with fail
                go_ret
                exact ⟨⟨_, rfl⟩, HQ2 _⟩
              have ez : (z.toList == z2.toList) = true := by simpa using Classical.not_not.1 dz
              have ez2 : (z.toList != z2.toList) = false := by simpa using Classical.not_not.1 dz
              clear dz
              by_cases hia : i < m1
              · obtain ⟨za, hza⟩ := HLE.out.2.2.1 i hia
                obtain ⟨zb, hzb⟩ := HLE.out.2.2.2 i hia
                obtain ⟨ab1, ao1, hn3, t3⟩ := (SN.out.1.2.stay (ok' := fun q => q < B) (w' := wr) (fun q hq => hbq.block q hq) (fun _ h => h)).look hza
                obtain ⟨ab2, ao2, hn4, t4⟩ := (SN.out.2.2.stay (ok' := fun q => q < B) (w' := wr) (fun q hq => hbq.block q hq) (fun _ h => h)).look hzb
                subst hn3
                subst hn4
                have i5 : (i : Int) < (m1 : Int) := by omega
                have g1 : decide ((i : Int) < (m1 : Int)) = true := by simp; omega
                clear hx5 hy5 hbq hz hz2 hza hzb IH HS1 HS2 HNS HL HL2
                by_cases da : ¬ za.toList = zb.toList
                · have ea : (za.toList == zb.toList) = false := by simpa using da
                  have ea2 : (za.toList != zb.toList) = true := by simpa using da
                  have DZ := hidd da
                  clear da
                  go_wp2_with fail
                  go_quiet (fail)
                  have HQ2 : ∀ m, Below w.heap.size w (wr.drewN m) := fun m => below_drewN HFQ.out m
                  go_wp2_with fail
                  go_ret
                  exact ⟨⟨_, rfl⟩, HQ2 _⟩
                have ea : (za.toList == zb.toList) = true := by simpa using Classical.not_not.1 da
                have ea2 : (za.toList != zb.toList) = false := by simpa using Classical.not_not.1 da
                clear da
                go_wp2_with fail
                go_quiet (fail)
                have HQ2 : ∀ m, Below w5.heap.size w5 (wr.drewN m) := fun m => below_drewN HQ.out m
                go_wp2_with fail
                go_roundw
                case rel => exact ⟨i + 1, hit, by go_num, HQ2 _⟩
                case measure => simp [intOf]; omega
              · have i5 : ¬ (i : Int) < (m1 : Int) := by omega
                have g1 : decide ((i : Int) < (m1 : Int)) = false := by simp; omega
                clear hx5 hy5 hbq hz hz2 IH HS1 HS2 HNS HL HL2
                go_wp2_with fail
                go_quiet (fail)
                have HQ2 : ∀ m, Below w5.heap.size w5 (wr.drewN m) := fun m => below_drewN HQ.out m
                go_wp2_with fail
                go_roundw
                case rel => exact ⟨i + 1, hit, by go_num, HQ2 _⟩
                case measure => simp [intOf]; omega
            · obtain rfl : i = n1 := by omega
              go_wp2_with fail
              go_roundw
              case rel => exact ⟨j + 1, hlt, by go_num, HFQ.out⟩
              case measure => simp [intOf]; omega
    · obtain rfl : j = n := by omega
      go_wp2_with fail
      go_ret
      exact ⟨⟨_, rfl⟩, HI.out⟩
theorem maySe_any (B : Nat) : ∀ (N : Nat) (xs ys : List Se), SizeOf.sizeOf xs < N → seOkL xs → seOkL ys → xs.length ≤ 100000 → ys.length ≤ 100000 → ∀ (v1 v2 : Value) (w : World), B ≤ w.heap.size → SeL (fun k => k < B) w xs v1 → SeL (fun k => k < B) w ys v2 → Calls Tryz.prog 38 #[v1, v2] w (MayB w)
  | 0, xs, ys, hN, _, _, _, _ => absurd hN (by omega)
  | N + 1, xs, ys, hN, ho, ho2, hl, hl2 => fun v1 v2 w hB h1 h2 => by
    refine maySe_over B xs ys v1 v2 w hB h1 h2 hl hl2 (fun j k nm ns as_ p ks' hj => ?_) (fun j k nm ns as_ p ks' hj => ?_) (fun j k nm ns as_ p ks' k2 nm2 ns2 as2 p2 ks2 hj hj2 u1 u2 W hb s1 s2 => ?_)
    · have := seOkL_mem ho _ (List.mem_of_getElem? hj)
      rw [seOk] at this
      exact ⟨this.1, this.2.1⟩
    · have := seOkL_mem ho2 _ (List.mem_of_getElem? hj)
      rw [seOk] at this
      exact ⟨this.1, this.2.1⟩
    · have hs := seOkL_mem ho _ (List.mem_of_getElem? hj)
      rw [seOk] at hs
      have hs2 := seOkL_mem ho2 _ (List.mem_of_getElem? hj2)
      rw [seOk] at hs2
      have hsz : SizeOf.sizeOf ks' < SizeOf.sizeOf xs := by
        have h1 := List.sizeOf_lt_of_mem (List.mem_of_getElem? hj)
        simp at h1
        omega
      exact maySe_any B N ks' ks2 (by omega) hs.2.2.2 hs2.2.2.2 hs.2.2.1 hs2.2.2.1 u1 u2 W (Nat.le_trans hB hb.size) s1 s2
end Go.Proofs.YtonafbennobgdaaGreatDoor
