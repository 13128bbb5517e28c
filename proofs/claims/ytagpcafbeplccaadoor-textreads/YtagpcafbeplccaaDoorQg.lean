/- The document's reader: One, lists. -/
import Derived.Test.YtagpcafbeplccaaDoorQd
import Derived.Deep.RegionLaw
import Derived.Deep.AppendLies
namespace Go.Proofs.YtagpcafbeplccaaDoor
set_option linter.unusedVariables false
set_option linter.unusedSimpArgs false
open Go.RowKit

/-- The list under way: a struct in memory whose kids are v. -/
structure Dk (db : Nat) (v : Value) (w : World) : Prop where
  lt : db < w.heap.size
  q0 : w.cell? ⟨db, 0, none⟩ = some (.int .i64 4)
  q1 : w.cell? ⟨db, 1, none⟩ = some (.int .i64 0)
  q2 : w.cell? ⟨db, 2, none⟩ = some (.string ⟨#[]⟩)
  q3 : w.cell? ⟨db, 3, none⟩ = some (.int .i64 0)
  q4 : w.cell? ⟨db, 4, none⟩ = some (.int .i64 0)
  q5 : w.cell? ⟨db, 5, none⟩ = some v
  z : ∀ j, w.frozen? ⟨db, j, none⟩ = false

theorem Dk.of {db : Nat} {v : Value} {w w' : World} (h : Dk db v w) (hs : w.heap.size ≤ w'.heap.size) (hb : w'.heap[db]? = w.heap[db]?) : Dk db v w' := by
  have e : ∀ q, w'.cell? ⟨db, q, none⟩ = w.cell? ⟨db, q, none⟩ := fun q => World.cell?_of_block hb
  have z : ∀ q, w'.frozen? ⟨db, q, none⟩ = w.frozen? ⟨db, q, none⟩ := fun q => World.frozen?_of_block hb
  exact ⟨Nat.lt_of_lt_of_le h.lt hs, (e _).trans h.q0, (e _).trans h.q1, (e _).trans h.q2, (e _).trans h.q3, (e _).trans h.q4, (e _).trans h.q5, fun j => (z _).trans (h.z j)⟩
theorem Dk.after {db : Nat} {v : Value} {w w' : World} (h : Dk db v w) (hb : Below w.heap.size w w') : Dk db v w' := h.of hb.size (hb.block db h.lt)
theorem Dk.keep {db c : Nat} {v : Value} {w w' : World} (h : Dk db v w) (hb : Keep c w w') (hc : db ≠ c) : Dk db v w' := h.of hb.size (hb.block db h.lt (by simpa using hc))
theorem Dk.alloc {db : Nat} {v : Value} {w : World} (h : Dk db v w) (o : Obj) : Dk db v (w.alloc o) := h.after ((Below.refl _ _).alloc (Nat.le_refl _) _)
theorem Dk.grown {db : Nat} {v : Value} {w w' : World} {row : Option Nat} (h : Dk db v w) (hg : w.grownBy w' row) (hr : some db ≠ row) : Dk db v w' := h.of hg.size (hg.block db h.lt hr)
theorem Dk.made (w : World) : Dk w.heap.size (.slice none 0 0) (w.alloc (.cells #[.int .i64 4, .int .i64 0, .string ⟨#[]⟩, .int .i64 0, .int .i64 0, .slice none 0 0] 46)) := by
  have q : ∀ j, (w.alloc (.cells #[.int .i64 4, .int .i64 0, .string ⟨#[]⟩, .int .i64 0, .int .i64 0, .slice none 0 0] 46)).cell? ⟨w.heap.size, j, none⟩ = _ := fun j => World.cell?_alloc_mark w _ 46 (0, 0) j
  exact ⟨by simp, q 0, q 1, q 2, q 3, q 4, q 5, fun j => by go_simp⟩
theorem Dk.set {db : Nat} {v : Value} {w : World} (h : Dk db v w) (v' : Value) : Dk db v' (w.setCell ⟨db, 5, none⟩ v') := by
  have e : ∀ o, o ≠ 5 → (w.setCell ⟨db, 5, none⟩ v').cell? ⟨db, o, none⟩ = w.cell? ⟨db, o, none⟩ := fun o ho => World.cell?_setCell_other _ _ _ _ (by simp [ho])
  exact ⟨by simp [World.setCell]; exact h.lt, (e 0 (by omega)).trans h.q0, (e 1 (by omega)).trans h.q1, (e 2 (by omega)).trans h.q2, (e 3 (by omega)).trans h.q3, (e 4 (by omega)).trans h.q4, World.cell?_setCell_same _ _ _ h.q5, fun j => by rw [World.frozen?_setCell]; exact h.z j⟩

theorem Wk.grown {rb : Nat} {s : ByteArray} {i n : Nat} {x : Int × Int} {w w' : World} {row : Option Nat} (h : Wk rb s i n x w) (hg : w.grownBy w' row) (hr : some rb ≠ row) : Wk rb s i n x w' := by
  have e : ∀ q, w'.cell? ⟨rb, q, none⟩ = w.cell? ⟨rb, q, none⟩ := fun q => World.cell?_of_block (hg.block rb h.lt hr)
  have z : ∀ q, w'.frozen? ⟨rb, q, none⟩ = w.frozen? ⟨rb, q, none⟩ := fun q => World.frozen?_of_block (hg.block rb h.lt hr)
  exact ⟨Nat.lt_of_lt_of_le h.lt hg.size, (e _).trans h.c0, (e _).trans h.c1, (e _).trans h.c2, (e _).trans h.c3, (e _).trans h.c4, fun o => (z _).trans (h.z o)⟩

theorem six_news (w : World) (k n : Int) (nm : ByteArray) (st lb : Int) (sl : Value) : ∀ (q : Nat) (u : Value), ([.int .i64 k, .int .i64 n, .string nm, .int .i64 st, .int .i64 lb, sl] : List Value)[q]? = some u → (w.alloc (.cells #[.int .i64 k, .int .i64 n, .string nm, .int .i64 st, .int .i64 lb, sl] 46)).cell? ((⟨w.heap.size, 0, none⟩ : Addr).add q) = some u := by
  intro q u hq
  have hcell := World.cell?_alloc_mark w #[.int .i64 k, .int .i64 n, .string nm, .int .i64 st, .int .i64 lb, sl] 46 (0, 0) q
  have hadd : (⟨w.heap.size, 0, none⟩ : Addr).add q = ⟨w.heap.size, q, none⟩ := by unfold Addr.add; split <;> simp_all
  rw [hadd, hcell]
  simpa using hq

theorem six_one (k n : Int) (nm : ByteArray) (st lb : Int) (a : Option Addr) (ln : Nat) (cap : Nat) : ∀ u ∈ ([.int .i64 k, .int .i64 n, .string nm, .int .i64 st, .int .i64 lb, .slice a ln cap] : List Value), u.oneCell' = true := by
  intro u hu
  simp at hu
  rcases hu with rfl | rfl | rfl | rfl | rfl | rfl <;> rfl

/-- What a round of reading a list knows. -/
structure Lw (l : List UInt8) (s : ByteArray) (f rb N db : Nat) (w : World) (i n : Nat) (wr : World) (v : Value) (es : List (Dat × Option Addr × Nat)) (j k m : Nat) : Prop where
  jle : j ≤ l.length
  mle : m ≤ 2000
  few : es.length ≤ m
  fuel : l.length + 2 ≤ j + k
  keep : Keep rb w wr
  wk : Wk rb s j m (0, 0) wr
  six : Six N wr
  dk : Dk db v wr
  row : Row (db + 1) v es wr
  same : items (one l f) l (l.length + 1) (i + 1) n = pre (es.map (·.1)) (items (one l f) l k j m)

/-- What it knows when something was wrong. -/
structure Lx (l : List UInt8) (s : ByteArray) (f rb N db : Nat) (w : World) (i n : Nat) (wr : World) (x : Int × Int) (j m : Nat) (ao : Option Addr) (ln cp : Nat) : Prop where
  jle : j ≤ s.size
  bad : x.1 ≠ 0
  keep : Keep rb w wr
  wk : Wk rb s j m x wr
  six : Six N wr
  dk : Dk db (.slice ao ln cp) wr
  same : items (one l f) l (l.length + 1) (i + 1) n = .inl x

set_option maxRecDepth 100000 in
set_option maxHeartbeats 3200000 in
theorem One_list (rb : Nat) (s : ByteArray) (i n : Nat) (dp : Int) (w : World) (h : Wk rb s i n (0, 0) w) (hi : i < s.size) (hs : s.size ≤ 6000) (hn : n ≤ 1999) (hd : dp ≤ 40) (h40 : s[i] = 40) (hd0 : 0 ≤ dp) (f : Nat)
    (ih : ∀ (i n : Nat) (w : World), Wk rb s i n (0, 0) w → i ≤ s.size → n ≤ 2000 → Calls Tryd.prog 23 #[.pointer (some ⟨rb, 0, none⟩), .int .i64 (dp + 1)] w (OutW rb s (one s.data.toList f i n) w)) :
    Calls Tryd.prog 23 #[.pointer (some ⟨rb, 0, none⟩), .int .i64 dp] w (OutW rb s (asList (items (one s.data.toList f) s.data.toList (s.data.toList.length + 1) (i + 1) (n + 1))) w) := by
  have e40 : ((s[i].toNat : Int) == 40) = true := by rw [h40]; rfl
  clear h40
  have IH : Hid (∀ (i n : Nat) (w : World), Wk rb s i n (0, 0) w → i ≤ s.size → n ≤ 2000 → Calls Tryd.prog 23 #[.pointer (some ⟨rb, 0, none⟩), .int .i64 (dp + 1)] w (OutW rb s (one s.data.toList f i n) w)) := ih
  have HLEN : Hid (s.data.toList.length = s.size) := Array.length_toList
  clear ih
  obtain ⟨l, hl⟩ : ∃ l, l = s.data.toList := ⟨_, rfl⟩
  have HLL : Hid (l = s.data.toList) := hl
  rw [← hl] at IH HLEN ⊢
  clear hl
  obtain ⟨i0, hinf, hz0, hz1', hz2'⟩ := info_parts infoDat
  have HR : Hid (Wk rb s i n (0, 0) w) := h
  have c1 := h.c1
  have l1 := h.lt
  have hN : w.heap.size ≠ rb := Nat.ne_of_gt l1
  clear h
  go_enter Tryd.func23, Tryd.ntmps23
  go_wp2_with fail
  refine (rcount_ok rb s i n dp i _ (HR.out.alloc _) hn hd).mono ?_
  rintro e w1 ⟨rfl, hk1, hr1⟩
  have H1 : Hid (Hd rb s i (n + 1) w w1) := ⟨((Keep.refl rb w).alloc _).trans hk1, hr1, (Six.made w).keep hk1 hN⟩
  clear hk1 hr1 c1 HR
  go_wp2_with fail
  refine (good_yes rb s i (n + 1) _ H1.out.wk).mono ?_
  rintro e w2 ⟨rfl, rfl⟩
  have c0 := H1.out.wk.c0
  have c1 := H1.out.wk.c1
  have z1 := H1.out.wk.z 1
  have hz2 := H1.out.keep.size
  have hN2 := H1.out.six.lt
  have hrb2 := H1.out.wk.lt
  have START : Hid (Lw l s f rb w.heap.size w2.heap.size w i (n + 1) ((w2.setCell ⟨rb, 1, none⟩ (.int .i64 ((i : Int) + 1))).alloc (.cells #[.int .i64 4, .int .i64 0, .string ⟨#[]⟩, .int .i64 0, .int .i64 0, .slice none 0 0] 46)) (.slice none 0 0) [] (i + 1) (l.length + 1) (n + 1)) := by
    have hm := H1.out.move hN (i + 1) ((i : Int) + 1) (by omega)
    have hsz : (w2.setCell ⟨rb, 1, none⟩ (.int .i64 ((i : Int) + 1))).heap.size = w2.heap.size := by simp
    have hdk := Dk.made (w2.setCell ⟨rb, 1, none⟩ (.int .i64 ((i : Int) + 1)))
    rw [hsz] at hdk
    exact ⟨by rw [HLEN.out]; omega, by omega, by simp, by omega, hm.keep.alloc _, hm.wk.alloc _, hm.six.alloc _, hdk, Row.nil _ _, (pre_nil _).symm⟩
  go_wp2_with fail
  clear H1 c0 c1 z1
  rw [show decide (s.size ≤ i) = false from decide_eq_false (by omega)]
  go_loopg [] (s.size - (i + 1) + 1) (fun g wr => (∃ v es j k m, g = s.size - j + 1 ∧ Lw l s f rb w.heap.size w2.heap.size w i (n + 1) wr v es j k m) ∨ (∃ x j m ao ln cp, g = 0 ∧ Lx l s f rb w.heap.size w2.heap.size w i (n + 1) wr x j m ao ln cp))
  case atStart => exact Or.inl ⟨_, _, _, _, _, rfl, START.out⟩
  case round =>
    clear START
    rcases hrel with ⟨v, es, j, k, m, rfl, hL⟩ | ⟨x, j, m, ao, ln, cp, rfl, hX⟩
    · have HL : Hid (Lw l s f rb w.heap.size w2.heap.size w i (n + 1) wr v es j k m) := hL
      have hjl : j ≤ s.size := by rw [← HLEN.out]; exact hL.jle
      have hdbr := hL.dk.lt
      clear hL
      obtain ⟨k', hk'⟩ : ∃ k', k = k' + 1 := ⟨k - 1, by have := HL.out.fuel; have := HL.out.jle; omega⟩
      have HK : Hid (k = k' + 1) := hk'
      clear hk'
      go_wp2_with fail
      refine (good_yes rb s j m _ HL.out.wk).mono ?_
      rintro e w3 ⟨rfl, rfl⟩
      go_wp2_with fail
      refine (rskip_any rb s j m (0, 0) _ HL.out.wk hjl hs).mono ?_
      rintro e w3 ⟨rfl, hk3, hr3⟩
      rw [← HLL.out] at hr3
      have hpl := skip_le l j HL.out.jle
      rw [HLEN.out] at hpl
      obtain ⟨p, HP⟩ : ∃ p, Hid (p = j + skipL (l.drop j) false) := ⟨_, rfl⟩
      rw [← HP.out] at hr3 hpl
      have hjp : j ≤ p := by have := HP.out; omega
      have H3 : Hid (Keep rb w w3 ∧ Wk rb s p m (0, 0) w3 ∧ Six w.heap.size w3 ∧ Dk w2.heap.size v w3 ∧ Row (w2.heap.size + 1) v es w3) := ⟨HL.out.keep.trans hk3, hr3, HL.out.six.keep hk3 hN, HL.out.dk.keep hk3 (by omega), HL.out.row.keep hk3 (by omega)⟩
      have c0 := hr3.c0
      have c1 := hr3.c1
      clear hk3 hr3
      by_cases hlt : p < s.size
      · have HAT : Hid (l[p]? = some s[p]) := by rw [HLL.out]; exact at_of hlt
        go_wp2_with fail
        go_quiet (fail)
        have HB : Below w3.heap.size w3 (w3.drewN nq) := below_drewN (Below.refl _ _) nq
        have H4 : Hid (Keep rb w (w3.drewN nq) ∧ Wk rb s p m (0, 0) (w3.drewN nq) ∧ Six w.heap.size (w3.drewN nq) ∧ Dk w2.heap.size v (w3.drewN nq) ∧ Row (w2.heap.size + 1) v es (w3.drewN nq)) := ⟨H3.out.1.below HB, H3.out.2.1.below HB, H3.out.2.2.1.after HB, H3.out.2.2.2.1.after HB, H3.out.2.2.2.2.below HB⟩
        clear HB H3 c0 c1
        generalize w3.drewN nq = w4 at H4 ⊢
        have c0 := H4.out.2.1.c0
        have c1 := H4.out.2.1.c1
        go_wp2_with fail
        go_quiet (fail)
        have HB : Below w4.heap.size w4 (w4.drewN nq) := below_drewN (Below.refl _ _) nq
        have H5 : Hid (Keep rb w (w4.drewN nq) ∧ Wk rb s p m (0, 0) (w4.drewN nq) ∧ Six w.heap.size (w4.drewN nq) ∧ Dk w2.heap.size v (w4.drewN nq) ∧ Row (w2.heap.size + 1) v es (w4.drewN nq)) := ⟨H4.out.1.below HB, H4.out.2.1.below HB, H4.out.2.2.1.after HB, H4.out.2.2.2.1.after HB, H4.out.2.2.2.2.below HB⟩
        clear HB H4 c0 c1
        generalize w4.drewN nq = w5 at H5 ⊢
        have c0 := H5.out.2.1.c0
        have c1 := H5.out.2.1.c1
        have z1 := H5.out.2.1.z 1
        by_cases h41 : s[p] = 41
        · have e41 : ((s[p].toNat : Int) == 41) = true := by rw [h41]; rfl
          have HQ : Hid (items (one l f) l (l.length + 1) (i + 1) (n + 1) = .inr (es.map (·.1), p + 1, m)) := by
            have h1 := HAT.out
            rw [h41] at h1
            show items (one l f) l (l.length + 1) (i + 1) (n + 1) = .inr (es.map (·.1), p + 1, m)
            rw [HL.out.same, HK.out, items_close HP.out h1]
            simp [pre]
          clear h41
          have hkm : Keep rb w5 (w5.setCell ⟨rb, 1, none⟩ (.int .i64 ((p : Int) + 1))) := (Keep.refl rb w5).setCell ⟨rb, 1, none⟩ rfl _
          have H6 : Hid (Keep rb w (w5.setCell ⟨rb, 1, none⟩ (.int .i64 ((p : Int) + 1))) ∧ Wk rb s (p + 1) m (0, 0) (w5.setCell ⟨rb, 1, none⟩ (.int .i64 ((p : Int) + 1))) ∧ Six w.heap.size (w5.setCell ⟨rb, 1, none⟩ (.int .i64 ((p : Int) + 1))) ∧ Dk w2.heap.size v (w5.setCell ⟨rb, 1, none⟩ (.int .i64 ((p : Int) + 1))) ∧ Row (w2.heap.size + 1) v es (w5.setCell ⟨rb, 1, none⟩ (.int .i64 ((p : Int) + 1)))) :=
            ⟨H5.out.1.trans hkm, H5.out.2.1.move (p + 1) _ (by omega), H5.out.2.2.1.keep hkm hN, H5.out.2.2.2.1.keep hkm (by omega), H5.out.2.2.2.2.keep hkm (by omega)⟩
          clear hkm H5
          obtain ⟨a', cap', f', hv, hdw⟩ := H6.out.2.2.2.2.lie (by have := HL.out.few; have := HL.out.mle; omega)
          subst hv
          have HDW : Hid _ := hdw
          clear hdw
          obtain ⟨x0, x1, x2, x3, x4, x5, x6, x7⟩ := H6.out.2.2.1
          obtain ⟨y0, y1, y2, y3, y4, y5, y6, y7⟩ := H6.out.2.2.2.1
          go_wp2_with fail
          refine bodyPost_ret (v := dv (datList (es.map (·.1))) a' cap') (by simp [results, Tryd.results23, go_sem, dv, datList, x1, x2, x3, x4, x5, x6]) rfl ?_
          rw [HQ.out]
          refine ⟨keep_six H6.out.1 (Nat.le_refl _) _ _ _ _ _ _, H6.out.2.1.six hN _ _ _ _ _ _, a', cap', f', rfl, ?_⟩
          refine Dw.stay ?_ ?_ f' _ _ HDW.out
          · intro b hb
            have hb1 := hb.1
            exact (six_heap _ _ _ _ _ _ _ _).1 b (by omega)
          · intro b hb
            have hb1 := hb.1
            have hb2 := hb.2
            exact ⟨by omega, by rw [(six_heap _ _ _ _ _ _ _ _).2]; exact hb2⟩
        · have e41 : ((s[p].toNat : Int) == 41) = false := by rw [show ((41 : Int)) = ((41 : UInt8).toNat : Int) from rfl, byte_is]; simpa using h41
          have HC : Hid (s[p] ≠ 41) := h41
          clear h41
          have hwr : IntKind.i64.wrap (dp + 1) = dp + 1 := by rw [IntKind.wrap_i64]; omega
          have q5 := H5.out.2.2.2.1.q5
          have hmm := HL.out.mle
          have hff := HL.out.few
          cases ho : one l f p m with
          | inl x =>
            have ONE : Hid (∀ w, Wk rb s p m (0, 0) w → Calls Tryd.prog 23 #[.pointer (some ⟨rb, 0, none⟩), .int .i64 (dp + 1)] w fun e w' => Keep rb w w' ∧ ∃ (d : Dat) (a : Option Addr) (cap : Nat), e = .returned (dv d a cap) ∧ ∃ j m, j ≤ s.size ∧ Wk rb s j m x w') := fun w h => by
              have := IH.out p m w h (by omega) hmm
              rw [ho] at this
              exact this
            have HXN : Hid (x.1 ≠ 0) := one_fault l f p m x ho
            have HQ : Hid (items (one l f) l (l.length + 1) (i + 1) (n + 1) = .inl x) := by
              show items (one l f) l (l.length + 1) (i + 1) (n + 1) = .inl x
              rw [HL.out.same, HK.out, items_bad HP.out HAT.out HC.out ho]
              rfl
            clear ho
            go_wp2_with fail
            go_region_law (first
              | (refine step_append_lies _ rfl (.tmp 91) (.tmp 96) 22 rfl (w2.heap.size + 1) 46 i0 _ 6 72 Tryd.underlying22 hinf hz0 hz1' hz2' rfl (by decide) v es.length (flat es) rfl (by exact H6.out.2.2.2.2.1.own.alloc _) ⟨w6.heap.size, 0, none⟩ 1 1 [.int .i64 d.kind, .int .i64 d.n, .string d.name, .int .i64 d.stamp, .int .i64 d.lib, .slice a' d.kids.length cap'] rfl rfl (by exact six_news w6 _ _ _ _ _ _) (by exact six_one _ _ _ _ _ _ _ _) (by decide) (by unfold maxLen; omega) (by omega) (by have := H6.out.2.2.2.1.lt; simp; omega) (w6.heap.size + 1) (by simp) ?_; intro g cap w7 hown hgrow hat hlt7; have D7 : Dk w2.heap.size v w7 := (H6.out.2.2.2.1.alloc _).grown hgrow (fun e => (by have := (H6.out.2.2.2.2.1.own.lt w2.heap.size e.symm).1; omega)); have q7 := D7.q5; have z7 := D7.z 5)
              | (go_simp; go_at_call 23; refine (ONE.out _ (by exact H5.out.2.1.drew)).mono ?_; rintro e w6 ⟨hk6, d, a', cap', rfl, j', m', hj', hr6⟩; have H6 : Hid (Keep rb w w6 ∧ Wk rb s j' m' x w6 ∧ Six w.heap.size w6 ∧ Dk w2.heap.size v w6 ∧ Row (w2.heap.size + 1) v es w6 ∧ w5.heap.size ≤ w6.heap.size) := ⟨(H5.out.1.drew).trans hk6, hr6, (H5.out.2.2.1.after (Below.drew (Below.refl _ _))).keep hk6 hN, (H5.out.2.2.2.1.after (Below.drew (Below.refl _ _))).keep hk6 (by omega), (H5.out.2.2.2.2.below (Below.drew (Below.refl _ _))).keep hk6 (by omega), hk6.size⟩; have q6 := H6.out.2.2.2.1.q5; have q6a := Lib.cell?_alloc_marked (Obj.cells #[.int .i64 d.kind, .int .i64 d.n, .string d.name, .int .i64 d.stamp, .int .i64 d.lib, .slice a' d.kids.length cap'] 46) q6; clear hk6 hr6; unfold dv; dsimp only))
            all_goals
              have hdb5 := H5.out.2.2.2.1.lt
              have hrow : ∀ k, v.ownBlock = some k → w2.heap.size + 1 ≤ k := fun k hk => (H6.out.2.2.2.2.1.own.lt k hk).1
              have hkd : Keep w2.heap.size w7 (w7.setCell ⟨w2.heap.size, 5, none⟩ (.slice (some ⟨g, 0, none⟩) (es.length + 1) cap)) := (Keep.refl _ w7).setCell ⟨w2.heap.size, 5, none⟩ rfl _
              have H8 : Hid (Lx l s f rb w.heap.size w2.heap.size w i (n + 1) (w7.setCell ⟨w2.heap.size, 5, none⟩ (.slice (some ⟨g, 0, none⟩) (es.length + 1) cap)) x j' m' (some ⟨g, 0, none⟩) (es.length + 1) cap) := by
                refine ⟨hj', HXN.out, ?_, ?_, ?_, D7.set _, HQ.out⟩
                · exact ((H6.out.1.alloc _).grown hgrow (fun k hk => by have := hrow k hk; omega)).setNew _ (by show w.heap.size ≤ w2.heap.size; omega) _
                · refine ((H6.out.2.1.alloc _).grown hgrow ?_).put _ (by show w2.heap.size ≠ rb; omega) _
                  intro e
                  have := hrow rb e.symm
                  omega
                · refine ((H6.out.2.2.1.alloc _).grown hgrow ?_).keep hkd (by omega)
                  intro e
                  have := hrow w.heap.size e.symm
                  omega
              clear hown hgrow hat hlt7 D7 q7 z7 hrow hkd H6 ONE
              go_wp2_with fail
              go_roundg 0
              case measure => omega
              case rel => exact Or.inr ⟨_, _, _, _, _, _, rfl, H8.out⟩
          | inr y =>
            obtain ⟨d, j', m'⟩ := y
            have ONE : Hid (∀ w, Wk rb s p m (0, 0) w → Calls Tryd.prog 23 #[.pointer (some ⟨rb, 0, none⟩), .int .i64 (dp + 1)] w fun e w' => Keep rb w w' ∧ Wk rb s j' m' (0, 0) w' ∧ ∃ a cap f, e = .returned (dv d a cap) ∧ Dw (New w w') w' f a d.kids) := fun w h => by
              have := IH.out p m w h (by omega) hmm
              rw [ho] at this
              exact this
            have hw := one_went l f p m d j' m' (by rw [HLEN.out]; omega) hmm ho
            have HWT : Hid (Went l p m j' m' d) := hw
            have HQ : Hid (items (one l f) l (l.length + 1) (i + 1) (n + 1) = pre (es.map (·.1) ++ [d]) (items (one l f) l k' j' m')) := by
              show items (one l f) l (l.length + 1) (i + 1) (n + 1) = pre (es.map (·.1) ++ [d]) (items (one l f) l k' j' m')
              rw [HL.out.same, HK.out, items_step HP.out HAT.out HC.out ho, pre_pre]
            clear hw ho
            go_wp2_with fail
            go_region_law (first
              | (refine step_append_lies _ rfl (.tmp 91) (.tmp 96) 22 rfl (w2.heap.size + 1) 46 i0 _ 6 72 Tryd.underlying22 hinf hz0 hz1' hz2' rfl (by decide) v es.length (flat es) rfl (by exact H6.out.2.2.2.2.1.own.alloc _) ⟨w6.heap.size, 0, none⟩ 1 1 [.int .i64 d.kind, .int .i64 d.n, .string d.name, .int .i64 d.stamp, .int .i64 d.lib, .slice a' d.kids.length cap'] rfl rfl (by exact six_news w6 _ _ _ _ _ _) (by exact six_one _ _ _ _ _ _ _ _) (by decide) (by unfold maxLen; omega) (by omega) (by have := H6.out.2.2.2.1.lt; simp; omega) (w6.heap.size + 1) (by simp) ?_; intro g cap w7 hown hgrow hat hlt7; have D7 : Dk w2.heap.size v w7 := (H6.out.2.2.2.1.alloc _).grown hgrow (fun e => (by have := (H6.out.2.2.2.2.1.own.lt w2.heap.size e.symm).1; omega)); have q7 := D7.q5; have z7 := D7.z 5)
              | (go_simp; go_at_call 23; refine (ONE.out _ (by exact H5.out.2.1.drew)).mono ?_; rintro e w6 ⟨hk6, hr6, a', cap', f', rfl, hdw⟩; have H6 : Hid (Keep rb w w6 ∧ Wk rb s j' m' (0, 0) w6 ∧ Six w.heap.size w6 ∧ Dk w2.heap.size v w6 ∧ Row (w2.heap.size + 1) v es w6 ∧ Dw (New w5 w6) w6 f' a' d.kids ∧ w5.heap.size ≤ w6.heap.size) := ⟨(H5.out.1.drew).trans hk6, hr6, (H5.out.2.2.1.after (Below.drew (Below.refl _ _))).keep hk6 hN, (H5.out.2.2.2.1.after (Below.drew (Below.refl _ _))).keep hk6 (by omega), (H5.out.2.2.2.2.below (Below.drew (Below.refl _ _))).keep hk6 (by omega), hdw, hk6.size⟩; have q6 := H6.out.2.2.2.1.q5; have q6a := Lib.cell?_alloc_marked (Obj.cells #[.int .i64 d.kind, .int .i64 d.n, .string d.name, .int .i64 d.stamp, .int .i64 d.lib, .slice a' d.kids.length cap'] 46) q6; clear hk6 hr6 hdw; unfold dv; dsimp only))
            all_goals
              have hdb5 := H5.out.2.2.2.1.lt
              have HROW : Row (w2.heap.size + 1) (.slice (some ⟨g, 0, none⟩) (es.length + 1) cap) (es ++ [(d, a', cap')]) w7 := by
                refine Row.push (wr := w5) (w := w6) _ H6.out.2.2.2.2.1 (by omega) (fun k hk => (H5.out.2.2.2.2.own.lt k hk).2) H6.out.2.2.2.2.2.1 (by have := HWT.out.name; unfold maxLen; omega) hown hgrow ?_
                rcases hat with h | h
                · exact Or.inl h.symm
                · exact Or.inr (by rw [h]; rfl)
              have hrow : ∀ k, v.ownBlock = some k → w2.heap.size + 1 ≤ k := fun k hk => (H6.out.2.2.2.2.1.own.lt k hk).1
              have hkd : Keep w2.heap.size w7 (w7.setCell ⟨w2.heap.size, 5, none⟩ (.slice (some ⟨g, 0, none⟩) (es.length + 1) cap)) := (Keep.refl _ w7).setCell ⟨w2.heap.size, 5, none⟩ rfl _
              have H8 : Hid (Lw l s f rb w.heap.size w2.heap.size w i (n + 1) (w7.setCell ⟨w2.heap.size, 5, none⟩ (.slice (some ⟨g, 0, none⟩) (es.length + 1) cap)) (.slice (some ⟨g, 0, none⟩) (es.length + 1) cap) (es ++ [(d, a', cap')]) j' k' m') := by
                have hup := HWT.out.upto
                have hfu := HL.out.fuel
                have hkk := HK.out
                have hon := HWT.out.on
                have hmo := HWT.out.more
                refine ⟨hup, HWT.out.much, by simp; omega, by omega, ?_, ?_, ?_, D7.set _, HROW.keep hkd (by omega), by rw [HQ.out]; simp⟩
                · exact ((H6.out.1.alloc _).grown hgrow (fun k hk => by have := hrow k hk; omega)).setNew _ (by show w.heap.size ≤ w2.heap.size; omega) _
                · refine ((H6.out.2.1.alloc _).grown hgrow ?_).put _ (by show w2.heap.size ≠ rb; omega) _
                  intro e
                  have := hrow rb e.symm
                  omega
                · refine ((H6.out.2.2.1.alloc _).grown hgrow ?_).keep hkd (by omega)
                  intro e
                  have := hrow w.heap.size e.symm
                  omega
              have hjj : j < j' ∧ j' ≤ s.size := ⟨by have := HWT.out.on; omega, by have := HWT.out.upto; rw [HLEN.out] at this; exact this⟩
              clear hown hgrow hat hlt7 D7 q7 z7 hrow hkd HROW H6 ONE
              go_wp2_with fail
              go_roundg (s.size - j' + 1)
              case measure => omega
              case rel => exact Or.inl ⟨_, _, _, _, _, rfl, H8.out⟩
      · obtain rfl : p = s.size := by omega
        have HQ : Hid (items (one l f) l (l.length + 1) (i + 1) (n + 1) = .inl (2, (s.size : Int))) := by
          show items (one l f) l (l.length + 1) (i + 1) (n + 1) = .inl (2, (s.size : Int))
          rw [HL.out.same, HK.out, items_none HP.out (by rw [List.getElem?_eq_none (by rw [HLEN.out]; exact Nat.le_refl _)])]
          rfl
        go_wp2_with fail
        go_quiet (fail)
        have HB : Below w3.heap.size w3 (w3.drewN nq) := below_drewN (Below.refl _ _) nq
        have H4 : Hid (Keep rb w (w3.drewN nq) ∧ Wk rb s s.size m (0, 0) (w3.drewN nq) ∧ Six w.heap.size (w3.drewN nq) ∧ Dk w2.heap.size v (w3.drewN nq) ∧ Row (w2.heap.size + 1) v es (w3.drewN nq)) := ⟨H3.out.1.below HB, H3.out.2.1.below HB, H3.out.2.2.1.after HB, H3.out.2.2.2.1.after HB, H3.out.2.2.2.2.below HB⟩
        clear HB H3 c0 c1
        generalize w3.drewN nq = w4 at H4 ⊢
        have c0 := H4.out.2.1.c0
        have c1 := H4.out.2.1.c1
        go_wp2_with fail
        refine (stop_any rb s s.size m 2 s.size _ H4.out.2.1).mono ?_
        rintro e w5 ⟨rfl, hk5, hr5⟩
        obtain ⟨ao, ln, cp, hv⟩ : ∃ ao ln cp, v = .slice ao ln cp := by
          rcases H4.out.2.2.2.2.own.2 with ⟨hv, _⟩ | ⟨gg, cap, cur, hv, _⟩
          · exact ⟨_, _, _, hv⟩
          · exact ⟨_, _, _, hv⟩
        subst hv
        have H5 : Hid (Lx l s f rb w.heap.size w2.heap.size w i (n + 1) w5 (2, (s.size : Int)) s.size m ao ln cp) := ⟨Nat.le_refl _, by simp, H4.out.1.trans hk5, hr5, H4.out.2.2.1.keep hk5 hN, H4.out.2.2.2.1.keep hk5 (by omega), HQ.out⟩
        clear hk5 hr5 H4 c0 c1
        go_wp2_with fail
        go_roundg 0
        case measure => omega
        case rel => exact Or.inr ⟨_, _, _, _, _, _, rfl, H5.out⟩
    · have HL : Hid (Lx l s f rb w.heap.size w2.heap.size w i (n + 1) wr x j m ao ln cp) := hX
      clear hX
      go_wp2_with fail
      refine (good_no rb s j m x _ HL.out.wk HL.out.bad).mono ?_
      rintro e w3 ⟨rfl, rfl⟩
      obtain ⟨x0, x1, x2, x3, x4, x5, x6, x7⟩ := HL.out.six
      obtain ⟨y0, y1, y2, y3, y4, y5, y6, y7⟩ := HL.out.dk
      go_wp2_with fail
      refine bodyPost_ret (v := dv ⟨4, 0, ⟨#[]⟩, 0, 0, List.replicate ln dat0⟩ ao cp) (by simp [results, Tryd.results23, go_sem, dv, x1, x2, x3, x4, x5, x6]) rfl ?_
      rw [HL.out.same]
      exact ⟨keep_six HL.out.keep (Nat.le_refl _) _ _ _ _ _ _, _, ao, cp, rfl, j, m, HL.out.jle, HL.out.wk.six hN _ _ _ _ _ _⟩
end Go.Proofs.YtagpcafbeplccaaDoor
