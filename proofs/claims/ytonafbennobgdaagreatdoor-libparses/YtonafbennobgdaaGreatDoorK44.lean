/- The document's reader: One, lists. -/
import Derived.Deep.AppendLies
import Derived.Deep.RegionLaw
import Derived.Test.YtonafbennobgdaaGreatDoorK42
import Derived.Test.YtonafbennobgdaaGreatDoorK43
namespace Go.Proofs.YtonafbennobgdaaGreatDoor.R1
set_option linter.unusedVariables false
set_option linter.unusedSimpArgs false
open Go.RowKit
set_option maxRecDepth 100000
set_option maxHeartbeats 3200000
structure Dk (db : Nat) (v : Value) (w : World) : Prop where
 lt : db < w.heap.size
 q0 : w.cell? ⟨db, 0, none⟩ = some (.int .i64 4)
 q1 : w.cell? ⟨db, 1, none⟩ = some (.int .i64 0)
 q2 : w.cell? ⟨db, 2, none⟩ = some (.string ⟨#[]⟩)
 q3 : w.cell? ⟨db, 3, none⟩ = some (.int .i64 0)
 q4 : w.cell? ⟨db, 4, none⟩ = some (.int .i64 0)
 q5 : w.cell? ⟨db, 5, none⟩ = some v
 z : ∀ j, w.frozen? ⟨db, j, none⟩ = false
theorem Dk.of {db : Nat} {v : Value} {w w' : World} (h : Dk db v w) (hs : w.heap.size ≤ w'.heap.size) (hb : w'.heap[db]? = w.heap[db]?) : Dk db v w' := by
 have e : ∀ q, w'.cell? ⟨db, q, none⟩ = w.cell? ⟨db, q, none⟩ := fun q => World.cell?_of_block hb
 have z : ∀ q, w'.frozen? ⟨db, q, none⟩ = w.frozen? ⟨db, q, none⟩ := fun q => World.frozen?_of_block hb
 exact ⟨Nat.lt_of_lt_of_le h.lt hs, (e _).trans h.q0, (e _).trans h.q1, (e _).trans h.q2, (e _).trans h.q3, (e _).trans h.q4, (e _).trans h.q5, fun j => (z _).trans (h.z j)⟩
theorem Dk.after {db : Nat} {v : Value} {w w' : World} (h : Dk db v w) (hb : Below w.heap.size w w') : Dk db v w' := h.of hb.size (hb.block db h.lt)
theorem Dk.keep {db c : Nat} {v : Value} {w w' : World} (h : Dk db v w) (hb : Keep c w w') (hc : db ≠ c) : Dk db v w' := h.of hb.size (hb.block db h.lt (by simpa using hc))
theorem Dk.alloc {db : Nat} {v : Value} {w : World} (h : Dk db v w) (o : Obj) : Dk db v (w.alloc o) := h.after ((Below.refl _ _).alloc (Nat.le_refl _) _)
theorem Dk.grown {db : Nat} {v : Value} {w w' : World} {row : Option Nat} (h : Dk db v w) (hg : w.grownBy w' row) (hr : some db ≠ row) : Dk db v w' := h.of hg.size (hg.block db h.lt hr)
theorem Dk.made (w : World) : Dk w.heap.size (.slice none 0 0) (w.alloc (.cells #[.int .i64 4, .int .i64 0, .string ⟨#[]⟩, .int .i64 0, .int .i64 0, .slice none 0 0] 26)) := by
 have q : ∀ j, (w.alloc (.cells #[.int .i64 4, .int .i64 0, .string ⟨#[]⟩, .int .i64 0, .int .i64 0, .slice none 0 0] 26)).cell? ⟨w.heap.size, j, none⟩ = _ := fun j => World.cell?_alloc_mark w _ 26 (0, 0) j
 exact ⟨by simp, q 0, q 1, q 2, q 3, q 4, q 5, fun j => by go_simp⟩
theorem Dk.set {db : Nat} {v : Value} {w : World} (h : Dk db v w) (v' : Value) : Dk db v' (w.setCell ⟨db, 5, none⟩ v') := by
 have e : ∀ o, o ≠ 5 → (w.setCell ⟨db, 5, none⟩ v').cell? ⟨db, o, none⟩ = w.cell? ⟨db, o, none⟩ := fun o ho => World.cell?_setCell_other _ _ _ _ (by simp [ho])
 exact ⟨by simp [World.setCell]; exact h.lt, (e 0 (by omega)).trans h.q0, (e 1 (by omega)).trans h.q1, (e 2 (by omega)).trans h.q2, (e 3 (by omega)).trans h.q3, (e 4 (by omega)).trans h.q4, World.cell?_setCell_same _ _ _ h.q5, fun j => by rw [World.frozen?_setCell]; exact h.z j⟩
theorem Wk.grown {rb : Nat} {s : ByteArray} {i n : Nat} {x : Int × Int} {w w' : World} {row : Option Nat} (h : Wk rb s i n x w) (hg : w.grownBy w' row) (hr : some rb ≠ row) : Wk rb s i n x w' := by
 have e : ∀ q, w'.cell? ⟨rb, q, none⟩ = w.cell? ⟨rb, q, none⟩ := fun q => World.cell?_of_block (hg.block rb h.lt hr)
 have z : ∀ q, w'.frozen? ⟨rb, q, none⟩ = w.frozen? ⟨rb, q, none⟩ := fun q => World.frozen?_of_block (hg.block rb h.lt hr)
 exact ⟨Nat.lt_of_lt_of_le h.lt hg.size, (e _).trans h.c0, (e _).trans h.c1, (e _).trans h.c2, (e _).trans h.c3, (e _).trans h.c4, fun o => (z _).trans (h.z o)⟩
theorem six_news (w : World) (k n : Int) (nm : ByteArray) (st lb : Int) (sl : Value) : ∀ (q : Nat) (u : Value), ([.int .i64 k, .int .i64 n, .string nm, .int .i64 st, .int .i64 lb, sl] : List Value)[q]? = some u → (w.alloc (.cells #[.int .i64 k, .int .i64 n, .string nm, .int .i64 st, .int .i64 lb, sl] 26)).cell? ((⟨w.heap.size, 0, none⟩ : Addr).add q) = some u := by
 intro q u hq
 have hcell := World.cell?_alloc_mark w #[.int .i64 k, .int .i64 n, .string nm, .int .i64 st, .int .i64 lb, sl] 26 (0, 0) q
 have hadd : (⟨w.heap.size, 0, none⟩ : Addr).add q = ⟨w.heap.size, q, none⟩ := by unfold Addr.add; split <;> simp_all
 rw [hadd, hcell]
 simpa using hq
theorem six_one (k n : Int) (nm : ByteArray) (st lb : Int) (a : Option Addr) (ln : Nat) (cap : Nat) : ∀ u ∈ ([.int .i64 k, .int .i64 n, .string nm, .int .i64 st, .int .i64 lb, .slice a ln cap] : List Value), u.oneCell' = true := by
 intro u hu
 simp at hu
 rcases hu with rfl | rfl | rfl | rfl | rfl | rfl <;> rfl
structure Lw (l : List UInt8) (s : ByteArray) (f rb N db : Nat) (w : World) (i n : Nat) (wr : World) (v : Value) (es : List (Dat × Option Addr × Nat)) (j k m : Nat) : Prop where
 jle : j ≤ l.length
 mle : m ≤ 2000
 few : es.length ≤ m
 fuel : l.length + 2 ≤ j + k
 keep : Keep rb w wr
 wk : Wk rb s j m (0, 0) wr
 six : Six N wr
 dk : Dk db v wr
 row : Row (db + 1) v es wr
 same : items (one l f) l (l.length + 1) (i + 1) n = pre (es.map (·.1)) (items (one l f) l k j m)
structure Lx (l : List UInt8) (s : ByteArray) (f rb N db : Nat) (w : World) (i n : Nat) (wr : World) (x : Int × Int) (j m : Nat) (ao : Option Addr) (ln cp : Nat) : Prop where
 jle : j ≤ s.size
 bad : x.1 ≠ 0
 keep : Keep rb w wr
 wk : Wk rb s j m x wr
 six : Six N wr
 dk : Dk db (.slice ao ln cp) wr
 same : items (one l f) l (l.length + 1) (i + 1) n = .inl x
set_option maxRecDepth 100000 in
set_option maxHeartbeats 3200000 in
theorem One_list (rb : Nat) (s : ByteArray) (i n : Nat) (dp : Int) (w : World) (h : Wk rb s i n (0, 0) w) (hi : i < s.size) (hs : s.size ≤ 6000) (hn : n ≤ 1999) (hd : dp ≤ 40) (h40 : s[i] = 40) (hd0 : 0 ≤ dp) (f : Nat)
 (ih : ∀ (i n : Nat) (w : World), Wk rb s i n (0, 0) w → i ≤ s.size → n ≤ 2000 → Calls Tryz.prog 85 #[.pointer (some ⟨rb, 0, none⟩), .int .i64 (dp + 1)] w (OutW rb s (one s.data.toList f i n) w)) :
 Calls Tryz.prog 85 #[.pointer (some ⟨rb, 0, none⟩), .int .i64 dp] w (OutW rb s (asList (items (one s.data.toList f) s.data.toList (s.data.toList.length + 1) (i + 1) (n + 1))) w) := by
 have e40 : ((s[i].toNat : Int) == 40) = true := by rw [h40]; rfl
 clear h40
 have IH : Hid (∀ (i n : Nat) (w : World), Wk rb s i n (0, 0) w → i ≤ s.size → n ≤ 2000 → Calls Tryz.prog 85 #[.pointer (some ⟨rb, 0, none⟩), .int .i64 (dp + 1)] w (OutW rb s (one s.data.toList f i n) w)) := ih
 have HLEN : Hid (s.data.toList.length = s.size) := Array.length_toList
 clear ih
 obtain ⟨l, hl⟩ : ∃ l, l = s.data.toList := ⟨_, rfl⟩
 have HLL : Hid (l = s.data.toList) := hl
 rw [← hl] at IH HLEN ⊢
 clear hl
 obtain ⟨i0, hinf, hz0, hz1', hz2'⟩ := info_parts infoDatT
 have HR : Hid (Wk rb s i n (0, 0) w) := h
 have c1 := h.c1
 have l1 := h.lt
 have hN : w.heap.size ≠ rb := Nat.ne_of_gt l1
 clear h
 go_enter Tryz.func85, Tryz.ntmps85
 go_wp2_with fail
 refine (rcount_ok rb s i n dp i _ (HR.out.alloc _) hn hd).mono ?_
 rintro e w1 ⟨rfl, hk1, hr1⟩
 have H1 : Hid (Hd rb s i (n + 1) w w1) := ⟨((Keep.refl rb w).alloc _).trans hk1, hr1, (Six.made w).keep hk1 hN⟩
 clear hk1 hr1 c1 HR
 go_wp2_with fail
 refine (good_yes rb s i (n + 1) _ H1.out.wk).mono ?_
 rintro e w2 ⟨rfl, rfl⟩
 have c0 := H1.out.wk.c0
 have c1 := H1.out.wk.c1
 have z1 := H1.out.wk.z 1
 have hz2 := H1.out.keep.size
 have hN2 := H1.out.six.lt
 have hrb2 := H1.out.wk.lt
 have START : Hid (Lw l s f rb w.heap.size w2.heap.size w i (n + 1) ((w2.setCell ⟨rb, 1, none⟩ (.int .i64 ((i : Int) + 1))).alloc (.cells #[.int .i64 4, .int .i64 0, .string ⟨#[]⟩, .int .i64 0, .int .i64 0, .slice none 0 0] 26)) (.slice none 0 0) [] (i + 1) (l.length + 1) (n + 1)) := by
  have hm := H1.out.move hN (i + 1) ((i : Int) + 1) (by omega)
  have hsz : (w2.setCell ⟨rb, 1, none⟩ (.int .i64 ((i : Int) + 1))).heap.size = w2.heap.size := by simp
  have hdk := Dk.made (w2.setCell ⟨rb, 1, none⟩ (.int .i64 ((i : Int) + 1)))
  rw [hsz] at hdk
  exact ⟨by rw [HLEN.out]; omega, by omega, by simp, by omega, hm.keep.alloc _, hm.wk.alloc _, hm.six.alloc _, hdk, Row.nil _ _, (pre_nil _).symm⟩
 go_wp2_with fail
 clear H1 c0 c1 z1
 rw [show decide (s.size ≤ i) = false from decide_eq_false (by omega)]
 go_loopg [] (s.size - (i + 1) + 1) (fun g wr => (∃ v es j k m, g = s.size - j + 1 ∧ Lw l s f rb w.heap.size w2.heap.size w i (n + 1) wr v es j k m) ∨ (∃ x j m ao ln cp, g = 0 ∧ Lx l s f rb w.heap.size w2.heap.size w i (n + 1) wr x j m ao ln cp))
 case atStart => exact Or.inl ⟨_, _, _, _, _, rfl, START.out⟩
 clear START
 rcases hrel with ⟨v, es, j, k, m, rfl, hL⟩ | ⟨x, j, m, ao, ln, cp, rfl, hX⟩
 ·have HL : Hid (Lw l s f rb w.heap.size w2.heap.size w i (n + 1) wr v es j k m) := hL
  have hjl : j ≤ s.size := by rw [← HLEN.out]; exact hL.jle
  have hdbr := hL.dk.lt
  clear hL
  obtain ⟨k', hk'⟩ : ∃ k', k = k' + 1 := ⟨k - 1, by have := HL.out.fuel; have := HL.out.jle; omega⟩
  have HK : Hid (k = k' + 1) := hk'
  clear hk'
  go_wp2_with fail
  refine (good_yes rb s j m _ HL.out.wk).mono ?_
  rintro e w3 ⟨rfl, rfl⟩
  go_wp2_with fail
  refine (rskip_any rb s j m (0, 0) _ HL.out.wk hjl hs).mono ?_
  rintro e w3 ⟨rfl, hk3, hr3⟩
  rw [← HLL.out] at hr3
  have hpl := skip_le l j HL.out.jle
  rw [HLEN.out] at hpl
  obtain ⟨p, HP⟩ : ∃ p, Hid (p = j + skipL (l.drop j) false) := ⟨_, rfl⟩
  rw [← HP.out] at hr3 hpl
  have hjp : j ≤ p := by have := HP.out; omega
  have H3 : Hid (Keep rb w w3 ∧ Wk rb s p m (0, 0) w3 ∧ Six w.heap.size w3 ∧ Dk w2.heap.size v w3 ∧ Row (w2.heap.size + 1) v es w3) := ⟨HL.out.keep.trans hk3, hr3, HL.out.six.keep hk3 hN, HL.out.dk.keep hk3 (by omega), HL.out.row.keep hk3 (by omega)⟩
  have c0 := hr3.c0
  have c1 := hr3.c1
  clear hk3 hr3
  by_cases hlt : p < s.size
  rotate_left
  ·obtain rfl : p = s.size := by omega
   have HQ : Hid (items (one l f) l (l.length + 1) (i + 1) (n + 1) = .inl (2, (s.size : Int))) := by
    show items (one l f) l (l.length + 1) (i + 1) (n + 1) = .inl (2, (s.size : Int))
    rw [HL.out.same, HK.out, items_none HP.out (by rw [List.getElem?_eq_none (by rw [HLEN.out]; exact Nat.le_refl _)])]
    rfl
   go_wp2_with fail
   go_quiet (fail)
   have HB : Below w3.heap.size w3 (w3.drewN nq) := below_drewN (Below.refl _ _) nq
   have H4 : Hid (Keep rb w (w3.drewN nq) ∧ Wk rb s s.size m (0, 0) (w3.drewN nq) ∧ Six w.heap.size (w3.drewN nq) ∧ Dk w2.heap.size v (w3.drewN nq) ∧ Row (w2.heap.size + 1) v es (w3.drewN nq)) := ⟨H3.out.1.below HB, H3.out.2.1.below HB, H3.out.2.2.1.after HB, H3.out.2.2.2.1.after HB, H3.out.2.2.2.2.below HB⟩
   clear HB H3 c0 c1
   generalize w3.drewN nq = w4 at H4 ⊢
   have c0 := H4.out.2.1.c0
   have c1 := H4.out.2.1.c1
   go_wp2_with fail
   refine (stop_any rb s s.size m 2 s.size _ H4.out.2.1).mono ?_
   rintro e w5 ⟨rfl, hk5, hr5⟩
   obtain ⟨ao, ln, cp, hv⟩ : ∃ ao ln cp, v = .slice ao ln cp := by
    rcases H4.out.2.2.2.2.own.2 with ⟨hv, _⟩ | ⟨gg, cap, cur, hv, _⟩
    ·exact ⟨_, _, _, hv⟩
    exact ⟨_, _, _, hv⟩
   subst hv
   have H5 : Hid (Lx l s f rb w.heap.size w2.heap.size w i (n + 1) w5 (2, (s.size : Int)) s.size m ao ln cp) := ⟨Nat.le_refl _, by simp, H4.out.1.trans hk5, hr5, H4.out.2.2.1.keep hk5 hN, H4.out.2.2.2.1.keep hk5 (by omega), HQ.out⟩
   clear hk5 hr5 H4 c0 c1
   go_wp2_with fail
   go_roundg 0
   case measure => omega
   case rel => exact Or.inr ⟨_, _, _, _, _, _, rfl, H5.out⟩
  have HAT : Hid (l[p]? = some s[p]) := by rw [HLL.out]; exact at_of hlt
  go_wp2_with fail
  go_quiet (fail)
  have HB : Below w3.heap.size w3 (w3.drewN nq) := below_drewN (Below.refl _ _) nq
  have H4 : Hid (Keep rb w (w3.drewN nq) ∧ Wk rb s p m (0, 0) (w3.drewN nq) ∧ Six w.heap.size (w3.drewN nq) ∧ Dk w2.heap.size v (w3.drewN nq) ∧ Row (w2.heap.size + 1) v es (w3.drewN nq)) := ⟨H3.out.1.below HB, H3.out.2.1.below HB, H3.out.2.2.1.after HB, H3.out.2.2.2.1.after HB, H3.out.2.2.2.2.below HB⟩
  clear HB H3 c0 c1
  generalize w3.drewN nq = w4 at H4 ⊢
  have c0 := H4.out.2.1.c0
  have c1 := H4.out.2.1.c1
  go_wp2_with fail
  go_quiet (fail)
  have HB : Below w4.heap.size w4 (w4.drewN nq) := below_drewN (Below.refl _ _) nq
  have H5 : Hid (Keep rb w (w4.drewN nq) ∧ Wk rb s p m (0, 0) (w4.drewN nq) ∧ Six w.heap.size (w4.drewN nq) ∧ Dk w2.heap.size v (w4.drewN nq) ∧ Row (w2.heap.size + 1) v es (w4.drewN nq)) := ⟨H4.out.1.below HB, H4.out.2.1.below HB, H4.out.2.2.1.after HB, H4.out.2.2.2.1.after HB, H4.out.2.2.2.2.below HB⟩
  clear HB H4 c0 c1
  generalize w4.drewN nq = w5 at H5 ⊢
  have c0 := H5.out.2.1.c0
  have c1 := H5.out.2.1.c1
  have z1 := H5.out.2.1.z 1
  by_cases h41 : s[p] = 41
  ·have e41 : ((s[p].toNat : Int) == 41) = true := by rw [h41]; rfl
   have HQ : Hid (items (one l f) l (l.length + 1) (i + 1) (n + 1) = .inr (es.map (·.1), p + 1, m)) := by
    have h1 := HAT.out
    rw [h41] at h1
    show items (one l f) l (l.length + 1) (i + 1) (n + 1) = .inr (es.map (·.1), p + 1, m)
    rw [HL.out.same, HK.out, items_close HP.out h1]
    simp [pre]
   clear h41
   have hkm : Keep rb w5 (w5.setCell ⟨rb, 1, none⟩ (.int .i64 ((p : Int) + 1))) := (Keep.refl rb w5).setCell ⟨rb, 1, none⟩ rfl _
   have H6 : Hid (Keep rb w (w5.setCell ⟨rb, 1, none⟩ (.int .i64 ((p : Int) + 1))) ∧ Wk rb s (p + 1) m (0, 0) (w5.setCell ⟨rb, 1, none⟩ (.int .i64 ((p : Int) + 1))) ∧ Six w.heap.size (w5.setCell ⟨rb, 1, none⟩ (.int .i64 ((p : Int) + 1))) ∧ Dk w2.heap.size v (w5.setCell ⟨rb, 1, none⟩ (.int .i64 ((p : Int) + 1))) ∧ Row (w2.heap.size + 1) v es (w5.setCell ⟨rb, 1, none⟩ (.int .i64 ((p : Int) + 1)))) :=
    ⟨H5.out.1.trans hkm, H5.out.2.1.move (p + 1) _ (by omega), H5.out.2.2.1.keep hkm hN, H5.out.2.2.2.1.keep hkm (by omega), H5.out.2.2.2.2.keep hkm (by omega)⟩
   clear hkm H5
   obtain ⟨a', cap', f', hv, hdw⟩ := H6.out.2.2.2.2.lie (by have := HL.out.few; have := HL.out.mle; omega)
   subst hv
   have HDW : Hid _ := hdw
   clear hdw
   obtain ⟨x0, x1, x2, x3, x4, x5, x6, x7⟩ := H6.out.2.2.1
   obtain ⟨y0, y1, y2, y3, y4, y5, y6, y7⟩ := H6.out.2.2.2.1
   go_wp2_with fail
   refine bodyPost_ret (v := dv (datList (es.map (·.1))) a' cap') (by simp [results, Tryz.results85, go_sem, dv, datList, x1, x2, x3, x4, x5, x6]) rfl ?_
   rw [HQ.out]
   refine ⟨keep_six H6.out.1 (Nat.le_refl _) _ _ _ _ _ _, H6.out.2.1.six hN _ _ _ _ _ _, a', cap', f', rfl, ?_⟩
   refine Dw.stay ?_ ?_ f' _ _ _ HDW.out
   ·intro b hb
    have hb1 := hb.1
    exact (six_heapT _ _ _ _ _ _ _ _).1 b (by omega)
   intro b hb
   have hb1 := hb.1
   have hb2 := hb.2
   exact ⟨by omega, by rw [(six_heapT _ _ _ _ _ _ _ _).2]; exact hb2⟩
  have e41 : ((s[p].toNat : Int) == 41) = false := by rw [show ((41 : Int)) = ((41 : UInt8).toNat : Int) from rfl, byte_is]; simpa using h41
  have HC : Hid (s[p] ≠ 41) := h41
  clear h41
  have hwr : IntKind.i64.wrap (dp + 1) = dp + 1 := by rw [IntKind.wrap_i64]; omega
  have q5 := H5.out.2.2.2.1.q5
  have hmm := HL.out.mle
  have hff := HL.out.few
  cases ho : one l f p m with
  | inl x =>
   have ONE : Hid (∀ w, Wk rb s p m (0, 0) w → Calls Tryz.prog 85 #[.pointer (some ⟨rb, 0, none⟩), .int .i64 (dp + 1)] w fun e w' => Keep rb w w' ∧ ∃ (d : Dat) (a : Option Addr) (cap : Nat), e = .returned (dv d a cap) ∧ ∃ j m, j ≤ s.size ∧ Wk rb s j m x w') := fun w h => by
    have := IH.out p m w h (by omega) hmm
    rw [ho] at this
    exact this
   have HXN : Hid (x.1 ≠ 0) := one_fault l f p m x ho
   have HQ : Hid (items (one l f) l (l.length + 1) (i + 1) (n + 1) = .inl x) := by
    show items (one l f) l (l.length + 1) (i + 1) (n + 1) = .inl x
    rw [HL.out.same, HK.out, items_bad HP.out HAT.out HC.out ho]
    rfl
   clear ho
   go_wp2_with fail
   go_region_law (first
    | (refine step_append_lies _ rfl (.tmp 91) (.tmp 96) 24 rfl (w2.heap.size + 1) 26 i0 _ 6 72 Tryz.underlying24 hinf hz0 hz1' hz2' rfl (by decide) v es.length (flatT es) rfl (by exact H6.out.2.2.2.2.1.own.alloc _) ⟨w6.heap.size, 0, none⟩ 1 1 [.int .i64 d.kind, .int .i64 d.n, .string d.name, .int .i64 d.stamp, .int .i64 d.lib, .slice a' d.kids.length cap'] rfl rfl (by exact six_news w6 _ _ _ _ _ _) (by exact six_one _ _ _ _ _ _ _ _) (by decide) (by unfold maxLen; omega) (by omega) (by have := H6.out.2.2.2.1.lt; simp; omega) (w6.heap.size + 1) (by simp) ?_; intro g cap w7 hown hgrow hat hlt7; have D7 : Dk w2.heap.size v w7 := (H6.out.2.2.2.1.alloc _).grown hgrow (fun e => (by have := (H6.out.2.2.2.2.1.own.lt w2.heap.size e.symm).1; omega)); have q7 := D7.q5; have z7 := D7.z 5)
    | (go_simp; go_at_call 85; refine (ONE.out _ (by exact H5.out.2.1.drew)).mono ?_; rintro e w6 ⟨hk6, d, a', cap', rfl, j', m', hj', hr6⟩; have H6 : Hid (Keep rb w w6 ∧ Wk rb s j' m' x w6 ∧ Six w.heap.size w6 ∧ Dk w2.heap.size v w6 ∧ Row (w2.heap.size + 1) v es w6 ∧ w5.heap.size ≤ w6.heap.size) := ⟨(H5.out.1.drew).trans hk6, hr6, (H5.out.2.2.1.after (Below.drew (Below.refl _ _))).keep hk6 hN, (H5.out.2.2.2.1.after (Below.drew (Below.refl _ _))).keep hk6 (by omega), (H5.out.2.2.2.2.below (Below.drew (Below.refl _ _))).keep hk6 (by omega), hk6.size⟩; have q6 := H6.out.2.2.2.1.q5; have q6a := Lib.cell?_alloc_marked (Obj.cells #[.int .i64 d.kind, .int .i64 d.n, .string d.name, .int .i64 d.stamp, .int .i64 d.lib, .slice a' d.kids.length cap'] 26) q6; clear hk6 hr6; unfold dv; dsimp only))
   all_goals
    have hdb5 := H5.out.2.2.2.1.lt
    have hrow : ∀ k, v.ownBlock = some k → w2.heap.size + 1 ≤ k := fun k hk => (H6.out.2.2.2.2.1.own.lt k hk).1
    have hkd : Keep w2.heap.size w7 (w7.setCell ⟨w2.heap.size, 5, none⟩ (.slice (some ⟨g, 0, none⟩) (es.length + 1) cap)) := (Keep.refl _ w7).setCell ⟨w2.heap.size, 5, none⟩ rfl _
    have H8 : Hid (Lx l s f rb w.heap.size w2.heap.size w i (n + 1) (w7.setCell ⟨w2.heap.size, 5, none⟩ (.slice (some ⟨g, 0, none⟩) (es.length + 1) cap)) x j' m' (some ⟨g, 0, none⟩) (es.length + 1) cap) := by
     refine ⟨hj', HXN.out, ?_, ?_, ?_, D7.set _, HQ.out⟩
     ·exact ((H6.out.1.alloc _).grown hgrow (fun k hk => by have := hrow k hk; omega)).setNew _ (by show w.heap.size ≤ w2.heap.size; omega) _
     ·refine ((H6.out.2.1.alloc _).grown hgrow ?_).put _ (by show w2.heap.size ≠ rb; omega) _
      intro e
      have := hrow rb e.symm
      omega
     refine ((H6.out.2.2.1.alloc _).grown hgrow ?_).keep hkd (by omega)
     intro e
     have := hrow w.heap.size e.symm
     omega
    clear hown hgrow hat hlt7 D7 q7 z7 hrow hkd H6 ONE
    go_wp2_with fail
    go_roundg 0
    case measure => omega
    case rel => exact Or.inr ⟨_, _, _, _, _, _, rfl, H8.out⟩
  | inr y =>
   obtain ⟨d, j', m'⟩ := y
   have ONE : Hid (∀ w, Wk rb s p m (0, 0) w → Calls Tryz.prog 85 #[.pointer (some ⟨rb, 0, none⟩), .int .i64 (dp + 1)] w fun e w' => Keep rb w w' ∧ Wk rb s j' m' (0, 0) w' ∧ ∃ a cap f, e = .returned (dv d a cap) ∧ Dw (NewT w w') w' f a cap d.kids) := fun w h => by
    have := IH.out p m w h (by omega) hmm
    rw [ho] at this
    exact this
   have hw := one_went l f p m d j' m' (by rw [HLEN.out]; omega) hmm ho
   have HWT : Hid (Went l p m j' m' d) := hw
   have HQ : Hid (items (one l f) l (l.length + 1) (i + 1) (n + 1) = pre (es.map (·.1) ++ [d]) (items (one l f) l k' j' m')) := by
    show items (one l f) l (l.length + 1) (i + 1) (n + 1) = pre (es.map (·.1) ++ [d]) (items (one l f) l k' j' m')
    rw [HL.out.same, HK.out, items_step HP.out HAT.out HC.out ho, pre_pre]
   clear hw ho
   go_wp2_with fail
   go_region_law (first
    | (refine step_append_lies _ rfl (.tmp 91) (.tmp 96) 24 rfl (w2.heap.size + 1) 26 i0 _ 6 72 Tryz.underlying24 hinf hz0 hz1' hz2' rfl (by decide) v es.length (flatT es) rfl (by exact H6.out.2.2.2.2.1.own.alloc _) ⟨w6.heap.size, 0, none⟩ 1 1 [.int .i64 d.kind, .int .i64 d.n, .string d.name, .int .i64 d.stamp, .int .i64 d.lib, .slice a' d.kids.length cap'] rfl rfl (by exact six_news w6 _ _ _ _ _ _) (by exact six_one _ _ _ _ _ _ _ _) (by decide) (by unfold maxLen; omega) (by omega) (by have := H6.out.2.2.2.1.lt; simp; omega) (w6.heap.size + 1) (by simp) ?_; intro g cap w7 hown hgrow hat hlt7; have D7 : Dk w2.heap.size v w7 := (H6.out.2.2.2.1.alloc _).grown hgrow (fun e => (by have := (H6.out.2.2.2.2.1.own.lt w2.heap.size e.symm).1; omega)); have q7 := D7.q5; have z7 := D7.z 5)
    | (go_simp; go_at_call 85; refine (ONE.out _ (by exact H5.out.2.1.drew)).mono ?_; rintro e w6 ⟨hk6, hr6, a', cap', f', rfl, hdw⟩; have H6 : Hid (Keep rb w w6 ∧ Wk rb s j' m' (0, 0) w6 ∧ Six w.heap.size w6 ∧ Dk w2.heap.size v w6 ∧ Row (w2.heap.size + 1) v es w6 ∧ Dw (NewT w5 w6) w6 f' a' cap' d.kids ∧ w5.heap.size ≤ w6.heap.size) := ⟨(H5.out.1.drew).trans hk6, hr6, (H5.out.2.2.1.after (Below.drew (Below.refl _ _))).keep hk6 hN, (H5.out.2.2.2.1.after (Below.drew (Below.refl _ _))).keep hk6 (by omega), (H5.out.2.2.2.2.below (Below.drew (Below.refl _ _))).keep hk6 (by omega), hdw, hk6.size⟩; have q6 := H6.out.2.2.2.1.q5; have q6a := Lib.cell?_alloc_marked (Obj.cells #[.int .i64 d.kind, .int .i64 d.n, .string d.name, .int .i64 d.stamp, .int .i64 d.lib, .slice a' d.kids.length cap'] 26) q6; clear hk6 hr6 hdw; unfold dv; dsimp only))
   all_goals
    have hdb5 := H5.out.2.2.2.1.lt
    have HROW : Row (w2.heap.size + 1) (.slice (some ⟨g, 0, none⟩) (es.length + 1) cap) (es ++ [(d, a', cap')]) w7 := by
     refine Row.push (wr := w5) (w := w6) _ H6.out.2.2.2.2.1 (by omega) (fun k hk => (H5.out.2.2.2.2.own.lt k hk).2) H6.out.2.2.2.2.2.1 (by have := HWT.out.name; unfold maxLen; omega) hown hgrow ?_
     rcases hat with h | h
     ·exact Or.inl h.symm
     exact Or.inr (by rw [h]; rfl)
    have hrow : ∀ k, v.ownBlock = some k → w2.heap.size + 1 ≤ k := fun k hk => (H6.out.2.2.2.2.1.own.lt k hk).1
    have hkd : Keep w2.heap.size w7 (w7.setCell ⟨w2.heap.size, 5, none⟩ (.slice (some ⟨g, 0, none⟩) (es.length + 1) cap)) := (Keep.refl _ w7).setCell ⟨w2.heap.size, 5, none⟩ rfl _
    have H8 : Hid (Lw l s f rb w.heap.size w2.heap.size w i (n + 1) (w7.setCell ⟨w2.heap.size, 5, none⟩ (.slice (some ⟨g, 0, none⟩) (es.length + 1) cap)) (.slice (some ⟨g, 0, none⟩) (es.length + 1) cap) (es ++ [(d, a', cap')]) j' k' m') := by
     have hup := HWT.out.upto
     have hfu := HL.out.fuel
     have hkk := HK.out
     have hon := HWT.out.on
     have hmo := HWT.out.more
     refine ⟨hup, HWT.out.much, by simp; omega, by omega, ?_, ?_, ?_, D7.set _, HROW.keep hkd (by omega), by rw [HQ.out]; simp⟩
     ·exact ((H6.out.1.alloc _).grown hgrow (fun k hk => by have := hrow k hk; omega)).setNew _ (by show w.heap.size ≤ w2.heap.size; omega) _
     ·refine ((H6.out.2.1.alloc _).grown hgrow ?_).put _ (by show w2.heap.size ≠ rb; omega) _
      intro e
      have := hrow rb e.symm
      omega
     refine ((H6.out.2.2.1.alloc _).grown hgrow ?_).keep hkd (by omega)
     intro e
     have := hrow w.heap.size e.symm
     omega
    have hjj : j < j' ∧ j' ≤ s.size := ⟨by have := HWT.out.on; omega, by have := HWT.out.upto; rw [HLEN.out] at this; exact this⟩
    clear hown hgrow hat hlt7 D7 q7 z7 hrow hkd HROW H6 ONE
    go_wp2_with fail
    go_roundg (s.size - j' + 1)
    case measure => omega
    case rel => exact Or.inl ⟨_, _, _, _, _, rfl, H8.out⟩
 have HL : Hid (Lx l s f rb w.heap.size w2.heap.size w i (n + 1) wr x j m ao ln cp) := hX
 clear hX
 go_wp2_with fail
 refine (good_no rb s j m x _ HL.out.wk HL.out.bad).mono ?_
 rintro e w3 ⟨rfl, rfl⟩
 obtain ⟨x0, x1, x2, x3, x4, x5, x6, x7⟩ := HL.out.six
 obtain ⟨y0, y1, y2, y3, y4, y5, y6, y7⟩ := HL.out.dk
 go_wp2_with fail
 refine bodyPost_ret (v := dv ⟨4, 0, ⟨#[]⟩, 0, 0, List.replicate ln dat0⟩ ao cp) (by simp [results, Tryz.results85, go_sem, dv, x1, x2, x3, x4, x5, x6]) rfl ?_
 rw [HL.out.same]
 exact ⟨keep_six HL.out.keep (Nat.le_refl _) _ _ _ _ _ _, _, ao, cp, rfl, j, m, HL.out.jle, HL.out.wk.six hN _ _ _ _ _ _⟩
theorem One_any (rb : Nat) (s : ByteArray) (hs : s.size ≤ 6000) : ∀ (f : Nat), f ≤ 40 → ∀ (i n : Nat) (w : World), Wk rb s i n (0, 0) w → i ≤ s.size → n ≤ 2000 →
 Calls Tryz.prog 85 #[.pointer (some ⟨rb, 0, none⟩), .int .i64 (41 - (f : Int))] w (OutW rb s (one s.data.toList f i n) w) := by
 have hlen : s.data.toList.length = s.size := Array.length_toList
 intro f
 induction f with
 | zero =>
  intro _ i n w h hi hn
  exact One_much rb s i n (41 - ((0 : Nat) : Int)) w h hi (by by_cases e : n = 2000; exact Or.inl e; exact Or.inr ⟨by omega, by simp⟩)
 | succ f ih0 =>
  intro hf i n w h hi hn
  have ih := ih0 (by omega)
  have hdp : (41 : Int) - ((f + 1 : Nat) : Int) = 40 - (f : Int) := by omega
  rw [hdp]
  have hdp1 : (40 : Int) - (f : Int) + 1 = 41 - (f : Int) := by omega
  by_cases h2 : 2000 < n + 1
  ·have e : one s.data.toList (f + 1) i n = .inl (4, (i : Int)) := by unfold one; rw [if_pos h2]
   rw [e]
   exact One_much rb s i n _ w h hi (Or.inl (by omega))
  by_cases hlt : i < s.size
  rotate_left
  ·have e : one s.data.toList (f + 1) i n = .inl (2, (i : Int)) := by
    unfold one
    rw [if_neg h2, List.getElem?_eq_none (by omega)]
   rw [e]
   exact One_end rb s i n (40 - (f : Int)) w h (by omega) hs (by omega) (by omega)
  have hat := at_of hlt
  by_cases c40 : s[i] = 40
  ·have e : one s.data.toList (f + 1) i n = asList (items (one s.data.toList f) s.data.toList (s.data.toList.length + 1) (i + 1) (n + 1)) := by
    conv => lhs; unfold one
    rw [if_neg h2, hat]
    simp only
    rw [if_pos c40]
    cases items (one s.data.toList f) s.data.toList (s.data.toList.length + 1) (i + 1) (n + 1) with
    | inl e => rfl
    | inr x => rfl
   rw [e]
   refine One_list rb s i n (40 - (f : Int)) w h hlt hs (by omega) (by omega) c40 (by omega) f ?_
   rw [hdp1]
   exact ih
  by_cases c39 : s[i] = 39
  ·by_cases hq : f = 0 ∨ 2000 < n + 2
   ·have e : one s.data.toList (f + 1) i n = .inl (4, (i : Int)) := by
     unfold one
     rw [if_neg h2, hat]
     simp only
     rw [if_neg c40, if_pos c39, if_pos hq]
    rw [e]
    exact One_quote_much rb s i n (40 - (f : Int)) w h hlt hs (by omega) (by omega) c39 (by omega) (by omega)
   have e : one s.data.toList (f + 1) i n = asQuote (one s.data.toList f (i + 1 + skipL (s.data.toList.drop (i + 1)) false) (n + 2)) := by
    conv => lhs; unfold one
    rw [if_neg h2, hat]
    simp only
    rw [if_neg c40, if_pos c39, if_neg hq]
    cases one s.data.toList f (i + 1 + skipL (s.data.toList.drop (i + 1)) false) (n + 2) with
    | inl e => rfl
    | inr x => rfl
   rw [e]
   have hsk := skip_le s.data.toList (i + 1) (by omega)
   refine One_quote rb s i n (40 - (f : Int)) w h hlt hs (by omega) (by omega) c39 (by omega) (by omega) (by omega) _ ?_ ?_
   ·intro d j m hr
    exact (one_went s.data.toList f _ _ d j m hsk (by omega) hr).name
   intro w hw
   rw [hdp1]
   exact ih _ _ w hw (by rw [← hlen]; exact hsk) (by omega)
  by_cases c35 : s[i] = 35
  ·have e : one s.data.toList (f + 1) i n = hashAt (byteL (s.data.toList.drop (i + 1))) i n := by
    conv => lhs; unfold one
    rw [if_neg h2, hat]
    simp only
    rw [if_neg c40, if_neg c39, if_pos c35]
    rfl
   rw [e]
   exact One_hash rb s i n (40 - (f : Int)) w h hlt hs (by omega) (by omega) c35
  by_cases hl : letB (s[i].toNat : Int) = true
  ·have e : one s.data.toList (f + 1) i n = wordAt (byteL (s.data.toList.drop i)) i (n + 1) := by
    conv => lhs; unfold one
    rw [if_neg h2, hat]
    simp only
    rw [if_neg c40, if_neg c39, if_neg c35, if_pos hl]
   rw [e]
   exact One_word rb s i n (40 - (f : Int)) w h hlt hs (by omega) (by omega) hl
  have e : one s.data.toList (f + 1) i n = .inl (2, (i : Int)) := by
   unfold one
   rw [if_neg h2, hat]
   simp only
   rw [if_neg c40, if_neg c39, if_neg c35, if_neg hl]
  rw [e]
  exact One_bad rb s i n (40 - (f : Int)) w h hlt hs (by omega) (by omega) c40 c39 c35 (by simpa using hl)
theorem refRead_long (s : ByteArray) (w : World) (hs : 6000 < s.size) (hm : s.size ≤ maxLen) :
 Calls Tryz.prog 62 #[.string s] w fun e w' => e = .returned (.tuple #[.slice none 0 0, fv (4, 0)]) ∧ Below w.heap.size w w' := by
 unfold maxLen at hm
 have hs' : (6000 : Int) < (s.size : Int) := by omega
 go_enter Tryz.func62, Tryz.ntmps62
 go_wp2_with fail
 refine bodyPost_ret (v := .tuple #[.slice none 0 0, fv (4, 0)]) (by simp [results, Tryz.results62, go_sem, fv]) rfl ⟨rfl, ?_⟩
 exact (Below.refl _ _).alloc (Nat.le_refl _) _
def topR : Rd (List Dat) → Sum (Int × Int) (List Dat)
 | .inl e => .inl e
 | .inr (ds, _, _) => .inr ds
structure Aw (l : List UInt8) (s : ByteArray) (rb : Nat) (W wr : World) (v : Value) (es : List (Dat × Option Addr × Nat)) (j k m p : Nat) : Prop where
 pos : p = j + skipL (l.drop j) false
 ple : p ≤ s.size
 jle : j ≤ l.length
 mle : m ≤ 2000
 few : es.length ≤ m
 fuel : l.length + 1 ≤ j + k
 keep : Keep rb W wr
 wk : Wk rb s p m (0, 0) wr
 row : Row W.heap.size v es wr
 same : alls l (l.length + 1) 0 0 = pre (es.map (·.1)) (alls l k j m)
structure Ax (l : List UInt8) (s : ByteArray) (rb : Nat) (W wr : World) (x : Int × Int) (j m : Nat) : Prop where
 jle : j ≤ s.size
 bad : x.1 ≠ 0
 keep : Keep rb W wr
 wk : Wk rb s j m x wr
 same : alls l (l.length + 1) 0 0 = .inl x
theorem refRead_short (s : ByteArray) (w : World) (hs : s.size ≤ 6000) :
 Calls Tryz.prog 62 #[.string s] w (OutR (topR (alls s.data.toList (s.data.toList.length + 1) 0 0)) w) := by
 have hs' : ¬ (6000 : Int) < (s.size : Int) := by omega
 have HLEN : Hid (s.data.toList.length = s.size) := Array.length_toList
 have IH : Hid (∀ (rb i n : Nat) (w : World), Wk rb s i n (0, 0) w → i ≤ s.size → n ≤ 2000 → Calls Tryz.prog 85 #[.pointer (some ⟨rb, 0, none⟩), .int .i64 1] w (OutW rb s (one s.data.toList 40 i n) w)) := fun rb i n w h hi hn => One_any rb s hs 40 (Nat.le_refl _) i n w h hi hn
 obtain ⟨l, hl⟩ : ∃ l, l = s.data.toList := ⟨_, rfl⟩
 have HLL : Hid (l = s.data.toList) := hl
 rw [← hl] at HLEN IH ⊢
 clear hl
 have WK0 : Hid (Wk (w.heap.size + 1) s 0 0 (0, 0) ((w.alloc (.cells #[.int .i64 0, .int .i64 0] 40)).alloc (.cells #[.string s, .int .i64 0, .int .i64 0, .int .i64 0, .int .i64 0] 116))) := ⟨by simp, by simp [go_sem], by simp [go_sem], by simp [go_sem], by simp [go_sem], by simp [go_sem], fun o => by simp [go_sem]⟩
 obtain ⟨i0, hinf, hz0, hz1', hz2'⟩ := info_parts infoDatT
 have h0 : ((w.alloc (.cells #[.int .i64 0, .int .i64 0] 40)).alloc (.cells #[.string s, .int .i64 0, .int .i64 0, .int .i64 0, .int .i64 0] 116)).cell? ⟨w.heap.size, 0, none⟩ = some (.int .i64 0) := by simp [go_sem]
 have h1 : ((w.alloc (.cells #[.int .i64 0, .int .i64 0] 40)).alloc (.cells #[.string s, .int .i64 0, .int .i64 0, .int .i64 0, .int .i64 0] 116)).cell? ⟨w.heap.size, 1, none⟩ = some (.int .i64 0) := by simp [go_sem]
 have z0 : ((w.alloc (.cells #[.int .i64 0, .int .i64 0] 40)).alloc (.cells #[.string s, .int .i64 0, .int .i64 0, .int .i64 0, .int .i64 0] 116)).frozen? ⟨w.heap.size, 0, none⟩ = false := by simp [go_sem]
 have z1 : ((w.alloc (.cells #[.int .i64 0, .int .i64 0] 40)).alloc (.cells #[.string s, .int .i64 0, .int .i64 0, .int .i64 0, .int .i64 0] 116)).frozen? ⟨w.heap.size, 1, none⟩ = false := by simp [go_sem]
 have BOX : Hid _ := And.intro h0 (And.intro h1 (And.intro z0 z1))
 have BB : Hid (Below w.heap.size w ((w.alloc (.cells #[.int .i64 0, .int .i64 0] 40)).alloc (.cells #[.string s, .int .i64 0, .int .i64 0, .int .i64 0, .int .i64 0] 116))) := ((Below.refl _ _).alloc (Nat.le_refl _) _).alloc (by simp) _
 have SZ : ((w.alloc (.cells #[.int .i64 0, .int .i64 0] 40)).alloc (.cells #[.string s, .int .i64 0, .int .i64 0, .int .i64 0, .int .i64 0] 116)).heap.size = w.heap.size + 2 := by simp
 clear h0 h1 z0 z1
 go_enter Tryz.func62, Tryz.ntmps62
 go_wp2_with fail
 refine (rskip_any (w.heap.size + 1) s 0 0 (0, 0) _ WK0.out (Nat.zero_le _) hs).mono ?_
 rintro e w1 ⟨rfl, hk1, hr1⟩
 rw [← HLL.out] at hr1
 generalize ((w.alloc (.cells #[.int .i64 0, .int .i64 0] 40)).alloc (.cells #[.string s, .int .i64 0, .int .i64 0, .int .i64 0, .int .i64 0] 116)) = W at hk1 BOX BB SZ
 have hrbW : w.heap.size + 1 < W.heap.size := by omega
 clear SZ
 have START : Hid (Aw l s (w.heap.size + 1) W w1 (.slice none 0 0) [] 0 (l.length + 1) 0 (0 + skipL (l.drop 0) false)) := by
  have hle := skip_le l 0 (Nat.zero_le _)
  rw [HLEN.out] at hle
  exact ⟨rfl, hle, Nat.zero_le _, by omega, by simp, by omega, hk1, hr1, Row.nil _ _, (pre_nil _).symm⟩
 clear hk1 hr1 WK0
 go_wp2_with fail
 go_loopg [5] (s.size - (0 + skipL (l.drop 0) false) + 1) (fun g v wr => (∃ es j k m p, g = s.size - p + 1 ∧ Aw l s (w.heap.size + 1) W wr v es j k m p) ∨ (∃ x j m ao ln cp, g = 0 ∧ v = .slice ao ln cp ∧ Ax l s (w.heap.size + 1) W wr x j m))
 case atStart => exact Or.inl ⟨_, _, _, _, _, rfl, START.out⟩
 clear START
 rcases hrel with ⟨es, j, k, m, p, rfl, hA⟩ | ⟨x, j, m, ao, ln, cp, rfl, rfl, hX⟩
 ·have HL : Hid (Aw l s (w.heap.size + 1) W wr u5 es j k m p) := hA
  have hp := hA.ple
  clear hA
  have hpos := HL.out.pos
  have hfu := HL.out.fuel
  have hfe := HL.out.few
  have hml := HL.out.mle
  have hjl := HL.out.jle
  have hlz := HLEN.out
  have c0 := HL.out.wk.c0
  have c1 := HL.out.wk.c1
  have hWr := HL.out.keep.size
  by_cases hlt : p < s.size
  rotate_left
  ·obtain rfl : p = s.size := by omega
   have HQ : Hid (∃ j' m', alls l (l.length + 1) 0 0 = .inr (es.map (·.1), j', m')) := by
    obtain ⟨j', m', he⟩ := alls_end (l := l) (k := k) (m := m) hpos (by rw [HLEN.out]; exact Nat.le_refl _)
    refine ⟨j', m', ?_⟩
    rw [HL.out.same, he]
    simp [pre]
   clear hpos hlz
   have KK := HL.out.keep
   have n0 := (KK.cell (p := ⟨w.heap.size, 0, none⟩) (show w.heap.size < W.heap.size by omega) (show w.heap.size ≠ w.heap.size + 1 by omega)).trans BOX.out.1
   have n1 := (KK.cell (p := ⟨w.heap.size, 1, none⟩) (show w.heap.size < W.heap.size by omega) (show w.heap.size ≠ w.heap.size + 1 by omega)).trans BOX.out.2.1
   have y0 := (KK.frozen (p := ⟨w.heap.size, 0, none⟩) (show w.heap.size < W.heap.size by omega) (show w.heap.size ≠ w.heap.size + 1 by omega)).trans BOX.out.2.2.1
   have y1 := (KK.frozen (p := ⟨w.heap.size, 1, none⟩) (show w.heap.size < W.heap.size by omega) (show w.heap.size ≠ w.heap.size + 1 by omega)).trans BOX.out.2.2.2
   clear KK
   obtain ⟨a', cap', f', hv, hdw⟩ := HL.out.row.lie (by omega)
   have HDW : Hid _ := hdw
   subst hv
   clear hdw
   go_wp2_with fail
   refine (good_yes (w.heap.size + 1) s s.size m _ HL.out.wk).mono ?_
   rintro e w2 ⟨rfl, rfl⟩
   go_wp2_with fail
   refine (good_yes (w.heap.size + 1) s s.size m _ HL.out.wk).mono ?_
   rintro e w2 ⟨rfl, rfl⟩
   go_wp2_with fail
   refine bodyPost_ret (v := .tuple #[.slice a' (es.map (·.1)).length cap', fv (0, 0)]) (by simp [results, Tryz.results62, go_sem, fv, n0, n1]) rfl ?_
   obtain ⟨j', m', he⟩ := HQ.out
   rw [he]
   refine ⟨?_, a', cap', f', rfl, ?_⟩
   ·exact ((BB.out.trans (HL.out.keep.toBelow (by omega) (by omega))).setCell (p := ⟨w.heap.size, 0, none⟩) (Nat.le_refl _) _).setCell (p := ⟨w.heap.size, 1, none⟩) (Nat.le_refl _) _
   refine Dw.stay ?_ ?_ f' _ _ _ HDW.out
   ·intro b hb
    have hb1 := hb.1
    have hbn : b ≠ w.heap.size := by omega
    rw [Below.heap_setCell _ _ _ _ hbn, Below.heap_setCell _ _ _ _ hbn]
   intro b hb
   have hb1 := hb.1
   have hb2 := hb.2
   exact ⟨by omega, by simp [World.setCell]; exact hb2⟩
  obtain ⟨k', hk'⟩ : ∃ k', k = k' + 1 := ⟨k - 1, by omega⟩
  have HK : Hid (k = k' + 1) := hk'
  clear hk'
  have IHP := IH.out (w.heap.size + 1) p m
  have HPOS : Hid (p = j + skipL (l.drop j) false) := hpos
  clear hpos hlz
  cases ho : one l 40 p m with
  | inl x =>
   have HQ : Hid (alls l (l.length + 1) 0 0 = .inl x) := by
    show alls l (l.length + 1) 0 0 = .inl x
    rw [HL.out.same, HK.out, alls_bad HPOS.out (by rw [HLEN.out]; exact hlt) ho]
    rfl
   have HXN : Hid (x.1 ≠ 0) := one_fault l 40 p m x ho
   have ONE : Hid (∀ w', Wk (w.heap.size + 1) s p m (0, 0) w' → Calls Tryz.prog 85 #[.pointer (some ⟨w.heap.size + 1, 0, none⟩), .int .i64 1] w' fun e w'' => Keep (w.heap.size + 1) w' w'' ∧ ∃ (d : Dat) (a : Option Addr) (cap : Nat), e = .returned (dv d a cap) ∧ ∃ j m, j ≤ s.size ∧ Wk (w.heap.size + 1) s j m x w'') := fun w' h => by
    have := IHP w' h hp hml
    rw [ho] at this
    exact this
   clear IHP ho
   go_wp2_with fail
   refine (good_yes (w.heap.size + 1) s p m _ HL.out.wk).mono ?_
   rintro e w2 ⟨rfl, rfl⟩
   go_wp2_with fail
   refine (ONE.out _ HL.out.wk).mono ?_
   rintro e w3 ⟨hk3, d, a', cap', rfl, j', m', hj', hr3⟩
   have H3 : Hid (Keep (w.heap.size + 1) W w3 ∧ Wk (w.heap.size + 1) s j' m' x w3 ∧ Row W.heap.size u5 es w3) := ⟨HL.out.keep.trans hk3, hr3, HL.out.row.keep hk3 hrbW⟩
   have hz3 := hk3.size
   unfold dv
   clear hk3 hr3 ONE c0 c1
   go_wp2_with (at_builtin; refine wpList_append_whereT rfl _ _ 24 rfl W.heap.size 26 i0 _ 6 72 Tryz.underlying24 hinf hz0 hz1' hz2' rfl (by decide) u5 es.length (flatT es) rfl (by exact H3.out.2.2.own.alloc _) ⟨w3.heap.size, 0, none⟩ 1 1 [.int .i64 d.kind, .int .i64 d.n, .string d.name, .int .i64 d.stamp, .int .i64 d.lib, .slice a' d.kids.length cap'] rfl rfl ?c1 ?c2 (by decide) ?c3 ?c4 ?c5 ?_)
   case c1 => exact six_news w3 _ _ _ _ _ _
   case c2 => exact six_one _ _ _ _ _ _ _ _
   case c3 => unfold maxLen; omega
   case c4 => omega
   case c5 => simp; omega
   intro v' w4 hown4 hg4 hw4
   have hrow : ∀ k, u5.ownBlock = some k → W.heap.size ≤ k := fun k hk => (H3.out.2.2.own.lt k hk).1
   have H4 : Hid (Keep (w.heap.size + 1) W w4 ∧ Wk (w.heap.size + 1) s j' m' x w4) := by
    refine ⟨(H3.out.1.alloc _).grown hg4 hrow, (H3.out.2.1.alloc _).grown hg4 ?_⟩
    intro e
    have := hrow _ e.symm
    omega
   obtain ⟨ao, ln, cp, hv'⟩ : ∃ ao ln cp, v' = .slice ao ln cp := by
    rcases hown4.2 with ⟨hv, _⟩ | ⟨gg, cap, cur, hv, _⟩
    ·exact ⟨_, _, _, hv⟩
    exact ⟨_, _, _, hv⟩
   subst hv'
   clear hown4 hg4 hw4 hrow H3
   go_wp2_with fail
   refine (rskip_any (w.heap.size + 1) s j' m' x _ H4.out.2 hj' hs).mono ?_
   rintro e w5 ⟨rfl, hk5, hr5⟩
   have H5 : Hid (Ax l s (w.heap.size + 1) W w5 x (j' + skipL (s.data.toList.drop j') false) m') := ⟨by have := skip_le s.data.toList j' (by rw [← HLL.out, HLEN.out]; exact hj'); rw [← HLL.out, HLEN.out] at this; rw [← HLL.out]; exact this, HXN.out, H4.out.1.trans hk5, hr5, HQ.out⟩
   clear hk5 hr5 H4
   go_wp2_with fail
   go_roundg 0
   case measure => omega
   case rel => exact Or.inr ⟨_, _, _, _, _, _, rfl, rfl, H5.out⟩
  | inr y =>
   obtain ⟨d, j', m'⟩ := y
   have hw := one_went l 40 p m d j' m' (by rw [HLEN.out]; exact hp) hml ho
   have HWT : Hid (Went l p m j' m' d) := hw
   have HQ : Hid (alls l (l.length + 1) 0 0 = pre (es.map (·.1) ++ [d]) (alls l k' j' m')) := by
    show alls l (l.length + 1) 0 0 = pre (es.map (·.1) ++ [d]) (alls l k' j' m')
    rw [HL.out.same, HK.out, alls_step HPOS.out (by rw [HLEN.out]; exact hlt) ho, pre_pre]
   have ONE : Hid (∀ w', Wk (w.heap.size + 1) s p m (0, 0) w' → Calls Tryz.prog 85 #[.pointer (some ⟨w.heap.size + 1, 0, none⟩), .int .i64 1] w' fun e w'' => Keep (w.heap.size + 1) w' w'' ∧ Wk (w.heap.size + 1) s j' m' (0, 0) w'' ∧ ∃ a cap f, e = .returned (dv d a cap) ∧ Dw (NewT w' w'') w'' f a cap d.kids) := fun w' h => by
    have := IHP w' h hp hml
    rw [ho] at this
    exact this
   clear IHP ho hw
   go_wp2_with fail
   refine (good_yes (w.heap.size + 1) s p m _ HL.out.wk).mono ?_
   rintro e w2 ⟨rfl, rfl⟩
   go_wp2_with fail
   refine (ONE.out _ HL.out.wk).mono ?_
   rintro e w3 ⟨hk3, hr3, a', cap', f', rfl, hdw⟩
   have H3 : Hid (Keep (w.heap.size + 1) W w3 ∧ Wk (w.heap.size + 1) s j' m' (0, 0) w3 ∧ Row W.heap.size u5 es w3 ∧ Dw (NewT w2 w3) w3 f' a' cap' d.kids) := ⟨HL.out.keep.trans hk3, hr3, HL.out.row.keep hk3 hrbW, hdw⟩
   have hz3 := hk3.size
   unfold dv
   clear hk3 hr3 hdw ONE c0 c1
   go_wp2_with (at_builtin; refine wpList_append_whereT rfl _ _ 24 rfl W.heap.size 26 i0 _ 6 72 Tryz.underlying24 hinf hz0 hz1' hz2' rfl (by decide) u5 es.length (flatT es) rfl (by exact H3.out.2.2.1.own.alloc _) ⟨w3.heap.size, 0, none⟩ 1 1 [.int .i64 d.kind, .int .i64 d.n, .string d.name, .int .i64 d.stamp, .int .i64 d.lib, .slice a' d.kids.length cap'] rfl rfl ?c1 ?c2 (by decide) ?c3 ?c4 ?c5 ?_)
   case c1 => exact six_news w3 _ _ _ _ _ _
   case c2 => exact six_one _ _ _ _ _ _ _ _
   case c3 => unfold maxLen; omega
   case c4 => omega
   case c5 => simp; omega
   intro v' w4 hown4 hg4 hw4
   have hrow : ∀ k, u5.ownBlock = some k → W.heap.size ≤ k := fun k hk => (H3.out.2.2.1.own.lt k hk).1
   have HROW : Hid (Row W.heap.size v' (es ++ [(d, a', cap')]) w4) := by
    refine Row.push (wr := w2) _ H3.out.2.2.1 hWr (fun k hk => (HL.out.row.own.lt k hk).2) H3.out.2.2.2 (by have := HWT.out.name; unfold maxLen; omega) hown4 hg4 hw4
   have H4 : Hid (Keep (w.heap.size + 1) W w4 ∧ Wk (w.heap.size + 1) s j' m' (0, 0) w4) := by
    refine ⟨(H3.out.1.alloc _).grown hg4 hrow, (H3.out.2.1.alloc _).grown hg4 ?_⟩
    intro e
    have := hrow _ e.symm
    omega
   obtain ⟨ao, ln, cp, hv'⟩ : ∃ ao ln cp, v' = .slice ao ln cp := by
    rcases hown4.2 with ⟨hv, _⟩ | ⟨gg, cap, cur, hv, _⟩
    ·exact ⟨_, _, _, hv⟩
    exact ⟨_, _, _, hv⟩
   subst hv'
   clear hown4 hg4 hw4 hrow H3
   go_wp2_with fail
   refine (rskip_any (w.heap.size + 1) s j' m' (0, 0) _ H4.out.2 (by have := HWT.out.upto; rw [HLEN.out] at this; exact this) hs).mono ?_
   rintro e w5 ⟨rfl, hk5, hr5⟩
   rw [← HLL.out] at hr5
   have H5 : Hid (Aw l s (w.heap.size + 1) W w5 (.slice ao ln cp) (es ++ [(d, a', cap')]) j' k' m' (j' + skipL (l.drop j') false)) := by
    have hup := HWT.out.upto
    have hle := skip_le l j' hup
    have hkk := HK.out
    have hpo := HPOS.out
    have hon := HWT.out.on
    have hmo := HWT.out.more
    rw [HLEN.out] at hle
    refine ⟨rfl, hle, hup, HWT.out.much, by simp; omega, by omega, H4.out.1.trans hk5, hr5, HROW.out.keep hk5 hrbW, ?_⟩
    rw [HQ.out]
    simp
   clear hk5 hr5 H4
   go_wp2_with fail
   go_roundg (s.size - (j' + skipL (l.drop j') false) + 1)
   case measure => have := HWT.out.on; have := H5.out.ple; omega
   case rel => exact Or.inl ⟨_, _, _, _, _, rfl, H5.out⟩
 have HL : Hid (Ax l s (w.heap.size + 1) W wr x j m) := hX
 have KK := hX.keep
 have n0 := (KK.cell (p := ⟨w.heap.size, 0, none⟩) (show w.heap.size < W.heap.size by omega) (show w.heap.size ≠ w.heap.size + 1 by omega)).trans BOX.out.1
 have n1 := (KK.cell (p := ⟨w.heap.size, 1, none⟩) (show w.heap.size < W.heap.size by omega) (show w.heap.size ≠ w.heap.size + 1 by omega)).trans BOX.out.2.1
 have y0 := (KK.frozen (p := ⟨w.heap.size, 0, none⟩) (show w.heap.size < W.heap.size by omega) (show w.heap.size ≠ w.heap.size + 1 by omega)).trans BOX.out.2.2.1
 have y1 := (KK.frozen (p := ⟨w.heap.size, 1, none⟩) (show w.heap.size < W.heap.size by omega) (show w.heap.size ≠ w.heap.size + 1 by omega)).trans BOX.out.2.2.2
 clear KK hX
 have c3 := HL.out.wk.c3
 have c4 := HL.out.wk.c4
 go_wp2_with fail
 refine (good_no (w.heap.size + 1) s j m x _ HL.out.wk HL.out.bad).mono ?_
 rintro e w2 ⟨rfl, rfl⟩
 go_wp2_with fail
 refine (good_no (w.heap.size + 1) s j m x _ HL.out.wk HL.out.bad).mono ?_
 rintro e w2 ⟨rfl, rfl⟩
 go_wp2_with fail
 go_region
 all_goals
  go_wp2_with fail
  refine bodyPost_ret (v := .tuple #[.slice none 0 0, fv x]) (by simp [results, Tryz.results62, go_sem, fv, n0, n1]) rfl ?_
  rw [HL.out.same]
  exact ⟨((BB.out.trans (HL.out.keep.toBelow (by omega) (by omega))).drew.setCell (p := ⟨w.heap.size, 0, none⟩) (Nat.le_refl _) _).setCell (p := ⟨w.heap.size, 1, none⟩) (Nat.le_refl _) _, rfl⟩
theorem refRead_any (s : ByteArray) (w : World) (hm : s.size ≤ maxLen) : Calls Tryz.prog 62 #[.string s] w (OutR (readL s.data.toList) w) := by
 have hl : s.data.toList.length = s.size := Array.length_toList
 unfold readL
 rw [hl]
 by_cases h : 6000 < s.size
 ·rw [if_pos h]
  refine (refRead_long s w h hm).mono ?_
  rintro e w' ⟨rfl, hb⟩
  exact ⟨hb, rfl⟩
 rw [if_neg h]
 have hr := refRead_short s w (by omega)
 rw [hl] at hr
 cases ha : alls s.data.toList (s.size + 1) 0 0 with
 | inl e => rw [ha] at hr; exact hr
 | inr x => rw [ha] at hr; exact hr
end Go.Proofs.YtonafbennobgdaaGreatDoor.R1
