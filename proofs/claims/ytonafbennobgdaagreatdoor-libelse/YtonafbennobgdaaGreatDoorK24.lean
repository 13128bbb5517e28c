/- A reader's lists. -/
import Derived.Test.YtonafbennobgdaaGreatDoorK23
import Derived.Test.YtonafbennobgdaaGreatDoorK02
namespace Go.Proofs.YtonafbennobgdaaGreatDoor
set_option linter.unusedVariables false
set_option linter.unusedSimpArgs false
open Go.RowKit

def pre (ds : List Dat) : Rd (List Dat) → Rd (List Dat)
  | .inl e => .inl e
  | .inr (es, j, m) => .inr (ds ++ es, j, m)

def asList : Rd (List Dat) → Rd Dat
  | .inl e => .inl e
  | .inr (ds, j, m) => .inr (datList ds, j, m)

theorem pre_nil (r : Rd (List Dat)) : pre [] r = r := by
  cases r with
  | inl e => rfl
  | inr x => rfl

theorem pre_pre (a b : List Dat) (r : Rd (List Dat)) : pre a (pre b r) = pre (a ++ b) r := by
  cases r with
  | inl e => rfl
  | inr x => simp [pre]

section
variable {g : Nat → Nat → Rd Dat} {l : List UInt8} {k j m p : Nat}
theorem items_none (hp : p = j + skipL (l.drop j) false) (h : l[p]? = none) : items g l (k + 1) j m = .inl (2, (p : Int)) := by
  subst hp
  unfold items
  simp only
  rw [h]
theorem items_close (hp : p = j + skipL (l.drop j) false) (h : l[p]? = some 41) : items g l (k + 1) j m = .inr ([], p + 1, m) := by
  subst hp
  unfold items
  simp only
  rw [h]
  rfl
theorem items_bad {c : UInt8} {x : Int × Int} (hp : p = j + skipL (l.drop j) false) (h : l[p]? = some c) (hc : c ≠ 41) (hg : g p m = .inl x) : items g l (k + 1) j m = .inl x := by
  subst hp
  unfold items
  simp only
  rw [h]
  simp only
  rw [if_neg hc, hg]
theorem items_step {c : UInt8} {d : Dat} {j' m' : Nat} (hp : p = j + skipL (l.drop j) false) (h : l[p]? = some c) (hc : c ≠ 41) (hg : g p m = .inr (d, j', m')) : items g l (k + 1) j m = pre [d] (items g l k j' m') := by
  subst hp
  conv => lhs; unfold items
  simp only
  rw [h]
  simp only
  rw [if_neg hc, hg]
  simp only
  cases items g l k j' m' with
  | inl e => rfl
  | inr x => rfl
end

theorem Keep.grown {c : Nat} {a b d : World} {row : Option Nat} (h : Keep c a b) (hg : b.grownBy d row) (hr : ∀ k, row = some k → a.heap.size ≤ k) : Keep c a d :=
  ⟨hg.os.trans h.os, hg.tape.trans h.tape, hg.output.trans h.output, Nat.le_trans h.size hg.size, fun i hi hc => (hg.block i (Nat.lt_of_lt_of_le hi h.size) (fun e => by have := hr i e.symm; omega)).trans (h.block i hi hc)⟩

theorem Rdr.grown {rb : Nat} {s : ByteArray} {i n : Nat} {w w' : World} {row : Option Nat} (h : Rdr rb s i n w) (hg : w.grownBy w' row) (hr : some rb ≠ row) : Rdr rb s i n w' := by
  have e : ∀ q, w'.cell? ⟨rb, q, none⟩ = w.cell? ⟨rb, q, none⟩ := fun q => World.cell?_of_block (hg.block rb h.lt hr)
  have z : ∀ q, w'.frozen? ⟨rb, q, none⟩ = w.frozen? ⟨rb, q, none⟩ := fun q => World.frozen?_of_block (hg.block rb h.lt hr)
  exact ⟨Nat.lt_of_lt_of_le h.lt hg.size, (e _).trans h.c0, (e _).trans h.c1, (e _).trans h.c2, (z _).trans h.z1, (z _).trans h.z2⟩

theorem Six.grown {N : Nat} {w w' : World} {row : Option Nat} (h : Six N w) (hg : w.grownBy w' row) (hr : some N ≠ row) : Six N w' := by
  have e : ∀ q, w'.cell? ⟨N, q, none⟩ = w.cell? ⟨N, q, none⟩ := fun q => World.cell?_of_block (hg.block N h.lt hr)
  have z : ∀ q, w'.frozen? ⟨N, q, none⟩ = w.frozen? ⟨N, q, none⟩ := fun q => World.frozen?_of_block (hg.block N h.lt hr)
  exact ⟨Nat.lt_of_lt_of_le h.lt hg.size, (e _).trans h.q0, (e _).trans h.q1, (e _).trans h.q2, (e _).trans h.q3, (e _).trans h.q4, (e _).trans h.q5, fun j => (z _).trans (h.z j)⟩

theorem six_heapT (w : World) (N : Nat) (v0 v1 v2 v3 v4 v5 : Value) : (∀ b, b ≠ N → ((((((w.setCell ⟨N, 0, none⟩ v0).setCell ⟨N, 1, none⟩ v1).setCell ⟨N, 2, none⟩ v2).setCell ⟨N, 3, none⟩ v3).setCell ⟨N, 4, none⟩ v4).setCell ⟨N, 5, none⟩ v5).heap[b]? = w.heap[b]?) ∧
    ((((((w.setCell ⟨N, 0, none⟩ v0).setCell ⟨N, 1, none⟩ v1).setCell ⟨N, 2, none⟩ v2).setCell ⟨N, 3, none⟩ v3).setCell ⟨N, 4, none⟩ v4).setCell ⟨N, 5, none⟩ v5).heap.size = w.heap.size := by
  refine ⟨fun b hb => ?_, by simp [World.setCell]⟩
  rw [Below.heap_setCell _ _ _ _ hb, Below.heap_setCell _ _ _ _ hb, Below.heap_setCell _ _ _ _ hb, Below.heap_setCell _ _ _ _ hb, Below.heap_setCell _ _ _ _ hb, Below.heap_setCell _ _ _ _ hb]

theorem infoDatT : (Tryz.prog.info? 26).map (fun i => (i.zero, i.size, i.bytes)) = some (some (.agg #[.int .i64 0, .int .i64 0, .string ⟨#[]⟩, .int .i64 0, .int .i64 0, .slice none 0 0]), 6, 72) := by kernel_rfl

structure Lst (l : List UInt8) (s : ByteArray) (f rb N : Nat) (w : World) (i n : Nat) (g : Nat) (v : Value) (wr : World) (es : List (Dat × Option Addr × Nat)) (j k m p : Nat) : Prop where
  pos : p = j + skipL (l.drop j) false
  ple : p ≤ s.size
  jle : j ≤ l.length
  mle : m ≤ 2000
  few : es.length ≤ m
  fuel : l.length + 2 ≤ j + k
  ghost : g = s.size - p
  keep : Keep rb w wr
  rdr : Rdr rb s p m wr
  row : Row (N + 1) v es wr
  six : Six N wr
  same : items (one l f) l (l.length + 1) (i + 1) n = pre (es.map (·.1)) (items (one l f) l k j m)

set_option maxRecDepth 100000 in
set_option maxHeartbeats 6400000 in
theorem list_read (rb : Nat) (s : ByteArray) (f i n : Nat) (dp : Int) (w : World) (h : Rdr rb s i n w) (hi : i < s.size) (hs : s.size ≤ 6000) (hn : n ≤ 2000) (hd0 : 1 ≤ dp) (hd : dp ≤ 40)
    (ih : ∀ (i n : Nat) (w : World), Rdr rb s i n w → i ≤ s.size → n ≤ 2000 → Calls Tryz.prog 73 #[.pointer (some ⟨rb, 0, none⟩), .int .i64 (dp + 1)] w (Out rb s (one s.data.toList f i n) w)) :
    Calls Tryz.prog 98 #[.pointer (some ⟨rb, 0, none⟩), .int .i64 dp] w (Out rb s (asList (items (one s.data.toList f) s.data.toList (s.data.toList.length + 1) (i + 1) n)) w) := by
  have IH : Hid (∀ (i n : Nat) (w : World), Rdr rb s i n w → i ≤ s.size → n ≤ 2000 → Calls Tryz.prog 73 #[.pointer (some ⟨rb, 0, none⟩), .int .i64 (dp + 1)] w (Out rb s (one s.data.toList f i n) w)) := ih
  have HLEN : Hid (s.data.toList.length = s.size) := Array.length_toList
  have c1 := h.c1
  have z1 := h.z1
  have l1 := h.lt
  have HR : Hid (Rdr rb s i n w) := h
  clear h ih
  obtain ⟨l, hl⟩ : ∃ l, l = s.data.toList := ⟨_, rfl⟩
  have HLL : Hid (l = s.data.toList) := hl
  rw [← hl] at IH HLEN ⊢
  clear hl
  obtain ⟨i0, hinf, hz0, hz1, hz2⟩ := info_parts infoDatT
  go_enter Tryz.func98, Tryz.ntmps98
  go_wp2_with fail
  refine (skip_any rb s (i + 1) n _ ((HR.out.move' (i + 1) _ (by omega)).alloc _) (by omega) hs).mono ?_
  rintro e w1 ⟨rfl, hk1, hr1⟩
  have hsix : Six w.heap.size w1 := by
    have h1 := Six.made (w.setCell ⟨rb, 1, none⟩ (.int .i64 ((i : Int) + 1)))
    have h2 : (w.setCell ⟨rb, 1, none⟩ (.int .i64 ((i : Int) + 1))).heap.size = w.heap.size := by simp [World.setCell]
    rw [h2] at h1
    exact h1.keep hk1 (by omega)
  have START : Hid (Lst l s f rb w.heap.size w i n (s.size - ((i + 1) + skipL (l.drop (i + 1)) false)) (.slice none 0 0) w1 [] (i + 1) (l.length + 1) n ((i + 1) + skipL (l.drop (i + 1)) false)) := by
    have hle := skip_le l (i + 1) (by rw [HLEN.out]; omega)
    rw [HLEN.out] at hle
    refine ⟨rfl, hle, by rw [HLEN.out]; omega, hn, by simp, by omega, rfl, ((((Keep.refl _ _).setCell ⟨rb, 1, none⟩ rfl _).alloc _)).trans hk1, by rw [HLL.out]; exact hr1, Row.nil _ _, hsix, (pre_nil _).symm⟩
  clear hk1 hr1 hsix c1 z1 HR
  go_wp2_with fail
  go_loopg [5] (s.size - ((i + 1) + skipL (l.drop (i + 1)) false)) (fun g v wr => ∃ es j k m p, Lst l s f rb w.heap.size w i n g v wr es j k m p)
  case atStart => exact ⟨_, _, _, _, _, START.out⟩
  case round =>
    clear START
    obtain ⟨es, j, k, m, p, hlst⟩ := hrel
    have HL : Hid (Lst l s f rb w.heap.size w i n gk u5 wr es j k m p) := hlst
    have hp := hlst.ple
    have hgk := hlst.ghost
    have hsz := hlst.keep.size
    have en := ended_any rb s p m wr hlst.rdr
    obtain ⟨k', hk'⟩ : ∃ k', k = k' + 1 := ⟨k - 1, by have := hlst.fuel; have := hlst.jle; omega⟩
    have HK : Hid (k = k' + 1) := hk'
    clear hk' hlst
    by_cases hlt : p < s.size
    · rw [show ((p : Int) == (s.size : Int)) = false from by simp; omega] at en
      have EN : Hid (Calls Tryz.prog 72 #[.pointer (some ⟨rb, 0, none⟩)] wr fun e w' => e = .returned (.bool false) ∧ Below wr.heap.size wr w') := en
      clear en
      have HAT : Hid (l[p]? = some s[p]) := by
        have := at_of hlt
        rw [← HLL.out] at this
        exact this
      go_wp2_with fail
      refine EN.out.mono ?_
      rintro e w2 ⟨rfl, hb2⟩
      have hr2 := HL.out.rdr.below hb2
      have c0 := hr2.c0
      have c1 := hr2.c1
      have z1 := hr2.z1
      have HR2 : Hid (Keep rb w w2 ∧ Rdr rb s p m w2 ∧ Row (w.heap.size + 1) u5 es w2 ∧ Six w.heap.size w2) := ⟨HL.out.keep.below hb2, hr2, HL.out.row.below hb2, HL.out.six.after hb2⟩
      have hs2 := hb2.size
      clear hb2 hr2 EN
      go_wp2_with fail
      go_quiet (fail)
      by_cases b1 : ((s[p].toNat : Int) == 41) = true
      · have HC : Hid (s[p] = 41) := UInt8.toNat_inj.1 (by have : (s[p].toNat : Int) = 41 := beq_iff_eq.1 b1; show s[p].toNat = 41; omega)
        have HQ : Hid (items (one l f) l (l.length + 1) (i + 1) n = .inr (es.map (·.1), p + 1, m)) := by
          show items (one l f) l (l.length + 1) (i + 1) n = .inr (es.map (·.1), p + 1, m)
          have h1 := HAT.out
          rw [HC.out] at h1
          rw [HL.out.same, HK.out, items_close HL.out.pos h1]
          simp [pre]
        obtain ⟨a', cap', f', hv, hdw⟩ := HR2.out.2.2.1.lie (by have := HL.out.few; have := HL.out.mle; omega)
        have HDW : Hid (Dw (fun b => w.heap.size + 1 ≤ b ∧ b < w2.heap.size) w2 f' a' cap' (es.map (·.1))) := hdw
        obtain ⟨x0, x1, x2, x3, x4, x5, x6, x7⟩ := HR2.out.2.2.2
        subst hv
        clear hdw
        go_wp2_with fail
        refine bodyPost_ret (v := dv (datList (es.map (·.1))) a' cap') (by simp [results, Tryz.results98, go_sem, dv, datList, x1, x2, x3, x4, x5, x6]) rfl ?_
        rw [HQ.out]
        refine ⟨?_, ?_, a', cap', f', rfl, ?_⟩
        · exact keep_six ((HR2.out.1.drewN _).setCell ⟨rb, 1, none⟩ rfl _) (Nat.le_refl _) _ _ _ _ _ _
        · exact (((HR2.out.2.1.drewN _).move' _ _ (by omega)).six (by omega) _ _ _ _ _ _)
        · have hh := six_heapT ((w2.drewN nq).setCell ⟨rb, 1, none⟩ (.int .i64 ((p : Int) + 1))) w.heap.size (.int .i64 4) (.int .i64 0) (.string ⟨#[]⟩) (.int .i64 0) (.int .i64 0) (.slice a' es.length cap')
          refine Dw.stay ?_ ?_ f' _ _ _ HDW.out
          · intro b hb
            refine (hh.1 b (by have := hb.1; omega)).trans ?_
            exact Below.heap_setCell _ _ _ _ (by have := hb.1; show b ≠ rb; omega)
          · intro b hb
            refine ⟨by have := hb.1; omega, ?_⟩
            rw [hh.2]
            simp only [World.setCell, Array.size_modify]
            exact hb.2
      · have n1 : ((s[p].toNat : Int) == 41) = false := by simpa using b1
        clear b1
        have HC : Hid (s[p] ≠ 41) := by
          intro e
          rw [e] at n1
          exact absurd n1 (by decide)
        go_wp2_with fail
        refine (IH.out p m _ (HR2.out.2.1.drewN _) hp (HL.out.mle)).mono ?_
        intro e w3 hout
        cases ho : one l f p m with
        | inl x =>
          rw [ho] at hout
          obtain ⟨rfl, hk3⟩ := hout
          have HQ : Hid (items (one l f) l (l.length + 1) (i + 1) n = .inl x) := by
            show items (one l f) l (l.length + 1) (i + 1) n = .inl x
            rw [HL.out.same, HK.out, items_bad HL.out.pos HAT.out HC.out ho]
            rfl
          have hkk : Keep rb w w3 := (HR2.out.1.drewN _).trans hk3
          clear hk3 ho
          go_wp2_with fail
          refine ⟨rfl, ?_⟩
          rw [HQ.out]
          exact ⟨rfl, hkk⟩
        | inr y =>
          obtain ⟨d, j', m'⟩ := y
          rw [ho] at hout
          obtain ⟨hk3, hr3, a', cap', f', rfl, hdw⟩ := hout
          have hw := one_went l f p m d j' m' (by rw [HLEN.out]; exact hp) HL.out.mle ho
          have HWT : Hid (Went l p m j' m' d) := hw
          have HQ : Hid (items (one l f) l (l.length + 1) (i + 1) n = pre (es.map (·.1) ++ [d]) (items (one l f) l k' j' m')) := by
            show items (one l f) l (l.length + 1) (i + 1) n = pre (es.map (·.1) ++ [d]) (items (one l f) l k' j' m')
            rw [HL.out.same, HK.out, items_step HL.out.pos HAT.out HC.out ho, pre_pre]
          have H3 : Hid (Keep rb w w3 ∧ Rdr rb s j' m' w3 ∧ Row (w.heap.size + 1) u5 es w3 ∧ Six w.heap.size w3 ∧ Dw (NewT (w2.drewN nq) w3) w3 f' a' cap' d.kids) := by
            refine ⟨(HR2.out.1.drewN _).trans hk3, hr3, ?_, ?_, hdw⟩
            · exact (HR2.out.2.2.1.below (below_drewN (Below.refl _ _) nq)).keep hk3 (by omega)
            · exact (HR2.out.2.2.2.after (below_drewN (Below.refl _ _) nq)).keep hk3 (by omega)
          have hs3 := hk3.size
          have hs3' : w2.heap.size ≤ w3.heap.size := hs3
          unfold dv
          clear hk3 hr3 hdw hw ho hs3 c0 c1 z1
          go_wp2_with (at_builtin; refine wpList_append_whereT rfl _ _ 24 rfl (w.heap.size + 1) 26 i0 _ 6 72 Tryz.underlying24 hinf hz0 hz1 hz2 rfl (by decide) u5 es.length (flatT es) rfl (by exact H3.out.2.2.1.own.alloc _) ⟨w3.heap.size, 0, none⟩ 1 1 [.int .i64 d.kind, .int .i64 d.n, .string d.name, .int .i64 d.stamp, .int .i64 d.lib, .slice a' d.kids.length cap'] rfl rfl ?c1 ?c2 (by decide) ?c3 ?c4 ?c5 ?_)
          case c1 =>
            intro q u hq
            have hcell := World.cell?_alloc_mark w3 #[.int .i64 d.kind, .int .i64 d.n, .string d.name, .int .i64 d.stamp, .int .i64 d.lib, .slice a' d.kids.length cap'] 26 (0, 0) q
            have hadd : (⟨w3.heap.size, 0, none⟩ : Addr).add q = ⟨w3.heap.size, q, none⟩ := by unfold Addr.add; split <;> simp_all
            rw [hadd, hcell]
            simpa using hq
          case c2 =>
            intro u hu
            simp at hu
            rcases hu with rfl | rfl | rfl | rfl | rfl | rfl <;> rfl
          case c3 => have := HL.out.few; have := HL.out.mle; unfold maxLen; omega
          case c4 => have := HL.out.few; have := HL.out.mle; omega
          case c5 => simp; omega
          intro v' w4 hown4 hg4 hw4
          have HROW : Hid (Row (w.heap.size + 1) v' (es ++ [(d, a', cap')]) w4) := by
            refine Row.push (wr := w2) _ H3.out.2.2.1 (by have := HR2.out.2.2.2.lt; omega) (fun k hk => (HR2.out.2.2.1.own.lt k hk).2) H3.out.2.2.2.2 (by have := HWT.out.name; unfold maxLen; omega) hown4 hg4 hw4
          have hrow : ∀ k, u5.ownBlock = some k → w.heap.size + 1 ≤ k := fun k hk => (HR2.out.2.2.1.own.lt k hk).1
          have H4 : Hid (Keep rb w w4 ∧ Rdr rb s j' m' w4 ∧ Six w.heap.size w4) := by
            refine ⟨(H3.out.1.alloc _).grown hg4 (fun k hk => by have := hrow k hk; omega), (H3.out.2.1.alloc _).grown hg4 ?_, (H3.out.2.2.2.1.alloc _).grown hg4 ?_⟩
            · intro e
              have := hrow rb e.symm
              omega
            · intro e
              have := hrow w.heap.size e.symm
              omega
          have hs4 : w.heap.size ≤ w4.heap.size := H4.out.1.size
          clear hown4 hg4 hw4 hrow H3
          obtain ⟨ao, ln, cp, hv'⟩ : ∃ ao ln cp, v' = .slice ao ln cp := by
            rcases HROW.out.own.2 with ⟨hv, _⟩ | ⟨gg, cap, cur, hv, _⟩
            · exact ⟨_, _, _, hv⟩
            · exact ⟨_, _, _, hv⟩
          subst hv'
          go_wp2_with fail
          refine (skip_any rb s j' m' _ H4.out.2.1 (by have := HWT.out.upto; rw [HLEN.out] at this; exact this) hs).mono ?_
          rintro e w5 ⟨rfl, hk5, hr5⟩
          have H5 : Hid (Lst l s f rb w.heap.size w i n (s.size - (j' + skipL (l.drop j') false)) (.slice ao ln cp) w5 (es ++ [(d, a', cap')]) j' k' m' (j' + skipL (l.drop j') false)) := by
            have hup := HWT.out.upto
            have hle := skip_le l j' hup
            have hfu := HL.out.fuel
            have hkk := HK.out
            have hpo := HL.out.pos
            have hon := HWT.out.on
            have hmo := HWT.out.more
            have hfe := HL.out.few
            rw [HLEN.out] at hle
            refine ⟨rfl, hle, hup, HWT.out.much, by simp; omega, by omega, rfl, H4.out.1.trans hk5, by rw [HLL.out]; exact hr5, HROW.out.keep hk5 (by omega), H4.out.2.2.keep hk5 (by omega), ?_⟩
            rw [HQ.out]
            simp
          clear hk5 hr5
          go_wp2_with fail
          go_roundg (s.size - (j' + skipL (l.drop j') false))
          case measure => have := HWT.out.on; have := H5.out.ple; omega
          case rel => exact ⟨_, _, _, _, _, H5.out⟩
    · obtain rfl : p = s.size := by omega
      rw [show ((s.size : Int) == (s.size : Int)) = true from by simp] at en
      have EN : Hid (Calls Tryz.prog 72 #[.pointer (some ⟨rb, 0, none⟩)] wr fun e w' => e = .returned (.bool true) ∧ Below wr.heap.size wr w') := en
      clear en
      have HQ : Hid (items (one l f) l (l.length + 1) (i + 1) n = .inl (2, (s.size : Int))) := by
        show items (one l f) l (l.length + 1) (i + 1) n = .inl (2, (s.size : Int))
        rw [HL.out.same, HK.out, items_none HL.out.pos (by rw [List.getElem?_eq_none (by rw [HLEN.out]; exact Nat.le_refl _)])]
        rfl
      go_wp2_with fail
      refine EN.out.mono ?_
      rintro e w2 ⟨rfl, hb2⟩
      have H2 : Hid (Keep rb w w2 ∧ Rdr rb s s.size m w2) := ⟨HL.out.keep.below hb2, HL.out.rdr.below hb2⟩
      clear hb2 EN
      go_wp2_with fail
      refine (fault_any rb s s.size m 2 _ H2.out.2).mono ?_
      rintro e w3 ⟨rfl, hb3⟩
      have hk3 : Keep rb w w3 := H2.out.1.below hb3
      clear hb3
      go_wp2_with fail
      refine ⟨rfl, ?_⟩
      rw [HQ.out]
      exact ⟨rfl, hk3⟩
end Go.Proofs.YtonafbennobgdaaGreatDoor
