/- Chapter 9: how what is quoted is written. -/
import Derived.Test.YtdnbingddbakaaaGreatDoorK36
import Derived.Test.YtdnbingddbakaaaGreatDoorK39
namespace Go.Proofs.YtdnbingddbakaaaGreatDoor
set_option linter.unusedVariables false
set_option linter.unusedSimpArgs false
open Go.RowKit

/-- What is told of a quote that is written. -/
def ToldQ (B b : Nat) (l : List UInt8) (d : Dat) (w : World) (r : Ending) (w' : World) : Prop :=
  Fw B b w w' ∧ ((6000 < (printed [d]).length ∧ r = .returned (.int .i64 4)) ∨ ((printed [d]).length ≤ 6000 ∧ r = .returned (.int .i64 0) ∧ WR B b (l ++ textB (qtP d)) w'))
theorem Fw.below {B b : Nat} {w w1 w2 : World} (h : Fw B b w w1) (hB : B ≤ w.heap.size) (hb : Below w1.heap.size w1 w2) : Fw B b w w2 :=
  ⟨h.1.trans (hb.mono (Nat.le_trans hB h.1.size)), fun k x hk a c => (hb.block k (Array.getElem?_eq_some_iff.1 (h.2 k x hk a c)).1).trans (h.2 k x hk a c)⟩
theorem WR.below {B b : Nat} {l : List UInt8} {w w' : World} (h : WR B b l w) (hb : Below w.heap.size w w') : WR B b l w' := by
  exact LibA.IsBuffer.carry h fun k hk => hb.block k hk
set_option maxRecDepth 100000 in
set_option maxHeartbeats 3200000 in
theorem wquote_any (B b : Nat) (l : List UInt8) (d : Dat) (qa : Option Addr) (qc f : Nat) (w : World) (h : WR B b l w) (hB : B ≤ w.heap.size) (ht : Tab B w) (hl : l.length ≤ 200000) (hd : (wrong [d]).1 = 0) (hn : d.name.size ≤ maxLen) (hk : Dc (fun k => k < B) w f qa d.kids) :
    Calls Tryz.prog 88 #[.pointer (some ⟨b, 0, none⟩), .agg #[.int .i64 d.kind, .int .i64 d.n, .string d.name, .int .i64 d.stamp, .int .i64 d.lib, .slice qa d.kids.length qc]] w (ToldQ B b l d w) := by
  have b1 := (Below.refl w.heap.size w).alloc (Nat.le_refl _) (.cells #[.int .i64 d.kind, .int .i64 d.n, .string d.name, .int .i64 d.stamp, .int .i64 d.lib, .slice qa d.kids.length qc] 50)
  have s1 : (w.alloc (.cells #[.int .i64 d.kind, .int .i64 d.n, .string d.name, .int .i64 d.stamp, .int .i64 d.lib, .slice qa d.kids.length qc] 50)).heap.size = w.heap.size + 1 := by simp
  have a1 := World.alloc_heap_new w (.cells #[.int .i64 d.kind, .int .i64 d.n, .string d.name, .int .i64 d.stamp, .int .i64 d.lib, .slice qa d.kids.length qc] 50)
  have hk1 : Dc (fun k => k < B) (w.alloc (.cells #[.int .i64 d.kind, .int .i64 d.n, .string d.name, .int .i64 d.stamp, .int .i64 d.lib, .slice qa d.kids.length qc] 50)) f qa d.kids := Dc.stay (fun k hk => b1.block k (by omega)) (fun _ h => h) _ _ _ hk
  generalize hV : w.alloc (.cells #[.int .i64 d.kind, .int .i64 d.n, .string d.name, .int .i64 d.stamp, .int .i64 d.lib, .slice qa d.kids.length qc] 50) = V at b1 s1 a1 hk1
  have hBV : B ≤ V.heap.size := by omega
  have b2 := (Below.refl V.heap.size V).alloc (Nat.le_refl _) (.cells #[.int .i64 d.kind, .int .i64 d.n, .string d.name, .int .i64 d.stamp, .int .i64 d.lib, .slice qa d.kids.length qc] 50)
  have PR := Print_any (V.heap.size + 1) (f + 1) [d] (some ⟨V.heap.size, 0, none⟩) 1 _ (Lies.one (cap := qc) hBV (Dc.lies (fun _ h => h) _ _ _ hk1) hn) (by simp) (((ht.below (b1.mono hB)).below (b2.mono hBV)).mono (by omega))
  have W0 := hidd ((h.below b1).below b2)
  have F0 := hidd (((Fw.refl B b w).below hB b1).below hB b2)
  obtain ⟨p, hp⟩ : ∃ p, p = prt [d] := ⟨_, rfl⟩
  rw [← hp] at PR
  have HP := hidd hp
  have PRH := hidd PR
  have HD := hidd hd
  have v0 : V.cell? ⟨w.heap.size, 0, none⟩ = some (.int .i64 d.kind) := (cellO a1).trans rfl
  have v1 : V.cell? ⟨w.heap.size, 1, none⟩ = some (.int .i64 d.n) := (cellO a1).trans rfl
  have v2 : V.cell? ⟨w.heap.size, 2, none⟩ = some (.string d.name) := (cellO a1).trans rfl
  have v3 : V.cell? ⟨w.heap.size, 3, none⟩ = some (.int .i64 d.stamp) := (cellO a1).trans rfl
  have v4 : V.cell? ⟨w.heap.size, 4, none⟩ = some (.int .i64 d.lib) := (cellO a1).trans rfl
  have v5 : V.cell? ⟨w.heap.size, 5, none⟩ = some (.slice qa d.kids.length qc) := (cellO a1).trans rfl
  obtain ⟨s, y, z⟩ := p
  simp only [List.length_cons, List.length_nil] at PRH
  clear PR hp hd hk hk1 a1 b1 b2 h ht s1
  go_enter Tryz.func88, Tryz.ntmps88
  go_upto_region 1 with fail
  try rw [hV]
  clear hV
  go_wp2_with fail
  refine PRH.out.mono ?_
  rintro e W1 ⟨rfl, hb1⟩
  unfold fv
  have bz := (Below.refl W1.heap.size W1).alloc (Nat.le_refl _) (.cells #[.int .i64 y, .int .i64 z] 42)
  have F2 := hidd ((F0.out.below hB hb1).below hB bz)
  have WR2 := hidd ((W0.out.below hb1).below bz)
  have AZ := hidd (World.alloc_heap_new W1 (.cells #[.int .i64 y, .int .i64 z] 42))
  clear hb1 bz PRH W0 F0 v0 v1 v2 v3 v4 v5
  go_upto_region 2 with fail
  generalize W1.alloc (.cells #[.int .i64 y, .int .i64 z] 42) = V3 at F2 WR2 AZ ⊢
  generalize W1.heap.size = fb at AZ ⊢
  have c0 : V3.cell? ⟨fb, 0, none⟩ = some (.int .i64 y) := (cellO AZ.out).trans rfl
  by_cases hlen : 6000 < (printed [d]).length
  · have e1 := HP.out
    rw [prt_much HD.out hlen] at e1
    simp only [Prod.mk.injEq] at e1
    obtain ⟨rfl, rfl, rfl⟩ := e1
    have HL := hidd hlen
    clear hlen
    go_wp2_with fail
    go_ret
    exact ⟨F2.out, Or.inl ⟨HL.out, rfl⟩⟩
  · have e1 := HP.out
    rw [prt_ok HD.out hlen] at e1
    simp only [Prod.mk.injEq] at e1
    obtain ⟨rfl, rfl, rfl⟩ := e1
    have hq : qtP d = ⟨(printed [d]).toArray⟩ := by unfold qtP; rw [if_neg hlen]
    have hsz : (⟨(printed [d]).toArray⟩ : ByteArray).size = (printed [d]).length := by simp [ByteArray.size]
    have T := hidd (wtext_any B b l ⟨(printed [d]).toArray⟩ V3 WR2.out (Nat.le_trans hB F2.out.1.size) (by omega) (by rw [hsz]; omega))
    have HL : Hid ((printed [d]).length ≤ 6000) := Nat.le_of_not_lt hlen
    have HQ := hidd hq
    clear hlen hq hsz
    generalize (⟨(printed [d]).toArray⟩ : ByteArray) = S at T HQ ⊢
    go_wp2_with fail
    refine T.out.mono ?_
    rintro e W4 ⟨rfl, k1, k2⟩
    have K1 := hidd k1
    have K2 := hidd (F2.out.trans k2)
    clear k1 k2 T
    go_wp2_with fail
    go_ret
    exact ⟨K2.out, Or.inr ⟨HL.out, rfl, by rw [HQ.out]; exact K1.out⟩⟩
theorem big_quote {d : Dat} (h : 6000 < (printed [d]).length) : 60000 < (textB (qtP d)).length := by
  unfold qtP textB
  rw [if_pos h, List.length_append]
  simp only [List.toList_toArray, List.length_replicate]
  omega
set_option maxRecDepth 100000 in
set_option maxHeartbeats 3200000 in
theorem ins_w3 (B b ib io : Nat) (l : List UInt8) (x : In) (qa : Option Addr) (qc : Nat) (w : World) (h : WR B b l w) (hB : B ≤ w.heap.size) (hib : ib < B) (hl : l.length ≤ 100000) (ht : Tab B w) (h3 : x.op = 3) (hd : (wrong [x.quote]).1 = 0) (hil : IL B w ib io x qa qc) :
    Calls Tryz.prog 58 #[.pointer (some ⟨b, 0, none⟩), .pointer (some ⟨ib, io, none⟩)] w (ToldWI qtP B b l x w) := by
  have LY := hidd (fun w => layoutOf_any 3 w)
  rw [show layW 3 = 3 by decide] at LY
  have CO := hidd (count_any B b l 3 w h hB (by omega) (by omega) (by omega))
  have HLo := hidd (numB_len (n := 3) (by omega) (by omega))
  have CELL : Hid (∀ w1, Fw B b w w1 → ∀ q v, w.cell? ⟨ib, q, none⟩ = some v → w1.cell? ⟨ib, q, none⟩ = some v) := fun w1 hf q v hv => (hf.1.cell (p := ⟨ib, q, none⟩) hib).trans hv
  have HIL := hidd hil
  have HT := hidd ht
  have HD := hidd hd
  have EB : Hid (insB qtP x = numB 3 ++ textB (qtP x.quote)) := by unfold Hid insB; rw [h3]; simp [layW]
  have c0 : w.cell? ⟨ib, io, none⟩ = some (.int .i64 3) := by rw [hil.c0, h3]
  have HC0 := hidd c0
  clear h hil ht hd h3
  go_enter Tryz.func58, Tryz.ntmps58
  go_wp2_with fail
  refine CO.out.mono ?_
  rintro e w2 ⟨rfl, k1, k2⟩
  have hB2 : B ≤ w2.heap.size := Nat.le_trans hB k2.1.size
  have hl2 : (l ++ numB 3).length ≤ 100010 := by rw [List.length_append]; have := HLo.out; omega
  obtain ⟨kf, hkf⟩ := (HIL.out.below hib k2.1).lk
  have QT := hidd (wquote_any B b _ x.quote qa qc kf w2 k1 hB2 (HT.out.below k2.1) (by omega) HD.out HIL.out.l7 hkf)
  have F2 := hidd k2
  clear k1 k2 CO c0 hkf
  have c0 := CELL.out w2 F2.out _ _ HC0.out
  have c5 := CELL.out w2 F2.out _ _ HIL.out.c5
  have c6 := CELL.out w2 F2.out _ _ HIL.out.c6
  have c7 := CELL.out w2 F2.out _ _ HIL.out.c7
  have c8 := CELL.out w2 F2.out _ _ HIL.out.c8
  have c9 := CELL.out w2 F2.out _ _ HIL.out.c9
  have c10 := CELL.out w2 F2.out _ _ HIL.out.c10
  go_wp2_with fail
  refine (LY.out _).mono ?_
  rintro e w3 ⟨rfl, rfl⟩
  go_wp2_with fail
  refine QT.out.mono ?_
  rintro e w4 ⟨kf4, hc4⟩
  have F4 := hidd (F2.out.trans kf4)
  clear c0 c5 c6 c7 c8 c9 c10 QT kf4
  rcases hc4 with ⟨hbig, rfl⟩ | ⟨hsm, rfl, hwr⟩
  · have hlen : ¬ (l ++ insB qtP x).length ≤ 60000 := by
      rw [EB.out]
      have := big_quote hbig
      simp only [List.length_append]
      omega
    have HLN := hidd hlen
    clear hbig hlen
    go_wp2_with fail
    go_ret
    exact ⟨by rw [if_neg HLN.out]; rfl, fun h => absurd h HLN.out, F4.out⟩
  · have R4 := hidd hwr
    have LN := hidd (Tryz.Buffer_Len_at 65 _ B b 0 _ w4 R4.out)
    rw [bc_len] at LN
    obtain ⟨ln, hln⟩ : ∃ n, n = (l ++ numB 3 ++ textB (qtP x.quote)).length := ⟨_, rfl⟩
    rw [← hln] at LN
    have HLN := hidd hln
    have hsm2 : ln ≤ 200000 := by
      rw [hln]
      have h1 := textB_len (s := qtP x.quote) (by
        unfold qtP
        rw [if_neg (by omega)]
        simp [ByteArray.size]
        omega)
      have h2 : (qtP x.quote).size ≤ 6000 := by
        unfold qtP
        rw [if_neg (by omega)]
        simp [ByteArray.size]
        omega
      simp only [List.length_append] at hl2 ⊢
      omega
    clear hln hwr hsm
    go_wp2_with fail
    refine LN.out.mono ?_
    rintro e w9 ⟨rfl, nd, rfl⟩
    by_cases hle : ln ≤ 60000
    · have hle' : decide ((ln : Int) ≤ 60000) = true := by simp; omega
      go_wp2_with fail
      refine (otherwise_any true 4 _).mono ?_
      rintro e w8 ⟨rfl, rfl⟩
      go_wp2_with fail
      go_ret
      exact endW R4.out F4.out HLN.out (by rw [EB.out, List.append_assoc]) (Or.inl ⟨hle, rfl⟩)
    · have hle' : decide ((ln : Int) ≤ 60000) = false := by simp; omega
      go_wp2_with fail
      refine (otherwise_any false 4 _).mono ?_
      rintro e w8 ⟨rfl, rfl⟩
      go_wp2_with fail
      go_ret
      exact endW R4.out F4.out HLN.out (by rw [EB.out, List.append_assoc]) (Or.inr ⟨hle, rfl⟩)
end Go.Proofs.YtdnbingddbakaaaGreatDoor
