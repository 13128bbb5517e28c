/- The document's answer to what is wrong with one part. -/
import Derived.Test.YtfmanhkeclogfaaGreatDoorK47
namespace Go.Proofs.YtfmanhkeclogfaaGreatDoor
set_option linter.unusedVariables false
set_option linter.unusedSimpArgs false
open Go.RowKit

theorem ckB_at {l : List Cor} {j : Nat} {c : Cor} (h : l[j]? = some c) : ckB (l.drop j) = if (ckC 300 0 c 0).1 = 0 then ckB (l.drop (j + 1)) else (ckC 300 0 c 0).1 := by
  obtain ⟨h1, h2⟩ := List.getElem?_eq_some_iff.1 h
  rw [List.drop_eq_getElem_cons h1, h2, ckB]
theorem Af.cells {w W : World} (h : Af w W) : W.cell? ⟨w.heap.size, 0, none⟩ = some (.int .i64 0) ∧ W.cell? ⟨w.heap.size, 1, none⟩ = some (.int .i64 0) ∧ W.frozen? ⟨w.heap.size, 0, none⟩ = false ∧ W.frozen? ⟨w.heap.size, 1, none⟩ = false := by
  refine ⟨?_, ?_, ?_, ?_⟩ <;> simp [World.cell?, World.frozen?, h.box]

theorem ctr_made (w : World) (o : Obj) : Ctr (w.heap.size + 1) 0 ((w.alloc o).alloc (.cells #[.int .i64 0] 3)) := by
  have e : w.heap.size + 1 = (w.alloc o).heap.size := by simp
  have h := World.alloc_heap_new (w.alloc o) (.cells #[.int .i64 0] 3)
  rw [e]
  refine ⟨by simp, (cellOf h).trans rfl, ?_⟩
  unfold World.frozen?
  simp only
  rw [h]
  rfl

set_option maxRecDepth 100000 in
set_option maxHeartbeats 3200000 in
theorem refWrong1 (B g N : Nat) (nm : ByteArray) (l : List Cor) (a : Option Addr) (cap : Nat) (w : World) (hl : Cc B w g a l) (hB : B ≤ w.heap.size) (hcap : l.length ≤ cap)
    (hN : w.heap[N]? = some (.cells #[.string nm, .slice a l.length cap] 39 (0, 0))) :
    Calls Tryz.prog 18 #[.slice (some ⟨N, 0, none⟩) 1 1] w fun e w' => e = .returned (fv (wrongB l, 0)) ∧ Below w.heap.size w w' := by
  have hNl : N < w.heap.size := (Array.getElem?_eq_some_iff.1 hN).1
  have c0 : w.cell? ⟨N, 0, none⟩ = some (.string nm) := by simp [World.cell?, hN]
  have c1 : w.cell? ⟨N, 1, none⟩ = some (.slice a l.length cap) := by simp [World.cell?, hN]
  have HL := hidd hl
  have HA := hidd (Af.start w)
  have hlen := hl.len
  obtain ⟨Y, hY⟩ : ∃ y, y = wrongB l := ⟨_, rfl⟩
  rw [← hY]
  have HY := hidd hY
  clear hl hN hY
  go_enter Tryz.func18, Tryz.ntmps18
  go_wp2_with fail
  go_loopw [15] (fun i wr => ∃ j : Nat, j ≤ 1 ∧ i = .int .i64 j ∧ Hid (Af w wr) ∧ Hid (j = 1 → Y = 0)) (fun i _ => 1 - (intOf i).toNat)
  case atStart => exact ⟨0, by omega, rfl, HA.out, fun h => by cases h⟩
  case round =>
    clear HA
    obtain ⟨j, hj, rfl, HA, HZ⟩ := hrel
    by_cases hlt : j < 1
    · obtain rfl : j = 0 := by omega
      have d0 := (HA.out.below.cell (p := ⟨N, 0, none⟩) hNl).trans c0
      have d1 := (HA.out.below.cell (p := ⟨N, 1, none⟩) hNl).trans c1
      have ba : Below wr.heap.size wr (wr.alloc (.cells #[.string nm, .slice a l.length cap] 39)) := (Below.refl _ _).alloc (Nat.le_refl _) _
      have HA2 := hidd (HA.out.next ba)
      have PB := hidd (World.alloc_heap_new wr (.cells #[.string nm, .slice a l.length cap] 39))
      clear ba c0 c1 HZ HA
      go_upto_region 6 with fail
      clear d0 d1
      generalize wr.alloc (.cells #[.string nm, .slice a l.length cap] 39) = W1 at HA2 PB ⊢
      generalize wr.heap.size = pb at PB ⊢
      have d1 : W1.cell? ⟨pb, 1, none⟩ = some (.slice a l.length cap) := (cellOf PB.out).trans rfl
      obtain ⟨q0, q1, z0, z1⟩ := HA2.out.cells
      by_cases hm : 200 < l.length
      · have hy := HY.out
        unfold wrongB at hy
        rw [if_pos hm] at hy
        subst hy
        have hm' : (200 : Int) < l.length := by omega
        go_wp2_with fail
        refine bodyPost_ret (v := fv (5, 0)) (by simp [results, Tryz.results18, go_sem, fv, q0, q1]) rfl ⟨rfl, HA2.out.set _ _⟩
      have hy := HY.out
      unfold wrongB at hy
      rw [if_neg hm] at hy
      have HYB := hidd hy
      clear hy HY q0 q1 z0 z1
      go_wp2_with fail
      clear d1 PB
      go_loopw [29] (fun ix wr => ∃ j : Nat, j ≤ l.length ∧ ix = .int .i64 j ∧ Hid (Af w wr) ∧ Hid (ckB l = ckB (l.drop j))) (fun ix _ => l.length - (intOf ix).toNat)
      case atStart => exact ⟨0, Nat.zero_le _, rfl, HA2.out, (show _ = _ by simp)⟩
      case round =>
        clear HA2
        obtain ⟨j, hj2, rfl, HA, HE⟩ := hrel
        by_cases hlk : j < l.length
        · obtain ⟨c, hc⟩ : ∃ c, l[j]? = some c := ⟨l[j], List.getElem?_eq_getElem hlk⟩
          have hne : l ≠ [] := by intro e; rw [e] at hlk; simp at hlk
          obtain ⟨g', b', o', hg, ha, hall⟩ := (HL.out.below (HA.out.below.mono hB)).at hne
          subst ha
          obtain ⟨hbB, qa, qc, ka, kc, nc, ok, hq, hk⟩ := hall j c hc
          have k0 := nc.c0
          have k1 := nc.c1
          have k2 := nc.c2
          have k3 := nc.c3
          have k4 := nc.c4
          have k5 := nc.c5
          have k6 := nc.c6
          have k7 := nc.c7
          have k8 := nc.c8
          have k9 := nc.c9
          have k10 := nc.c10
          have k11 := nc.c11
          have ba : Below wr.heap.size wr ((wr.alloc (.cells #[.int .i64 c.kind, .int .i64 c.index, .int .i64 c.n, .string c.lib, .string c.own, .int .i64 c.quote.kind, .int .i64 c.quote.n, .string c.quote.name, .int .i64 c.quote.stamp, .int .i64 c.quote.lib, .slice qa c.quote.kids.length qc, .slice ka c.kids.length kc] 90)).alloc (.cells #[.int .i64 0] 3)) := ((Below.refl _ _).alloc (Nat.le_refl _) _).alloc (by simp) _
          have hcv : CvOk B ((wr.alloc (.cells #[.int .i64 c.kind, .int .i64 c.index, .int .i64 c.n, .string c.lib, .string c.own, .int .i64 c.quote.kind, .int .i64 c.quote.n, .string c.quote.name, .int .i64 c.quote.stamp, .int .i64 c.quote.lib, .slice qa c.quote.kids.length qc, .slice ka c.kids.length kc] 90)).alloc (.cells #[.int .i64 0] 3)) g' c qa qc ka kc := CvOk.below (w := wr) ⟨ok, hq, hk⟩ (ba.mono (Nat.le_trans hB HA.out.below.size))
          have hctr : Ctr (wr.heap.size + 1) 0 ((wr.alloc (.cells #[.int .i64 c.kind, .int .i64 c.index, .int .i64 c.n, .string c.lib, .string c.own, .int .i64 c.quote.kind, .int .i64 c.quote.n, .string c.quote.name, .int .i64 c.quote.stamp, .int .i64 c.quote.lib, .slice qa c.quote.kids.length qc, .slice ka c.kids.length kc] 90)).alloc (.cells #[.int .i64 0] 3)) := ctr_made wr _
          have CALL := hidd (CShape_any B (wr.heap.size + 1) (by have := HA.out.below.size; omega) 300 (Nat.le_refl _) g' c qa ka qc kc 0 0 _ (Int.le_refl _) (by simp) hcv (Nat.zero_le _) hctr)
          unfold cva at CALL
          rw [show (((301 - 300 : Nat) : Int)) = 1 by rfl] at CALL
          have HAa := hidd (HA.out.next ba)
          have BAA := hidd ba
          have ED := hidd (ckB_at hc)
          have hsz : w.heap.size ≤ wr.heap.size := HA.out.below.size
          clear nc ok hq hk hall hc hne hcv hctr ba
          go_wp2_with fail
          refine CALL.out.mono ?_
          rintro e w3 ⟨rfl, hk3, hc3⟩
          have HA3 : Hid (Af w w3) := HA.out.next (BAA.out.trans (hk3.toBelow (Nat.le_succ _) (by simp; omega)))
          have ED2 : Hid (ckB l = if (ckC 300 0 c 0).1 = 0 then ckB (l.drop (j + 1)) else (ckC 300 0 c 0).1) := HE.out.trans ED.out
          clear hk3 hc3 CALL HE HAa BAA ED HA k0 k1 k2 k3 k4 k5 k6 k7 k8 k9 k10 k11
          generalize ckC 300 0 c 0 = yy at ED2 ⊢
          obtain ⟨y1, y2⟩ := yy
          simp only at ED2 ⊢
          by_cases y0 : y1 = 0
          · subst y0
            have E3 : Hid (ckB l = ckB (l.drop (j + 1))) := by have h := ED2.out; rw [if_pos rfl] at h; exact h
            clear ED2
            go_wp2_with fail
            go_roundw
            case rel => exact ⟨j + 1, by omega, by go_num, HA3.out, E3.out⟩
            case measure => simp [intOf]; omega
          · have y0' : (y1 != 0) = true := by simpa using y0
            have E3 : Hid (Y = y1) := by have h := ED2.out; rw [if_neg y0, ← HYB.out] at h; exact h
            have e3 := E3.out
            subst e3
            obtain ⟨q0, q1, z0, z1⟩ := HA3.out.cells
            clear ED2 E3
            go_wp2_with fail
            refine bodyPost_ret (v := fv (Y, 0)) (by simp [results, Tryz.results18, go_sem, fv, q0, q1]) rfl ⟨rfl, HA3.out.set _ _⟩
        · obtain rfl : j = l.length := by omega
          have hy0 : Y = 0 := by rw [HYB.out, HE.out, List.drop_length]; rfl
          have HY0 := hidd hy0
          clear HE hy0
          go_wp2_with fail
          go_roundw
          case rel => exact ⟨1, by omega, by go_num, HA.out, fun _ => HY0.out⟩
          case measure => simp [intOf]
    · obtain rfl : j = 1 := by omega
      have hy0 := HZ.out rfl
      subst hy0
      obtain ⟨q0, q1, z0, z1⟩ := HA.out.cells
      clear c0 c1
      go_wp2_with fail
      refine bodyPost_ret (v := fv (0, 0)) (by simp [results, Tryz.results18, go_sem, fv, q0, q1]) rfl ⟨rfl, HA.out.set _ _⟩
end Go.Proofs.YtfmanhkeclogfaaGreatDoor
