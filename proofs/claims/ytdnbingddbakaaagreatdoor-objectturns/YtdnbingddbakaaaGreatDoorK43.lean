/- Chapter 9: how what is quoted is read. -/
import Derived.Test.YtdnbingddbakaaaGreatDoorK36
import Derived.Test.YtdnbingddbakaaaGreatDoorK42
namespace Go.Proofs.YtdnbingddbakaaaGreatDoor
set_option linter.unusedVariables false
set_option linter.unusedSimpArgs false
open Go.RowKit

theorem Dw.dc {ok : Nat → Prop} {w : World} : ∀ (f : Nat) (a : Option Addr) (cp : Nat) (ds : List Dat), Dw ok w f a cp ds → Dc ok w f a ds
  | 0, _, _, _, h => h
  | f + 1, a, cp, ds, h => by
    obtain ⟨hl, h⟩ := h
    refine ⟨hl.1, ?_⟩
    rcases h with h | ⟨b, o, ha, hb, h⟩
    · exact Or.inl h
    · refine Or.inr ⟨b, o, ha, hb, fun i d hd => ?_⟩
      obtain ⟨a', cap, c0, c1, c2, c3, c4, c5, hn, hk⟩ := h i d hd
      exact ⟨a', cap, c0, c1, c2, c3, c4, c5, hn, hk.cap, Dw.dc f a' cap _ hk⟩
theorem ret120 {ts : Array Value} {W : World} {N : Nat} {x0 x1 x2 x3 x4 x5 : Value} (h : W.heap[N]? = some (.cells #[x0, x1, x2, x3, x4, x5] 50 (0, 0))) (h4 : ts[2]? = some (.pointer (some ⟨N, 0, none⟩))) :
    (results Tryz.f120 ts).run Tryz.prog W = .ok (.agg #[x0, x1, x2, x3, x4, x5]) W := by
  have cc : ∀ q, W.cell? ⟨N, q, none⟩ = #[x0, x1, x2, x3, x4, x5][q]? := fun q => by simp [World.cell?, h]
  have q0 := cc 0
  have q1 := cc 1
  have q2 := cc 2
  have q3 := cc 3
  have q4 := cc 4
  have q5 := cc 5
  simp at q0 q1 q2 q3 q4 q5
  simp [results, Tryz.results120, go_sem, h4, q0, q1, q2, q3, q4, q5]
/-- Six cells of a block, set. -/
def fill6 (W : World) (N : Nat) (x0 x1 x2 x3 x4 x5 : Value) : World := (((((W.setCell ⟨N, 0, none⟩ x0).setCell ⟨N, 1, none⟩ x1).setCell ⟨N, 2, none⟩ x2).setCell ⟨N, 3, none⟩ x3).setCell ⟨N, 4, none⟩ x4).setCell ⟨N, 5, none⟩ x5
theorem fill6_keep (W : World) (N : Nat) (x0 x1 x2 x3 x4 x5 : Value) : Keep N W (fill6 W N x0 x1 x2 x3 x4 x5) := by
  unfold fill6
  exact ((((((Keep.refl N W).setCell _ rfl x0).setCell _ rfl x1).setCell _ rfl x2).setCell _ rfl x3).setCell _ rfl x4).setCell _ rfl x5
theorem fill6_heap {W : World} {N : Nat} {y0 y1 y2 y3 y4 y5 : Value} {t : TypeId} (h : W.heap[N]? = some (.cells #[y0, y1, y2, y3, y4, y5] t (0, 0))) (x0 x1 x2 x3 x4 x5 : Value) : (fill6 W N x0 x1 x2 x3 x4 x5).heap[N]? = some (.cells #[x0, x1, x2, x3, x4, x5] t (0, 0)) := by
  have h0 := heap_setCell_same W N 0 _ t x0 h
  have h1 := heap_setCell_same _ N 1 _ t x1 h0
  have h2 := heap_setCell_same _ N 2 _ t x2 h1
  have h3 := heap_setCell_same _ N 3 _ t x3 h2
  have h4 := heap_setCell_same _ N 4 _ t x4 h3
  have h5 := heap_setCell_same _ N 5 _ t x5 h4
  simp only [List.setIfInBounds_toArray, List.set_cons_succ, List.set_cons_zero] at h5
  exact h5
theorem emD_cells : (Value.agg #[.int .i64 emD.kind, .int .i64 emD.n, .string emD.name, .int .i64 emD.stamp, .int .i64 emD.lib, .slice none emD.kids.length 0]) = .agg #[.int .i64 0, .int .i64 0, .string ⟨#[]⟩, .int .i64 0, .int .i64 0, .slice none 0 0] := rfl
set_option maxRecDepth 100000 in
set_option maxHeartbeats 6400000 in
theorem rquote_any : Qok qrP := by
  intro M b l bad w d l' bad' h hq
  have ba := (Below.refl w.heap.size w).alloc (Nat.le_refl _) (.cells #[.int .i64 0, .int .i64 0, .string ⟨#[]⟩, .int .i64 0, .int .i64 0, .slice none 0 0] 50)
  have HZ := hidd (World.alloc_heap_new w (.cells #[.int .i64 0, .int .i64 0, .string ⟨#[]⟩, .int .i64 0, .int .i64 0, .slice none 0 0] 50))
  have hM := h.2.1
  have hbM := h.1
  have T0 := hidd (rtext_any M b l bad _ (h.below (ba.mono hM)))
  have K0 := hidd ((Keep.refl b w).below ba)
  have HLM := hidd h.len
  have HTL : Hid ((textR l bad).1.length ≤ l.length) := by
    unfold Hid textR
    simp only [List.length_take]
    have := countR_len l bad
    omega
  have hs0 : w.heap.size < (w.alloc (.cells #[.int .i64 0, .int .i64 0, .string ⟨#[]⟩, .int .i64 0, .int .i64 0, .slice none 0 0] 50)).heap.size := by simp
  unfold qrP at hq
  obtain ⟨⟨s, l1, b1⟩, ht⟩ : ∃ t, textR l bad = t := ⟨_, rfl⟩
  rw [ht] at T0 HTL hq
  simp only at HTL hq
  have HQ := hidd hq
  clear h hq ht ba
  go_enter Tryz.func120, Tryz.ntmps120
  go_upto_region 1 with fail
  generalize w.alloc (.cells #[.int .i64 0, .int .i64 0, .string ⟨#[]⟩, .int .i64 0, .int .i64 0, .slice none 0 0] 50) = V0 at HZ T0 K0 hs0 ⊢
  obtain ⟨N, hN⟩ : ∃ N, N = w.heap.size := ⟨_, rfl⟩
  rw [← hN] at HZ hs0 ⊢
  have HN := hidd hN
  clear hN
  go_wp2_with fail
  refine T0.out.mono ?_
  rintro e V1 ⟨rfl, r1, k1⟩
  simp only at r1
  have hNb : N ≠ b := by rw [HN.out]; omega
  have HZ1 := hidd ((k1.block _ hs0 (by simpa using hNb)).trans HZ.out)
  have K1 := hidd (K0.out.trans k1)
  have R1 := hidd r1
  have hs1 : N < V1.heap.size := Nat.lt_of_lt_of_le hs0 k1.size
  have RR := hidd (Read_any ⟨s.toArray⟩ V1 (by simp [ByteArray.size]; have := HLM.out; have := HTL.out; omega))
  simp only [List.toList_toArray] at RR
  clear r1 k1 T0 HZ K0 hs0
  go_wp2_with fail
  refine RR.out.mono ?_
  rintro e V2 ⟨hb2, ho⟩
  have HZ2 := hidd ((hb2.block _ hs1).trans HZ1.out)
  have K2 := hidd (K1.out.below hb2)
  have R2 := hidd (R1.out.below (hb2.mono R1.out.2.1))
  have hs2 : N < V2.heap.size := Nat.lt_of_lt_of_le hs1 hb2.size
  have NW : Hid (w.heap.size ≤ V1.heap.size) := by unfold Hid; rw [← HN.out]; omega
  obtain ⟨a, cap, ds, x, f, rfl, hdw, hrel⟩ : ∃ a cap ds x f, e = .returned (.tuple #[.slice a ds.length cap, fv x]) ∧ Dw (NewT V1 V2) V2 f a cap ds ∧ ((ds = [] ∧ readL s = .inl x) ∨ readL s = .inr ds) := by
    cases hr : readL s with
    | inl x => rw [hr] at ho; exact ⟨none, 0, [], x, 0, ho, Dw.nil _ _ _ _ _, Or.inl ⟨rfl, rfl⟩⟩
    | inr ds => rw [hr] at ho; obtain ⟨a, cap, f, he, hd⟩ := ho; exact ⟨a, cap, ds, (0, 0), f, he, hd, Or.inr rfl⟩
  have hwr : (wrong ds).1 = 0 := by
    rcases hrel with ⟨rfl, _⟩ | h
    · rfl
    · rw [read_right h]
  have HRES : Hid ((∃ d0, ds = [d0] ∧ printed [d0] = s ∧ d = d0 ∧ l' = l1 ∧ bad' = b1) ∨ ((∀ d0, ds = [d0] → printed [d0] ≠ s) ∧ d = emD ∧ l' = l1 ∧ bad' = true)) := by
    have hq := HQ.out
    unfold Hid
    rcases hrel with ⟨rfl, hr⟩ | hr
    · rw [hr] at hq
      simp only [Option.some.injEq, Prod.mk.injEq] at hq
      exact Or.inr ⟨fun d0 h => by simp at h, hq.1.symm, hq.2.1.symm, hq.2.2.symm⟩
    · rw [hr] at hq
      rcases ds with _ | ⟨d0, _ | ⟨d1, r⟩⟩
      · simp only [Option.some.injEq, Prod.mk.injEq] at hq
        exact Or.inr ⟨fun d0 h => by simp at h, hq.1.symm, hq.2.1.symm, hq.2.2.symm⟩
      · simp only at hq
        by_cases hp : printed [d0] = s
        · rw [if_pos hp] at hq
          simp only [Option.some.injEq, Prod.mk.injEq] at hq
          exact Or.inl ⟨d0, rfl, hp, hq.1.symm, hq.2.1.symm, hq.2.2.symm⟩
        · rw [if_neg hp] at hq
          simp only [Option.some.injEq, Prod.mk.injEq] at hq
          exact Or.inr ⟨fun d1 h => by simp at h; rw [← h]; exact hp, hq.1.symm, hq.2.1.symm, hq.2.2.symm⟩
      · simp only [Option.some.injEq, Prod.mk.injEq] at hq
        exact Or.inr ⟨fun d0 h => by simp at h, hq.1.symm, hq.2.1.symm, hq.2.2.symm⟩
  have HS6 : Hid (∀ d0, ds = [d0] → s.length ≤ 6000 ∧ s ≠ []) := fun d0 hd => by
    rcases hrel with ⟨h0, _⟩ | hr
    · rw [h0] at hd; simp at hd
    · refine ⟨(readL_ok hr).1, fun h0 => ?_⟩
      rw [h0, hd] at hr
      have : readL [] = .inr [] := by rfl
      rw [this] at hr
      simp at hr
  obtain ⟨x1, x2⟩ := x
  unfold fv
  have b3 := (Below.refl V2.heap.size V2).alloc (Nat.le_refl _) (.cells #[.int .i64 x1, .int .i64 x2] 42)
  have hd3 : Dw (fun k => V1.heap.size ≤ k ∧ k < V2.heap.size) (V2.alloc (.cells #[.int .i64 x1, .int .i64 x2] 42)) f a cap ds := Dw.stay (fun k hk => b3.block k hk.2) (fun k hk => hk) f a cap ds hdw
  have HZ3 := hidd ((b3.block _ hs2).trans HZ2.out)
  have K3 := hidd (K2.out.below b3)
  have R3 := hidd (R2.out.below (b3.mono R2.out.2.1))
  have hs3 : N < (V2.alloc (.cells #[.int .i64 x1, .int .i64 x2] 42)).heap.size := Nat.lt_of_lt_of_le hs2 b3.size
  have hV23 : V2.heap.size ≤ (V2.alloc (.cells #[.int .i64 x1, .int .i64 x2] 42)).heap.size := b3.size
  obtain ⟨n, hn⟩ : ∃ n, n = ds.length := ⟨_, rfl⟩
  rw [← hn]
  have HNN := hidd hn
  have HD3 := hidd hd3
  have HWR := hidd hwr
  clear ho hdw hd3 hb2 b3 RR HZ1 HZ2 K1 K2 R1 R2 hwr hrel hs2 HQ hn
  go_upto_region 3 with fail
  generalize V2.alloc (.cells #[.int .i64 x1, .int .i64 x2] 42) = V3 at HD3 HZ3 K3 R3 hs3 hV23 ⊢
  have PR := Print_any V3.heap.size f ds a cap V3 (Dw.lies (fun k hk => by omega) f a cap ds HD3.out) (Nat.le_refl _) (Tab.mono R3.out.2.1 R3.out.2.2.choose_spec.choose_spec.2.2.2.2.tab)
  rw [← HNN.out] at PR
  obtain ⟨p, hp⟩ : ∃ p, p = prt ds := ⟨_, rfl⟩
  rw [← hp] at PR
  have HP := hidd hp
  have PRH := hidd PR
  obtain ⟨g, y, z⟩ := p
  simp only at PRH
  clear PR hp
  go_wp2_with fail
  refine PRH.out.mono ?_
  rintro e V4 ⟨rfl, hb4⟩
  unfold fv
  have b5 := (Below.refl V4.heap.size V4).alloc (Nat.le_refl _) (.cells #[.int .i64 y, .int .i64 z] 42)
  have b35 := hb4.trans (b5.mono hb4.size)
  have HZ5 := hidd ((b35.block _ hs3).trans HZ3.out)
  have K5 := hidd (K3.out.below b35)
  have R5 := hidd (R3.out.below (b35.mono R3.out.2.1))
  have HD5 : Hid (Dw (fun k => V1.heap.size ≤ k ∧ k < V2.heap.size) (V4.alloc (.cells #[.int .i64 y, .int .i64 z] 42)) f a cap ds) := Dw.stay (fun k hk => b35.block k (by omega)) (fun k hk => hk) f a cap ds HD3.out
  have hs5 : N < (V4.alloc (.cells #[.int .i64 y, .int .i64 z] 42)).heap.size := Nat.lt_of_lt_of_le hs3 b35.size
  have hV25 : V2.heap.size ≤ (V4.alloc (.cells #[.int .i64 y, .int .i64 z] 42)).heap.size := Nat.le_trans hV23 b35.size
  clear hb4 b5 b35 PRH HZ3 K3 R3 HD3 hs3 hV23
  go_upto_region 4 with fail
  generalize V4.alloc (.cells #[.int .i64 y, .int .i64 z] 42) = V5 at HD5 HZ5 K5 R5 hs5 hV25 ⊢
  have z0 : ∀ q, V5.frozen? ⟨N, q, none⟩ = false := fun q => looseO HZ5.out
  have n0 : V5.cell? ⟨N, 0, none⟩ = some (.int .i64 0) := (cellO HZ5.out).trans rfl
  have n1 : V5.cell? ⟨N, 1, none⟩ = some (.int .i64 0) := (cellO HZ5.out).trans rfl
  have n2 : V5.cell? ⟨N, 2, none⟩ = some (.string ⟨#[]⟩) := (cellO HZ5.out).trans rfl
  have n3 : V5.cell? ⟨N, 3, none⟩ = some (.int .i64 0) := (cellO HZ5.out).trans rfl
  have n4 : V5.cell? ⟨N, 4, none⟩ = some (.int .i64 0) := (cellO HZ5.out).trans rfl
  have n5 : V5.cell? ⟨N, 5, none⟩ = some (.slice none 0 0) := (cellO HZ5.out).trans rfl
  rcases HRES.out with ⟨d0, hds, hpr, rfl, rfl, rfl⟩ | ⟨hno, rfl, rfl, rfl⟩
  · subst hds
    have hn1 : n = 1 := HNN.out
    subst hn1
    have hp := HP.out
    have h6 := (HS6.out d rfl).1
    rw [prt_ok HWR.out (by rw [hpr]; omega), hpr] at hp
    simp only [Prod.mk.injEq] at hp
    obtain ⟨rfl, rfl, rfl⟩ := hp
    obtain ⟨f, rfl⟩ : ∃ f', f = f' + 1 := by
      cases f with
      | zero => have := HD5.out; simp [Dw] at this
      | succ f => exact ⟨f, rfl⟩
    obtain ⟨bb, o, rfl, hbb, hall⟩ : ∃ b o, a = some ⟨b, o, none⟩ ∧ (V1.heap.size ≤ b ∧ b < V2.heap.size) ∧ ∀ (i : Nat) (d1 : Dat), [d][i]? = some d1 → ∃ a' cap, V5.cell? ⟨b, o + i * 6, none⟩ = some (.int .i64 d1.kind) ∧ V5.cell? ⟨b, o + i * 6 + 1, none⟩ = some (.int .i64 d1.n) ∧ V5.cell? ⟨b, o + i * 6 + 2, none⟩ = some (.string d1.name) ∧ V5.cell? ⟨b, o + i * 6 + 3, none⟩ = some (.int .i64 d1.stamp) ∧ V5.cell? ⟨b, o + i * 6 + 4, none⟩ = some (.int .i64 d1.lib) ∧ V5.cell? ⟨b, o + i * 6 + 5, none⟩ = some (.slice a' d1.kids.length cap) ∧ d1.name.size ≤ maxLen ∧ Dw (fun k => V1.heap.size ≤ k ∧ k < V2.heap.size) V5 f a' cap d1.kids := by
      rcases HD5.out.2 with hc | hc
      · simp at hc
      · exact hc
    obtain ⟨ka, kc, c0, c1, c2, c3, c4, c5, hnm, hkd⟩ := hall 0 d rfl
    simp only [Nat.zero_mul, Nat.add_zero] at c0 c1 c2 c3 c4 c5
    have hMN : M ≤ N := by rw [HN.out]; exact hM
    have FK := fill6_keep V5 N (.int .i64 d.kind) (.int .i64 d.n) (.string d.name) (.int .i64 d.stamp) (.int .i64 d.lib) (.slice ka d.kids.length kc)
    have FILL := hidd (fill6_heap HZ5.out (.int .i64 d.kind) (.int .i64 d.n) (.string d.name) (.int .i64 d.stamp) (.int .i64 d.lib) (.slice ka d.kids.length kc))
    have HR := hidd (R5.out.below (FK.toBelow hMN R5.out.2.1))
    have HK : Hid (Keep b w (fill6 V5 N (.int .i64 d.kind) (.int .i64 d.n) (.string d.name) (.int .i64 d.stamp) (.int .i64 d.lib) (.slice ka d.kids.length kc))) := ((((((K5.out.setNew ⟨N, 0, none⟩ (by rw [HN.out]; exact Nat.le_refl _) (.int .i64 d.kind)).setNew ⟨N, 1, none⟩ (by rw [HN.out]; exact Nat.le_refl _) (.int .i64 d.n)).setNew ⟨N, 2, none⟩ (by rw [HN.out]; exact Nat.le_refl _) (.string d.name)).setNew ⟨N, 3, none⟩ (by rw [HN.out]; exact Nat.le_refl _) (.int .i64 d.stamp)).setNew ⟨N, 4, none⟩ (by rw [HN.out]; exact Nat.le_refl _) (.int .i64 d.lib)).setNew ⟨N, 5, none⟩ (by rw [HN.out]; exact Nat.le_refl _) (.slice ka d.kids.length kc))
    have HSZ : (fill6 V5 N (.int .i64 d.kind) (.int .i64 d.n) (.string d.name) (.int .i64 d.stamp) (.int .i64 d.lib) (.slice ka d.kids.length kc)).heap.size = V5.heap.size := by unfold fill6; simp
    have HDC : Hid (Dc (fun k => w.heap.size ≤ k ∧ k < (fill6 V5 N (.int .i64 d.kind) (.int .i64 d.n) (.string d.name) (.int .i64 d.stamp) (.int .i64 d.lib) (.slice ka d.kids.length kc)).heap.size) (fill6 V5 N (.int .i64 d.kind) (.int .i64 d.n) (.string d.name) (.int .i64 d.stamp) (.int .i64 d.lib) (.slice ka d.kids.length kc)) f ka d.kids) := Dc.stay (fun k hk => FK.block k (by omega) (by simp; omega)) (fun k hk => ⟨by have := HN.out; omega, by rw [HSZ]; omega⟩) f ka d.kids (Dw.dc f ka kc d.kids hkd)
    have HKC := hidd hkd.cap
    have HNM := hidd hnm
    have hq1 : ((⟨s.toArray⟩ : ByteArray).toList == (⟨s.toArray⟩ : ByteArray).toList) = true := by simp
    have hq2 : ((⟨s.toArray⟩ : ByteArray).toList != (⟨s.toArray⟩ : ByteArray).toList) = false := by simp
    generalize (⟨s.toArray⟩ : ByteArray) = sa at hq1 hq2 ⊢
    clear hall hkd hnm h6 hpr FK HSZ HD5 HRES HS6 HP HWR HZ5 K5 R5 HNN HTL
    go_wp2_with fail
    exact bodyPost_ret (ret120 FILL.out rfl) rfl ⟨ka, kc, rfl, HR.out, HK.out, HKC.out, HNM.out, f, HDC.out⟩
  · have RB := hidd R5.out.bad
    obtain ⟨_, _, la, lc, g1, _⟩ := id R5.out
    have e1 : V5.cell? ⟨b, 1, none⟩ = some (.bool b1) := (cellO g1).trans rfl
    have ez := looseO (q := 1) g1
    have hMN : M ≤ N := by rw [HN.out]; exact hM
    have hZ6 : (V5.setCell ⟨b, 1, none⟩ (.bool true)).heap[N]? = some (.cells #[.int .i64 0, .int .i64 0, .string ⟨#[]⟩, .int .i64 0, .int .i64 0, .slice none 0 0] 50 (0, 0)) := (RB.out.2.block _ hs5 (by simpa using hNb)).trans HZ5.out
    have FK := fill6_keep (V5.setCell ⟨b, 1, none⟩ (.bool true)) N (.int .i64 0) (.int .i64 0) (.string ⟨#[]⟩) (.int .i64 0) (.int .i64 0) (.slice none 0 0)
    have FILL := hidd (fill6_heap hZ6 (.int .i64 0) (.int .i64 0) (.string ⟨#[]⟩) (.int .i64 0) (.int .i64 0) (.slice none 0 0))
    have HR := hidd (RB.out.1.below (FK.toBelow hMN RB.out.1.2.1))
    have HK : Hid (Keep b w (fill6 (V5.setCell ⟨b, 1, none⟩ (.bool true)) N (.int .i64 0) (.int .i64 0) (.string ⟨#[]⟩) (.int .i64 0) (.int .i64 0) (.slice none 0 0))) := (((((((K5.out.trans RB.out.2).setNew ⟨N, 0, none⟩ (by rw [HN.out]; exact Nat.le_refl _) (.int .i64 0)).setNew ⟨N, 1, none⟩ (by rw [HN.out]; exact Nat.le_refl _) (.int .i64 0)).setNew ⟨N, 2, none⟩ (by rw [HN.out]; exact Nat.le_refl _) (.string ⟨#[]⟩)).setNew ⟨N, 3, none⟩ (by rw [HN.out]; exact Nat.le_refl _) (.int .i64 0)).setNew ⟨N, 4, none⟩ (by rw [HN.out]; exact Nat.le_refl _) (.int .i64 0)).setNew ⟨N, 5, none⟩ (by rw [HN.out]; exact Nat.le_refl _) (.slice none 0 0))
    have m0 : (V5.setCell ⟨b, 1, none⟩ (.bool true)).cell? ⟨N, 0, none⟩ = some (.int .i64 0) := (cellO hZ6).trans rfl
    have m1 : (V5.setCell ⟨b, 1, none⟩ (.bool true)).cell? ⟨N, 1, none⟩ = some (.int .i64 0) := (cellO hZ6).trans rfl
    have m2 : (V5.setCell ⟨b, 1, none⟩ (.bool true)).cell? ⟨N, 2, none⟩ = some (.string ⟨#[]⟩) := (cellO hZ6).trans rfl
    have m3 : (V5.setCell ⟨b, 1, none⟩ (.bool true)).cell? ⟨N, 3, none⟩ = some (.int .i64 0) := (cellO hZ6).trans rfl
    have m4 : (V5.setCell ⟨b, 1, none⟩ (.bool true)).cell? ⟨N, 4, none⟩ = some (.int .i64 0) := (cellO hZ6).trans rfl
    have m5 : (V5.setCell ⟨b, 1, none⟩ (.bool true)).cell? ⟨N, 5, none⟩ = some (.slice none 0 0) := (cellO hZ6).trans rfl
    have mz : ∀ q, (V5.setCell ⟨b, 1, none⟩ (.bool true)).frozen? ⟨N, q, none⟩ = false := fun q => looseO hZ6
    have END : Hid (∀ r : Ending, r = .returned (.agg #[.int .i64 0, .int .i64 0, .string ⟨#[]⟩, .int .i64 0, .int .i64 0, .slice none 0 0]) → ∃ qa qc, r = .returned (.agg #[.int .i64 emD.kind, .int .i64 emD.n, .string emD.name, .int .i64 emD.stamp, .int .i64 emD.lib, .slice qa emD.kids.length qc]) ∧ RD M b l' true (fill6 (V5.setCell ⟨b, 1, none⟩ (.bool true)) N (.int .i64 0) (.int .i64 0) (.string ⟨#[]⟩) (.int .i64 0) (.int .i64 0) (.slice none 0 0)) ∧ Keep b w (fill6 (V5.setCell ⟨b, 1, none⟩ (.bool true)) N (.int .i64 0) (.int .i64 0) (.string ⟨#[]⟩) (.int .i64 0) (.int .i64 0) (.slice none 0 0)) ∧ emD.kids.length ≤ qc ∧ emD.name.size ≤ maxLen ∧ ∃ f, Dc (fun k => w.heap.size ≤ k ∧ k < (fill6 (V5.setCell ⟨b, 1, none⟩ (.bool true)) N (.int .i64 0) (.int .i64 0) (.string ⟨#[]⟩) (.int .i64 0) (.int .i64 0) (.slice none 0 0)).heap.size) (fill6 (V5.setCell ⟨b, 1, none⟩ (.bool true)) N (.int .i64 0) (.int .i64 0) (.string ⟨#[]⟩) (.int .i64 0) (.int .i64 0) (.slice none 0 0)) f qa emD.kids) := fun r hr => ⟨none, 0, hr, HR.out, HK.out, Nat.zero_le _, by decide, 0, rfl⟩
    by_cases h1 : n = 1
    · obtain ⟨d0, hd0⟩ : ∃ d0, ds = [d0] := by
        have := HNN.out
        rw [h1] at this
        exact List.length_eq_one_iff.1 this.symm
      have hne := hno d0 hd0
      have hg : g ≠ ⟨s.toArray⟩ := by
        have hp := HP.out
        have hw := HWR.out
        obtain ⟨h6, hs0⟩ := HS6.out d0 hd0
        rw [hd0] at hp hw
        intro e
        by_cases hl : 6000 < (printed [d0]).length
        · rw [prt_much hw hl] at hp
          simp only [Prod.mk.injEq] at hp
          rw [hp.1] at e
          have : s.toArray = #[] := (congrArg ByteArray.data e).symm
          exact hs0 (by simpa using this)
        · rw [prt_ok hw hl] at hp
          simp only [Prod.mk.injEq] at hp
          rw [hp.1] at e
          have : (printed [d0]).toArray = s.toArray := congrArg ByteArray.data e
          exact hne (by simpa using this)
      subst h1
      have hq1 := beqS_ne hg
      have hq2 : (g.toList != (⟨s.toArray⟩ : ByteArray).toList) = true := by simp only [bne, hq1, Bool.not_false]
      generalize (⟨s.toArray⟩ : ByteArray) = sa at hq1 hq2 ⊢
      clear hno hne hg hd0 g1 hZ6 FK HD5 HRES HS6 HP HWR HZ5 K5 R5 RB HNN HTL HR HK
      go_wp2_with fail
      exact bodyPost_ret (ret120 FILL.out rfl) rfl (END.out _ rfl)
    · have h1' : ((n : Int) != 1) = true := by simpa using (by omega : ¬ (n : Int) = 1)
      clear hno g1 hZ6 FK HD5 HRES HS6 HP HWR HZ5 K5 R5 RB HNN HTL HR HK h1
      go_wp2_with fail
      exact bodyPost_ret (ret120 FILL.out rfl) rfl (END.out _ rfl)
end Go.Proofs.YtdnbingddbakaaaGreatDoor
