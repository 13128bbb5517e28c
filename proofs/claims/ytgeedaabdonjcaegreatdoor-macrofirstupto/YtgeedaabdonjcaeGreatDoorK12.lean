/- Package rule set: what is wrong with a rule. -/
import Derived.Test.YtgeedaabdonjcaeGreatDoorK11
namespace Go.Proofs.YtgeedaabdonjcaeGreatDoor
set_option linter.unusedVariables false
set_option linter.unusedSimpArgs false
open Go.RowKit

theorem chkL_size (g : Dat → Nat → Int × Nat) (hg : ∀ d n, (g d n).1 = 0 → (g d n).2 = n + sizeD d) : ∀ (l : List Dat) (n : Nat), (chkL g l n).1 = 0 → (chkL g l n).2 = n + sizeL l
  | [], n, _ => by rw [sizeL]; rfl
  | d :: r, n, h => by
    unfold chkL at h ⊢
    by_cases e : (g d n).1 = 0
    · rw [if_pos e] at h ⊢
      rw [chkL_size g hg r _ h, hg d n e, sizeL]
      omega
    · rw [if_neg e] at h
      exact absurd h e
theorem chk_size : ∀ (f : Nat) (d : Dat) (n : Nat), (chk f d n).1 = 0 → (chk f d n).2 = n + sizeD d
  | 0, d, n, h => by simp [chk] at h
  | f + 1, d, n, h => by
    unfold chk at h ⊢
    by_cases h1 : 2000 < n + 1
    · rw [if_pos h1] at h
      simp at h
    · rw [if_neg h1] at h ⊢
      by_cases a0 : alone d = 0
      · rw [if_pos a0] at h ⊢
        obtain ⟨k, n', nm, st, lb, ks⟩ := d
        simp only at h ⊢
        by_cases h4 : k = 4
        · rw [if_pos h4] at h ⊢
          rw [chkL_size _ (chk_size f) _ _ h, sizeD, if_pos h4]
          omega
        · rw [if_neg h4, sizeD, if_neg h4]
      · rw [if_neg a0] at h
        exact absurd h a0
theorem wrong_size {p t : Dat} (h : (wrong [p, t]).1 = 0) : sizeD p + sizeD t ≤ 2000 := by
  unfold wrong wrongFrom at h
  by_cases e : (chk 40 p 0).1 = 0
  · rw [if_pos e] at h
    unfold wrongFrom at h
    by_cases e2 : (chk 40 t (chk 40 p 0).2).1 = 0
    · have h1 := chk_le 40 p 0 (by omega) e
      have h2 := chk_le 40 t _ h1 e2
      rw [chk_size 40 t _ e2, chk_size 40 p 0 e] at h2
      omega
    · rw [if_neg e2] at h
      exact absurd h e2
  · rw [if_neg e] at h
    exact absurd h e

theorem Lies.mono' {B B' : Nat} {w : World} (hB : B ≤ B') : ∀ (f : Nat) (a : Option Addr) (ds : List Dat), Lies B w f a ds → Lies B' w f a ds := by
  intro f
  induction f with
  | zero => exact fun a ds h => h
  | succ f ih =>
    intro a ds h
    refine ⟨h.1, ?_⟩
    rcases h.2 with h | ⟨b, o, ha, hb, h⟩
    · exact Or.inl h
    · refine Or.inr ⟨b, o, ha, by omega, fun i d hd => ?_⟩
      obtain ⟨a', cap, c0, c1, c2, c3, c4, c5, hn, hk⟩ := h i d hd
      exact ⟨a', cap, c0, c1, c2, c3, c4, c5, hn, ih a' _ hk⟩

/-- The cells of two data. -/
def two (p t : Dat) (pa ta : Option Addr) (pc tc : Nat) : Array Value := #[.int .i64 p.kind, .int .i64 p.n, .string p.name, .int .i64 p.stamp, .int .i64 p.lib, .slice pa p.kids.length pc, .int .i64 t.kind, .int .i64 t.n, .string t.name, .int .i64 t.stamp, .int .i64 t.lib, .slice ta t.kids.length tc]

theorem two_lies {B N g : Nat} {p t : Dat} {pa ta : Option Addr} {pc tc : Nat} {w : World} (hc : ∀ q, w.cell? ⟨N, q, none⟩ = (two p t pa ta pc tc)[q]?) (hB : B ≤ N) (hp : Lies B w g pa p.kids) (ht : Lies B w g ta t.kids) (hpn : p.name.size ≤ maxLen) (htn : t.name.size ≤ maxLen) : Lies (N + 1) w (g + 1) (some ⟨N, 0, none⟩) [p, t] := by
  refine ⟨by simp, Or.inr ⟨N, 0, rfl, Nat.lt_succ_self _, fun i d hd => ?_⟩⟩
  match i, hd with
  | 0, hd =>
    simp at hd
    subst hd
    exact ⟨pa, pc, hc 0, hc 1, hc 2, hc 3, hc 4, hc 5, hpn, Lies.mono' (by omega) _ _ _ hp⟩
  | 1, hd =>
    simp at hd
    subst hd
    exact ⟨ta, tc, hc 6, hc 7, hc 8, hc 9, hc 10, hc 11, htn, Lies.mono' (by omega) _ _ _ ht⟩
  | i + 2, hd => simp at hd

theorem cell_top2 (w : World) (X : Obj) (A : Array Value) (T : TypeId) (q : Nat) : ((w.alloc X).alloc (.cells A T)).cell? ⟨w.heap.size + 1, q, none⟩ = A[q]? := by
  have := World.cell?_alloc_mark (w.alloc X) A T (0, 0) q
  rwa [World.size_alloc] at this

theorem wrongRule_bad {lits : List ByteArray} {p t : Dat} (h : (wrong [p, t]).1 ≠ 0) : wrongRule lits p t = (wrong [p, t]).1 := by unfold wrongRule; rw [if_pos h]

set_option maxRecDepth 100000 in
set_option maxHeartbeats 3200000 in
theorem wrongRule_any (lits : List ByteArray) (B g lb : Nat) (p t : Dat) (pa ta : Option Addr) (pc tc : Nat) (w : World) (hp : LC B w (g + 1) pa p.kids) (ht : LC B w (g + 1) ta t.kids) (hpn : p.name.size ≤ maxLen) (htn : t.name.size ≤ maxLen) (hpc : p.kids.length ≤ pc) (hB : B ≤ w.heap.size) (hL : LitM lb lits w) :
    Calls Tryz.prog 37 #[.map (some lb), rv p t pa ta pc tc] w fun e w' => e = .returned (.int .i64 (wrongRule lits p t)) ∧ Below w.heap.size w w' := by
  have hlen := hp.len
  have HH : Hid (LC B w (g + 1) pa p.kids ∧ LC B w (g + 1) ta t.kids ∧ LitM lb lits w) := ⟨hp, ht, hL⟩
  clear hp ht hL
  have TW : Hid (∀ W, (∀ q, W.cell? ⟨w.heap.size + 1, q, none⟩ = (two p t pa ta pc tc)[q]?) → Below w.heap.size w W → w.heap.size + 1 + 1 ≤ W.heap.size → Calls Tryz.prog 60 #[.slice (some ⟨w.heap.size + 1, 0, none⟩) ([p, t] : List Dat).length 2] W fun e w' => e = .returned (fv (wrong [p, t])) ∧ Below W.heap.size W w') := fun W hc hb hs =>
    Wrong_any (w.heap.size + 1 + 1) (g + 1 + 1) [p, t] _ _ W (two_lies hc (by omega) (HH.out.1.below (hb.mono hB)).1 (HH.out.2.1.below (hb.mono hB)).1 hpn htn) hs
  have BX : Hid (∀ W, Below (w.heap.size + 1) (w.alloc (.cells (two p t pa ta pc tc) 43)) W → ∀ q, W.cell? ⟨w.heap.size, q, none⟩ = (two p t pa ta pc tc)[q]?) := fun W h q => (h.cell (p := ⟨w.heap.size, q, none⟩) (by simp)).trans (World.cell?_alloc_mark _ _ _ (0, 0) q)
  have HWS : Hid ((wrong [p, t]).1 = 0 → sizeD p + sizeD t ≤ 2000) := wrong_size
  have e0 : wrongRule lits p t = if (wrong [p, t]).1 ≠ 0 then (wrong [p, t]).1 else if p.kind ≠ 4 then 2 else match p.kids with
    | [] => 2
    | h :: r => if h.kind ≠ 3 ∨ isDots h then 2 else if (vlist lits r true 1 (fun _ => 0)).1 ≠ 0 then (vlist lits r true 1 (fun _ => 0)).1 else if rightD (vlist lits r true 1 (fun _ => 0)).2 t false then 0 else 2 := rfl
  rw [e0]
  clear e0
  unfold two at TW BX
  generalize wrong [p, t] = y at TW HWS ⊢
  obtain ⟨y1, y2⟩ := y
  simp only [List.length_cons, List.length_nil, Nat.zero_add, Nat.reduceAdd, fv] at TW HWS ⊢
  by_cases y0 : y1 = 0
  · subst y0
    rw [if_neg (by simp)]
    by_cases hk : p.kind = 4
    · rw [if_neg (by simp [hk])]
      cases hks : p.kids with
      | nil =>
        have hks' : (p.kids.length : Int) = 0 := by rw [hks]; rfl
        have hl0 : p.kids.length = 0 := by rw [hks]; rfl
        rw [hl0] at TW BX
        unfold rv
        rw [hl0, hk]
        rw [hk] at TW BX
        simp only
        clear hks hks' hl0 hlen hpc
        go_enter Tryz.func37, Tryz.ntmps37
        go_wp2_with fail
        refine (TW.out _ (cell_top2 w _ _ _) (((Below.refl _ _).alloc (Nat.le_refl _) _).alloc (by simp) _) (by simp)).mono ?_
        rintro e w1 ⟨rfl, hb1⟩
        have HB : Hid (Below (w.heap.size + 1) (w.alloc (.cells _ 43)) w1) := ((Below.refl _ _).alloc (by simp) _).trans (hb1.mono (by simp))
        have q0 := BX.out w1 HB.out 0
        have q5 := BX.out w1 HB.out 5
        simp at q0 q5
        have hz : w.heap.size < w1.heap.size := by have := HB.out.size; simp at this; omega
        have HB2 : Hid (Below w.heap.size w w1) := ((Below.refl _ _).alloc (Nat.le_refl _) _).trans (HB.out.mono (by omega))
        clear hb1 TW BX
        go_wp2_with fail
        go_ret
        exact ⟨rfl, (HB2.out.alloc HB2.out.size _)⟩
      | cons h r =>
        obtain ⟨g', b, o, hg, ha, hbB, hall⟩ := HH.out.1.at (by rw [hks]; simp)
        have hg' : g' = g := by omega
        subst hg'
        subst ha
        obtain ⟨a', cap', k0, k1, k2, k3, k4, k5, hkn, hkc, hkk⟩ := hall 0 h (by rw [hks]; rfl)
        simp only [Nat.zero_mul, Nat.add_zero] at k0 k1 k2 k3 k4 k5
        have hpl : 1 ≤ p.kids.length := by rw [hks]; simp
        have hpl' : ((p.kids.length : Int) == 0) = false := beq_eq_false_iff_ne.2 (by omega)
        have HS : Hid (sizeL r ≤ 2000 ∧ p.kids = h :: r) := by
          refine ⟨?_, hks⟩
          have h1 := HWS.out rfl
          have h2 : sizeD p = 1 + sizeL p.kids := by
            obtain ⟨k, n', nm, st, lbb, ks⟩ := p
            simp only at hk
            rw [sizeD, if_pos hk]
          rw [hks, sizeL] at h2
          omega
        have CE : Hid (∀ W, Below w.heap.size w W → ∀ q, W.cell? ⟨b, q, none⟩ = w.cell? ⟨b, q, none⟩) := fun W hb q => hb.cell (p := ⟨b, q, none⟩) (by show b < w.heap.size; omega)
        have ID : Hid (∀ w, Calls Tryz.prog 61 #[dv h a' cap'] w fun e w' => e = .returned (.bool (isDots h)) ∧ Below w.heap.size w w') := fun w => isDots_any h a' cap' w
        have HK0 := hidd k0
        have HK1 := hidd k1
        have HK2 := hidd k2
        have HK3 := hidd k3
        have HK4 := hidd k4
        have HK5 := hidd k5
        clear hall hg hkk hkc hkn k0 k1 k2 k3 k4 k5 hks
        simp only
        rw [hk] at TW BX
        have PO : Hid (∀ W, Below w.heap.size w W → Calls Tryz.prog 33 #[rv p t (some ⟨b, o, none⟩) ta pc tc] W fun e w' => Below W.heap.size W w' ∧ ∃ a' cap', e = .returned (.slice a' r.length cap') ∧ LC B W (g' + 1) a' r ∧ r.length ≤ cap') := fun W hb =>
          patternOf_any B g' p t h r (some ⟨b, o, none⟩) ta pc tc W HS.out.2 (HH.out.1.below (hb.mono hB)) hpc
        unfold rv at PO ⊢
        rw [hk] at PO ⊢
        clear hk
        by_cases h3 : h.kind = 3
        · unfold dv at ID
          rw [h3] at ID HK0
          have h3' : h.kind = 3 := h3
          clear h3
          cases hd : isDots h with
          | true =>
            rw [hd] at ID
            rw [if_pos (Or.inr rfl)]
            clear hd h3'
            go_enter Tryz.func37, Tryz.ntmps37
            go_wp2_with fail
            refine (TW.out _ (cell_top2 w _ _ _) (((Below.refl _ _).alloc (Nat.le_refl _) _).alloc (by simp) _) (by simp)).mono ?_
            rintro e w1 ⟨rfl, hb1⟩
            have HB : Hid (Below (w.heap.size + 1) (w.alloc (.cells _ 43)) w1) := ((Below.refl _ _).alloc (by simp) _).trans (hb1.mono (by simp))
            have q0 := BX.out w1 HB.out 0
            have q5 := BX.out w1 HB.out 5
            simp at q0 q5
            have hz : w.heap.size < w1.heap.size := by have := HB.out.size; simp at this; omega
            have HB2 : Hid (Below w.heap.size w w1) := ((Below.refl _ _).alloc (Nat.le_refl _) _).trans (HB.out.mono (by omega))
            have k0 := (CE.out w1 HB2.out _).trans HK0.out
            have k1 := (CE.out w1 HB2.out _).trans HK1.out
            have k2 := (CE.out w1 HB2.out _).trans HK2.out
            have k3 := (CE.out w1 HB2.out _).trans HK3.out
            have k4 := (CE.out w1 HB2.out _).trans HK4.out
            have k5 := (CE.out w1 HB2.out _).trans HK5.out
            have hbz : b < w1.heap.size := by omega
            clear hb1 TW BX CE
            go_wp2_with fail
            refine (ID.out _).mono ?_
            rintro e w2 ⟨rfl, hb2⟩
            have HB3 : Hid (Below w.heap.size w w2) := (HB2.out.alloc HB2.out.size _).trans (hb2.mono (by simp; omega))
            clear hb2
            go_wp2_with fail
            go_ret
            exact ⟨rfl, HB3.out⟩
          | false =>
            rw [hd] at ID
            rw [if_neg (by simp [h3'])]
            clear hd h3'
            have VO : Hid (∀ W a' cap', Below w.heap.size w W → LC B W (g' + 1) a' r → Calls Tryz.prog 34 #[.map (some lb), .slice a' r.length cap'] W fun e w' => e = .returned (.tuple #[.map (some W.heap.size), .int .i64 (vlist lits r true 1 (fun _ => 0)).1]) ∧ Below W.heap.size W w' ∧ ((vlist lits r true 1 (fun _ => 0)).1 = 0 → MapN W.heap.size (sizeL r) (vlist lits r true 1 (fun _ => 0)).2 w')) := fun W a' cap' hb hl =>
              variablesOf_any lits B (g' + 1) lb r a' cap' W hl.1 (Nat.le_trans hB hb.size) (HH.out.2.2.below hb) HS.out.1
            have RI : Hid (∀ W vb n v, Below w.heap.size w W → MapN vb n v W → Calls Tryz.prog 62 #[.map (some vb), dv t ta tc, .bool false] W fun e w' => e = .returned (.bool (rightD v t false)) ∧ Below W.heap.size W w') := fun W vb n v hb hm =>
              right_any B vb n v (g' + 1) t ta tc false W (Nat.le_trans hB hb.size) (HH.out.2.1.below (hb.mono hB)).1 htn hm
            unfold dv at RI
            generalize vlist lits r true 1 (fun _ => 0) = y at VO ⊢
            obtain ⟨y1, y2'⟩ := y
            simp only at VO ⊢
            have RI2 : Hid (∀ W vb n, Below w.heap.size w W → MapN vb n y2' W → Calls Tryz.prog 62 #[.map (some vb), .agg #[.int .i64 t.kind, .int .i64 t.n, .string t.name, .int .i64 t.stamp, .int .i64 t.lib, .slice ta t.kids.length tc], .bool false] W fun e w' => e = .returned (.bool (rightD y2' t false)) ∧ Below W.heap.size W w') := fun W vb n hb hm => RI.out W vb n y2' hb hm
            clear RI
            by_cases y0 : y1 = 0
            · subst y0
              rw [if_neg (by simp)]
              generalize rightD y2' t false = z at RI2 ⊢
              cases z
              all_goals
                simp only [Bool.false_eq_true, if_false, if_true]
                go_enter Tryz.func37, Tryz.ntmps37
                go_wp2_with fail
                refine (TW.out _ (cell_top2 w _ _ _) (((Below.refl _ _).alloc (Nat.le_refl _) _).alloc (by simp) _) (by simp)).mono ?_
                rintro e w1 ⟨rfl, hb1⟩
                have HB : Hid (Below (w.heap.size + 1) (w.alloc (.cells _ 43)) w1) := ((Below.refl _ _).alloc (by simp) _).trans (hb1.mono (by simp))
                have q0 := BX.out w1 HB.out 0
                have q5 := BX.out w1 HB.out 5
                simp at q0 q5
                have hz : w.heap.size < w1.heap.size := by have := HB.out.size; simp at this; omega
                have HB2 : Hid (Below w.heap.size w w1) := ((Below.refl _ _).alloc (Nat.le_refl _) _).trans (HB.out.mono (by omega))
                have k0 := (CE.out w1 HB2.out _).trans HK0.out
                have k1 := (CE.out w1 HB2.out _).trans HK1.out
                have k2 := (CE.out w1 HB2.out _).trans HK2.out
                have k3 := (CE.out w1 HB2.out _).trans HK3.out
                have k4 := (CE.out w1 HB2.out _).trans HK4.out
                have k5 := (CE.out w1 HB2.out _).trans HK5.out
                have hbz : b < w1.heap.size := by omega
                clear hb1 TW
                go_wp2_with fail
                refine (ID.out _).mono ?_
                rintro e w2 ⟨rfl, hb2⟩
                have HB3 : Hid (Below (w.heap.size + 1) (w.alloc (.cells _ 43)) w2) := (HB.out.alloc (by omega) _).trans (hb2.mono (by simp; omega))
                have HB4 : Hid (Below w.heap.size w w2) := ((Below.refl _ _).alloc (Nat.le_refl _) _).trans (HB3.out.mono (by omega))
                have p0 := BX.out w2 HB3.out 0
                have p1 := BX.out w2 HB3.out 1
                have p2 := BX.out w2 HB3.out 2
                have p3 := BX.out w2 HB3.out 3
                have p4 := BX.out w2 HB3.out 4
                have p5 := BX.out w2 HB3.out 5
                have p6 := BX.out w2 HB3.out 6
                have p7 := BX.out w2 HB3.out 7
                have p8 := BX.out w2 HB3.out 8
                have p9 := BX.out w2 HB3.out 9
                have p10 := BX.out w2 HB3.out 10
                have p11 := BX.out w2 HB3.out 11
                simp at p0 p1 p2 p3 p4 p5 p6 p7 p8 p9 p10 p11
                have hz2 : w.heap.size < w2.heap.size := by have := HB3.out.size; simp at this; omega
                clear hb2 q0 q5 k0 k1 k2 k3 k4 k5
                go_wp2_with fail
                refine (PO.out _ HB4.out).mono ?_
                rintro e w3 ⟨hb3, a3, cap3, rfl, hl3, hc3⟩
                have HL3 : Hid (LC B w3 (g' + 1) a3 r) := hl3.below (hb3.mono (Nat.le_trans hB HB4.out.size))
                have HB5 : Hid (Below (w.heap.size + 1) (w.alloc (.cells _ 43)) w3) := HB3.out.trans (hb3.mono (by omega))
                have HB6 : Hid (Below w.heap.size w w3) := ((Below.refl _ _).alloc (Nat.le_refl _) _).trans (HB5.out.mono (by omega))
                have hz3 : w.heap.size < w3.heap.size := by have := HB5.out.size; simp at this; omega
                clear hb3 hl3 p0 p1 p2 p3 p4 p5 p6 p7 p8 p9 p10 p11
                go_wp2_with fail
                refine (VO.out _ _ _ HB6.out HL3.out).mono ?_
                rintro e w4 ⟨rfl, hb4, hm4⟩
                have HM4 := hidd hm4
                have HB7 : Hid (Below (w.heap.size + 1) (w.alloc (.cells _ 43)) w4) := HB5.out.trans (hb4.mono (by omega))
                have HB8 : Hid (Below w.heap.size w w4) := ((Below.refl _ _).alloc (Nat.le_refl _) _).trans (HB7.out.mono (by omega))
                have p6 := BX.out w4 HB7.out 6
                have p7 := BX.out w4 HB7.out 7
                have p8 := BX.out w4 HB7.out 8
                have p9 := BX.out w4 HB7.out 9
                have p10 := BX.out w4 HB7.out 10
                have p11 := BX.out w4 HB7.out 11
                simp at p6 p7 p8 p9 p10 p11
                clear hb4 hm4
                go_wp2_with fail
                refine (RI2.out _ _ _ HB8.out (HM4.out trivial)).mono ?_
                rintro e w5 ⟨rfl, hb5⟩
                have HB9 : Hid (Below w.heap.size w w5) := HB8.out.trans (hb5.mono HB8.out.size)
                clear hb5
                go_wp2_with fail
                go_ret
                exact ⟨rfl, HB9.out⟩
            · rw [if_pos y0]
              have y0' : (y1 != 0) = true := by simpa using y0
              go_enter Tryz.func37, Tryz.ntmps37
              go_wp2_with fail
              refine (TW.out _ (cell_top2 w _ _ _) (((Below.refl _ _).alloc (Nat.le_refl _) _).alloc (by simp) _) (by simp)).mono ?_
              rintro e w1 ⟨rfl, hb1⟩
              have HB : Hid (Below (w.heap.size + 1) (w.alloc (.cells _ 43)) w1) := ((Below.refl _ _).alloc (by simp) _).trans (hb1.mono (by simp))
              have q0 := BX.out w1 HB.out 0
              have q5 := BX.out w1 HB.out 5
              simp at q0 q5
              have hz : w.heap.size < w1.heap.size := by have := HB.out.size; simp at this; omega
              have HB2 : Hid (Below w.heap.size w w1) := ((Below.refl _ _).alloc (Nat.le_refl _) _).trans (HB.out.mono (by omega))
              have k0 := (CE.out w1 HB2.out _).trans HK0.out
              have k1 := (CE.out w1 HB2.out _).trans HK1.out
              have k2 := (CE.out w1 HB2.out _).trans HK2.out
              have k3 := (CE.out w1 HB2.out _).trans HK3.out
              have k4 := (CE.out w1 HB2.out _).trans HK4.out
              have k5 := (CE.out w1 HB2.out _).trans HK5.out
              have hbz : b < w1.heap.size := by omega
              clear hb1 TW
              go_wp2_with fail
              refine (ID.out _).mono ?_
              rintro e w2 ⟨rfl, hb2⟩
              have HB3 : Hid (Below (w.heap.size + 1) (w.alloc (.cells _ 43)) w2) := (HB.out.alloc (by omega) _).trans (hb2.mono (by simp; omega))
              have HB4 : Hid (Below w.heap.size w w2) := ((Below.refl _ _).alloc (Nat.le_refl _) _).trans (HB3.out.mono (by omega))
              have p0 := BX.out w2 HB3.out 0
              have p1 := BX.out w2 HB3.out 1
              have p2 := BX.out w2 HB3.out 2
              have p3 := BX.out w2 HB3.out 3
              have p4 := BX.out w2 HB3.out 4
              have p5 := BX.out w2 HB3.out 5
              have p6 := BX.out w2 HB3.out 6
              have p7 := BX.out w2 HB3.out 7
              have p8 := BX.out w2 HB3.out 8
              have p9 := BX.out w2 HB3.out 9
              have p10 := BX.out w2 HB3.out 10
              have p11 := BX.out w2 HB3.out 11
              simp at p0 p1 p2 p3 p4 p5 p6 p7 p8 p9 p10 p11
              have hz2 : w.heap.size < w2.heap.size := by have := HB3.out.size; simp at this; omega
              clear hb2 q0 q5 k0 k1 k2 k3 k4 k5
              go_wp2_with fail
              refine (PO.out _ HB4.out).mono ?_
              rintro e w3 ⟨hb3, a3, cap3, rfl, hl3, hc3⟩
              have HL3 : Hid (LC B w3 (g' + 1) a3 r) := hl3.below (hb3.mono (Nat.le_trans hB HB4.out.size))
              have HB5 : Hid (Below (w.heap.size + 1) (w.alloc (.cells _ 43)) w3) := HB3.out.trans (hb3.mono (by omega))
              have HB6 : Hid (Below w.heap.size w w3) := ((Below.refl _ _).alloc (Nat.le_refl _) _).trans (HB5.out.mono (by omega))
              have hz3 : w.heap.size < w3.heap.size := by have := HB5.out.size; simp at this; omega
              clear hb3 hl3 p0 p1 p2 p3 p4 p5 p6 p7 p8 p9 p10 p11
              go_wp2_with fail
              refine (VO.out _ _ _ HB6.out HL3.out).mono ?_
              rintro e w4 ⟨rfl, hb4, hm4⟩
              have HM4 := hidd hm4
              have HB7 : Hid (Below (w.heap.size + 1) (w.alloc (.cells _ 43)) w4) := HB5.out.trans (hb4.mono (by omega))
              have HB8 : Hid (Below w.heap.size w w4) := ((Below.refl _ _).alloc (Nat.le_refl _) _).trans (HB7.out.mono (by omega))
              have p6 := BX.out w4 HB7.out 6
              have p7 := BX.out w4 HB7.out 7
              have p8 := BX.out w4 HB7.out 8
              have p9 := BX.out w4 HB7.out 9
              have p10 := BX.out w4 HB7.out 10
              have p11 := BX.out w4 HB7.out 11
              simp at p6 p7 p8 p9 p10 p11
              clear hb4 hm4
              go_wp2_with fail
              go_ret
              exact ⟨rfl, HB8.out⟩
        · rw [if_pos (Or.inl h3)]
          have h3' : (h.kind != 3) = true := by simpa using h3
          clear h3
          go_enter Tryz.func37, Tryz.ntmps37
          go_wp2_with fail
          refine (TW.out _ (cell_top2 w _ _ _) (((Below.refl _ _).alloc (Nat.le_refl _) _).alloc (by simp) _) (by simp)).mono ?_
          rintro e w1 ⟨rfl, hb1⟩
          have HB : Hid (Below (w.heap.size + 1) (w.alloc (.cells _ 43)) w1) := ((Below.refl _ _).alloc (by simp) _).trans (hb1.mono (by simp))
          have q0 := BX.out w1 HB.out 0
          have q5 := BX.out w1 HB.out 5
          simp at q0 q5
          have hz : w.heap.size < w1.heap.size := by have := HB.out.size; simp at this; omega
          have HB2 : Hid (Below w.heap.size w w1) := ((Below.refl _ _).alloc (Nat.le_refl _) _).trans (HB.out.mono (by omega))
          have k0 := (CE.out w1 HB2.out _).trans HK0.out
          have hbz : b < w1.heap.size := by omega
          clear hb1 TW BX CE
          go_wp2_with fail
          go_ret
          exact ⟨rfl, (HB2.out.alloc HB2.out.size _)⟩
    · rw [if_pos hk]
      have hk' : (p.kind != 4) = true := by simpa using hk
      unfold rv
      clear hk
      go_enter Tryz.func37, Tryz.ntmps37
      go_wp2_with fail
      refine (TW.out _ (cell_top2 w _ _ _) (((Below.refl _ _).alloc (Nat.le_refl _) _).alloc (by simp) _) (by simp)).mono ?_
      rintro e w1 ⟨rfl, hb1⟩
      have HB : Hid (Below (w.heap.size + 1) (w.alloc (.cells _ 43)) w1) := ((Below.refl _ _).alloc (by simp) _).trans (hb1.mono (by simp))
      have q0 := BX.out w1 HB.out 0
      simp at q0
      have hz : w.heap.size < w1.heap.size := by have := HB.out.size; simp at this; omega
      have HB2 : Hid (Below w.heap.size w w1) := ((Below.refl _ _).alloc (Nat.le_refl _) _).trans (HB.out.mono (by omega))
      clear hb1 TW BX
      go_wp2_with fail
      go_ret
      exact ⟨rfl, (HB2.out.alloc HB2.out.size _)⟩
  · rw [if_pos y0]
    have y0' : (y1 != 0) = true := by simpa using y0
    unfold rv
    go_enter Tryz.func37, Tryz.ntmps37
    go_wp2_with fail
    refine (TW.out _ (cell_top2 w _ _ _) (((Below.refl _ _).alloc (Nat.le_refl _) _).alloc (by simp) _) (by simp)).mono ?_
    rintro e w1 ⟨rfl, hb1⟩
    have HB2 : Hid (Below w.heap.size w w1) := (((Below.refl _ _).alloc (Nat.le_refl _) _).alloc (by simp) _).trans (hb1.mono (by simp; omega))
    clear hb1 TW BX
    go_wp2_with fail
    go_ret
    exact ⟨rfl, (HB2.out.alloc HB2.out.size _)⟩
end Go.Proofs.YtgeedaabdonjcaeGreatDoor
