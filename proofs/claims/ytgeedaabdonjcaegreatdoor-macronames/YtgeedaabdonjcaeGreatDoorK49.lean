/- Chapter 5's laws: MacroNames, walked. -/
import Derived.Test.YtgeedaabdonjcaeGreatDoorK48
namespace Go.Proofs.YtgeedaabdonjcaeGreatDoor
set_option linter.unusedVariables false
set_option linter.unusedSimpArgs false
open Go.RowKit Go.Maps Go.WideMaps

/-- What the region that stores a rule keeps. -/
structure SV (B : Nat) (a : World) (P : Nat) (d : Dat) (sl : Value) (u : World) : Prop where
  hB : B ≤ a.heap.size
  old : Below B a u
  box : Nod P d sl u
theorem SV.size {B : Nat} {a : World} {P : Nat} {d : Dat} {sl : Value} {u : World} (h : SV B a P d sl u) : u.heap.size ≤ u.heap.size := Nat.le_refl _
theorem SV.trans {B : Nat} {a : World} {P : Nat} {d : Dat} {sl : Value} {u u' : World} (h : SV B a P d sl u) (hb : Below u.heap.size u u') : SV B a P d sl u' := ⟨h.hB, h.old.trans (hb.mono (Nat.le_trans h.hB h.old.size)), h.box.after hb⟩

set_option maxRecDepth 100000 in
set_option maxHeartbeats 12800000 in
theorem MacroNames_walk (li : List ByteArray) (ru : List (Dat × Dat)) (la ra : Option Addr) (lc rc g : Nat) (d : Dat) (fa : Option Addr) (fc gd : Nat) (wh : Int) (s t : ByteArray) (w : World)
    (hs : Strs w.heap.size w la li) (hr : Rn w g ra ru) (hf : Dn w gd fa d.kids) (hfc : d.kids.length ≤ fc) (hsr : smR ru) (hfr : fewR ru) (hsm : smD d) (hrl : ru.length * 144 ≤ reachBytes) (hss : s.size ≤ maxLen) (hts : t.size ≤ maxLen) (ht48 : t.size ≤ 281474976710656) :
    Calls Tryz.prog 5 #[mv li ru la ra lc rc, dv d fa fc, .int .i64 wh, .string s, .string t] w fun e w' => e = .returned (.bool true) ∧ Below w.heap.size w w' := by
  have H0 := hidd (SW.start w #[.slice la li.length lc, .slice ra ru.length rc] #[.int .i64 d.kind, .int .i64 d.n, .string d.name, .int .i64 d.stamp, .int .i64 d.lib, .slice fa d.kids.length fc])
  have WO : Hid (∀ W, Below w.heap.size w W → Calls Tryz.prog 14 #[mv li ru la ra lc rc] W fun e w' => e = .returned (fv (wrongM li ru)) ∧ Below W.heap.size W w') := fun W hb => WrongM_any W.heap.size g li ru la ra lc rc W (hs.lift hb) (hr.lift hb) (Nat.le_refl _)
  have UO : Hid (∀ W, Below w.heap.size w W → Calls Tryz.prog 11 #[mv li ru la ra lc rc, dv d fa fc, .int .i64 1, .int .i64 1] W (ToldU (useM li ru d 1 1) W)) := fun W hb => Use_here g gd li ru la ra lc rc d fa fc 1 1 W (hs.lift hb) (hr.lift hb) (Dn.lift hf hb) hfc hsr hsm
  have ALL : Hid (Strs w.heap.size w la li ∧ Rn w g ra ru ∧ Dn w gd fa d.kids ∧ d.kids.length ≤ fc ∧ smR ru ∧ fewR ru ∧ smD d) := ⟨hs, hr, hf, hfc, hsr, hfr, hsm⟩
  have hli := hs.1
  have hru := hr.1
  clear hs hr hf hfc hsr hfr hsm
  obtain ⟨y1, y2, hw⟩ : ∃ y1 y2, wrongM li ru = (y1, y2) := ⟨_, _, rfl⟩
  have WM := hidd hw
  rw [hw] at WO
  clear hw
  unfold mv fv at WO
  simp only at WO
  unfold mv dv at UO
  unfold mv dv
  go_enter Tryz.func5, Tryz.ntmps5
  go_wp2_with fail
  refine (alive_any _).mono ?_
  rintro e v0 ⟨rfl, hb⟩
  have F0 := hidd (H0.out.below hb)
  clear hb H0
  have m0 := F0.out.cell0 0
  have m1 := F0.out.cell0 1
  have e0 := F0.out.cell1 0
  have e1 := F0.out.cell1 1
  have e2 := F0.out.cell1 2
  have e3 := F0.out.cell1 3
  have e4 := F0.out.cell1 4
  have e5 := F0.out.cell1 5
  simp at m0 m1 e0 e1 e2 e3 e4 e5
  by_cases hw0 : wh < 0
  · go_wp2_with fail
    go_ret
    exact ⟨rfl, F0.out.old⟩
  by_cases hw1 : (ru.length : Int) ≤ wh
  · go_wp2_with fail
    go_ret
    exact ⟨rfl, F0.out.old⟩
  obtain ⟨k, rfl⟩ : ∃ k : Nat, wh = k := ⟨wh.toNat, by omega⟩
  have hk : k < ru.length := by omega
  go_wp2_with fail
  refine (WO.out _ F0.out.old).mono ?_
  rintro e v1 ⟨rfl, hb⟩
  have F1 := hidd (F0.out.below hb)
  clear hb F0 WO m0 m1 e0 e1 e2 e3 e4 e5
  have m0 := F1.out.cell0 0
  have m1 := F1.out.cell0 1
  have e0 := F1.out.cell1 0
  have e1 := F1.out.cell1 1
  have e2 := F1.out.cell1 2
  have e3 := F1.out.cell1 3
  have e4 := F1.out.cell1 4
  have e5 := F1.out.cell1 5
  simp at m0 m1 e0 e1 e2 e3 e4 e5
  have hfld := field_fault y1 y2 v1
  by_cases hy : y1 = 0
  case neg =>
    have hy' : (y1 == 0) = false := by simpa using hy
    go_wp2_with fail
    go_ret
    exact ⟨rfl, F1.out.old⟩
  subst hy
  go_wp2_with fail
  refine (Named_any t hts _).mono ?_
  rintro e v2 ⟨rfl, rfl⟩
  cases hn : namedB t with
  | false =>
    go_wp2_with fail
    go_ret
    exact ⟨rfl, F1.out.old⟩
  | true =>
  have NT := hidd hn
  clear hn
  cases q1 : (t.toList == [46, 46, 46]) with
  | true =>
    go_wp2_with fail
    go_ret
    exact ⟨rfl, F1.out.old⟩
  | false =>
  cases q2 : (t.toList == [95]) with
  | true =>
    go_wp2_with fail
    go_ret
    exact ⟨rfl, F1.out.old⟩
  | false =>
  cases q3 : (s.toList == [46, 46, 46]) with
  | true =>
    go_wp2_with fail
    go_ret
    exact ⟨rfl, F1.out.old⟩
  | false =>
  cases q4 : (s.toList == [95]) with
  | true =>
    go_wp2_with fail
    go_ret
    exact ⟨rfl, F1.out.old⟩
  | false =>
  obtain ⟨⟨p, tm⟩, hpt⟩ : ∃ r, ru[k]? = some r := ⟨ru[k], List.getElem?_eq_getElem hk⟩
  have hne : ru ≠ [] := by intro e; rw [e] at hk; simp at hk
  obtain ⟨b, o, ha, hbB, hall⟩ := ALL.out.2.1.2.resolve_left hne
  subst ha
  obtain ⟨pa, ta, pc, tc, hcel, hpn, htn, hpc, htc, hpl, htl⟩ := hall k p tm hpt
  have hc : ∀ q, q < 12 → v2.cell? ⟨b, o + k * 12 + q, none⟩ = (two p tm pa ta pc tc)[q]? := fun q hq => (F1.out.old.cell (p := ⟨b, o + k * 12 + q, none⟩) hbB).trans (hcel q hq)
  have j0 := hc 0 (by decide)
  have j1 := hc 1 (by decide)
  have j2 := hc 2 (by decide)
  have j3 := hc 3 (by decide)
  have j4 := hc 4 (by decide)
  have j5 := hc 5 (by decide)
  have j6 := hc 6 (by decide)
  have j7 := hc 7 (by decide)
  have j8 := hc 8 (by decide)
  have j9 := hc 9 (by decide)
  have j10 := hc 10 (by decide)
  have j11 := hc 11 (by decide)
  unfold two at j0 j1 j2 j3 j4 j5 j6 j7 j8 j9 j10 j11
  simp at j0 j1 j2 j3 j4 j5 j6 j7 j8 j9 j10 j11
  have PT := hidd hpt
  have PL : Hid (p.name.size ≤ maxLen ∧ tm.name.size ≤ maxLen ∧ p.kids.length ≤ pc ∧ tm.kids.length ≤ tc ∧ Dn w (g + 1) pa p.kids ∧ Dn w (g + 1) ta tm.kids) := ⟨hpn, htn, hpc, htc, LC.dn _ _ _ hpl (Nat.le_refl _), LC.dn _ _ _ htl (Nat.le_refl _)⟩
  clear hall hcel hc hpt hpn htn hpc htc hpl htl hne
  have ba : Below v2.heap.size v2 (v2.alloc (.cells #[.int .i64 p.kind, .int .i64 p.n, .string p.name, .int .i64 p.stamp, .int .i64 p.lib, .slice pa p.kids.length pc, .int .i64 tm.kind, .int .i64 tm.n, .string tm.name, .int .i64 tm.stamp, .int .i64 tm.lib, .slice ta tm.kids.length tc] 43)) := (Below.refl _ _).alloc (Nat.le_refl _) _
  have F2 := hidd (F1.out.below ba)
  have RB := hidd (World.alloc_heap_new v2 (.cells #[.int .i64 p.kind, .int .i64 p.n, .string p.name, .int .i64 p.stamp, .int .i64 p.lib, .slice pa p.kids.length pc, .int .i64 tm.kind, .int .i64 tm.n, .string tm.name, .int .i64 tm.stamp, .int .i64 tm.lib, .slice ta tm.kids.length tc] 43))
  clear ba
  go_upto_region 6 with fail
  generalize v2.alloc (.cells #[.int .i64 p.kind, .int .i64 p.n, .string p.name, .int .i64 p.stamp, .int .i64 p.lib, .slice pa p.kids.length pc, .int .i64 tm.kind, .int .i64 tm.n, .string tm.name, .int .i64 tm.stamp, .int .i64 tm.lib, .slice ta tm.kids.length tc] 43) = v3 at F2 RB ⊢
  generalize v2.heap.size = M at RB ⊢
  clear F1 m0 m1 e0 e1 e2 e3 e4 e5 j0 j1 j2 j3 j4 j5 j6 j7 j8 j9 j10 j11 hfld hw0 hw1
  have m0 := F2.out.cell0 0
  have m1 := F2.out.cell0 1
  have e0 := F2.out.cell1 0
  have e1 := F2.out.cell1 1
  have e2 := F2.out.cell1 2
  have e3 := F2.out.cell1 3
  have e4 := F2.out.cell1 4
  have e5 := F2.out.cell1 5
  simp at m0 m1 e0 e1 e2 e3 e4 e5
  go_wp2_with fail
  go_loopw [67] (fun i wr => ∃ j : Nat, j ≤ li.length ∧ i = .int .i64 j ∧ wr = v3 ∧ Hid (∀ x ∈ li.take j, x ≠ s ∧ x ≠ t)) (fun i _ => li.length - (intOf i).toNat)
  case atStart => exact ⟨0, Nat.zero_le _, rfl, rfl, (by intro x hx; simp at hx)⟩
  case round =>
    obtain ⟨j, hj, rfl, rfl, HJ⟩ := hrel
    by_cases hlt : j < li.length
    · obtain ⟨b', o', x, hla, hb', hx, hcx, hxs⟩ := ALL.out.1.at hlt
      subst hla
      have jx := (F2.out.old.cell (p := ⟨b', o' + j, none⟩) hb').trans hcx
      cases qa : (x.toList == s.toList) with
      | true =>
        go_wp2_with fail
        go_ret
        exact ⟨rfl, F2.out.old⟩
      | false =>
        cases qb : (x.toList == t.toList) with
        | true =>
          go_wp2_with fail
          go_ret
          exact ⟨rfl, F2.out.old⟩
        | false =>
          have HJ2 : Hid (∀ y ∈ li.take (j + 1), y ≠ s ∧ y ≠ t) := by
            intro y hy
            rw [List.take_add_one, hx] at hy
            simp at hy
            rcases hy with hy | rfl
            · exact HJ.out y (by simpa using hy)
            · exact ⟨fun e => by rw [e] at qa; simp at qa, fun e => by rw [e] at qb; simp at qb⟩
          clear hcx hx
          go_wp2_with fail
          go_roundw
          case rel => exact ⟨j + 1, by omega, by go_num, by simp, HJ2.out⟩
          case measure => simp [intOf]; omega
    · obtain rfl : j = li.length := by omega
      have HLI : Hid (∀ x ∈ li, x ≠ s ∧ x ≠ t) := by
        have := HJ.out
        rwa [List.take_length] at this
      clear HJ
      have WR : Hid (wrongRule li p tm = 0) := wrongM_rule (by rw [WM.out]) (List.mem_of_getElem? PT.out)
      obtain ⟨hp4, x, r, hpk⟩ := wrongRule_kids WR.out
      have hd1 := PL.out.2.2.2.2.1
      rw [hpk] at hd1
      obtain ⟨g2, b2, o2, hg2, hpa, hb2, hall2⟩ := hd1.at (by simp)
      subst hpa
      have HK := hidd hpk
      have HP4 := hidd hp4
      have hpc : r.length + 1 ≤ pc := by have := PL.out.2.2.1; rw [hpk] at this; simpa using this
      have hpl : p.kids.length = r.length + 1 := by rw [hpk]; simp
      have DR : Hid (Dn w (g + 1 + 1) (some ⟨b2, o2 + 6, none⟩) r) := by
        by_cases h0 : r = []
        · rw [h0]; exact Dn.nil _ _ _
        · have h5 := (Dn.lc hd1).drop 1 (by simp; exact List.length_pos_iff.2 h0)
          exact LC.dn _ _ _ h5 (Nat.le_refl _)
      have X0 : Hid (∃ xa xc, w.cell? ⟨b2, o2, none⟩ = some (.int .i64 x.kind) ∧ w.cell? ⟨b2, o2 + 1, none⟩ = some (.int .i64 x.n) ∧ w.cell? ⟨b2, o2 + 2, none⟩ = some (.string x.name) ∧ w.cell? ⟨b2, o2 + 3, none⟩ = some (.int .i64 x.stamp) ∧ w.cell? ⟨b2, o2 + 4, none⟩ = some (.int .i64 x.lib) ∧ w.cell? ⟨b2, o2 + 5, none⟩ = some (.slice xa x.kids.length xc) ∧ x.name.size ≤ maxLen ∧ x.kids.length ≤ xc ∧ Dn w g2 xa x.kids ∧ b2 < w.heap.size) := by
        obtain ⟨xa, xc, z0, z1, z2, z3, z4, z5, z6, z7, z8⟩ := hall2 0 x rfl
        simp only [Nat.zero_mul, Nat.add_zero] at z0 z1 z2 z3 z4 z5
        exact ⟨xa, xc, z0, z1, z2, z3, z4, z5, z6, z7, z8, hb2⟩
      clear hall2 hd1 hg2 hpk hp4
      have SP : Hid (∀ (y : ByteArray) W, Below w.heap.size w W → Calls Tryz.prog 16 #[.agg #[.int .i64 4, .int .i64 0, .string ⟨#[]⟩, .int .i64 0, .int .i64 0, .slice (some ⟨b2, o2 + 6, none⟩) r.length (pc - 1)], .string y] W fun e w' => e = .returned (.bool (spkL y r)) ∧ Below W.heap.size W w') := fun y W hb => by
        have h5 := speaks_any W.heap.size y _ (listD r) (some ⟨b2, o2 + 6, none⟩) (pc - 1) W (Dn.lift DR.out hb).lc.1 (Nat.le_refl _)
        have e5 : spkD y (listD r) = spkL y r := by unfold listD; rw [spkD, if_neg (by decide), if_pos rfl]
        rw [e5] at h5
        exact h5
      have SE : Hid (∀ (y : ByteArray) (a' : Option Addr) (cap' : Nat) W, Calls Tryz.prog 16 #[.agg #[.int .i64 4, .int .i64 0, .string ⟨#[]⟩, .int .i64 0, .int .i64 0, .slice a' 0 cap'], .string y] W fun e w' => e = .returned (.bool false) ∧ Below W.heap.size W w') := fun y a' cap' W => by
        have h5 := speaks_any W.heap.size y 0 (listD []) a' cap' W rfl (Nat.le_refl _)
        have e5 : spkD y (listD []) = false := by unfold listD; rw [spkD, if_neg (by decide), if_pos rfl, spkL]
        rw [e5] at h5
        exact h5
      have ST : Hid (∀ W, Below w.heap.size w W → Calls Tryz.prog 16 #[.agg #[.int .i64 tm.kind, .int .i64 tm.n, .string tm.name, .int .i64 tm.stamp, .int .i64 tm.lib, .slice ta tm.kids.length tc], .string t] W fun e w' => e = .returned (.bool (spkD t tm)) ∧ Below W.heap.size W w') := fun W hb => speaks_any W.heap.size t _ tm ta tc W (Dn.lift PL.out.2.2.2.2.2 hb).lc.1 (Nat.le_refl _)
      have rb0 : wr.cell? ⟨M, 0, none⟩ = some (.int .i64 p.kind) := by simp [World.cell?, RB.out]
      have rb1 : wr.cell? ⟨M, 1, none⟩ = some (.int .i64 p.n) := by simp [World.cell?, RB.out]
      have rb2 : wr.cell? ⟨M, 2, none⟩ = some (.string p.name) := by simp [World.cell?, RB.out]
      have rb3 : wr.cell? ⟨M, 3, none⟩ = some (.int .i64 p.stamp) := by simp [World.cell?, RB.out]
      have rb4 : wr.cell? ⟨M, 4, none⟩ = some (.int .i64 p.lib) := by simp [World.cell?, RB.out]
      have rb5 : wr.cell? ⟨M, 5, none⟩ = some (.slice (some ⟨b2, o2, none⟩) p.kids.length pc) := by simp [World.cell?, RB.out]
      have rb6 : wr.cell? ⟨M, 6, none⟩ = some (.int .i64 tm.kind) := by simp [World.cell?, RB.out]
      have rb7 : wr.cell? ⟨M, 7, none⟩ = some (.int .i64 tm.n) := by simp [World.cell?, RB.out]
      have rb8 : wr.cell? ⟨M, 8, none⟩ = some (.string tm.name) := by simp [World.cell?, RB.out]
      have rb9 : wr.cell? ⟨M, 9, none⟩ = some (.int .i64 tm.stamp) := by simp [World.cell?, RB.out]
      have rb10 : wr.cell? ⟨M, 10, none⟩ = some (.int .i64 tm.lib) := by simp [World.cell?, RB.out]
      have rb11 : wr.cell? ⟨M, 11, none⟩ = some (.slice ta tm.kids.length tc) := by simp [World.cell?, RB.out]
      rw [hpl] at rb5
      by_cases hp1 : pc = 1
      · have hr0 : r = [] := by
          cases r with
          | nil => rfl
          | cons a b => simp at hpc; omega
        subst hr0 hp1
        have ba : Below wr.heap.size wr (wr.alloc (.cells #[.int .i64 4, .int .i64 0, .string ⟨#[]⟩, .int .i64 0, .int .i64 0, .slice (some ⟨b2, o2, none⟩) 0 0] 28)) := (Below.refl _ _).alloc (Nat.le_refl _) _
        go_wp2_with fail
        refine (SE.out s _ _ _).mono ?_
        rintro e v4 ⟨rfl, hb⟩
        have FF := hidd ((F2.out.below ba).below hb).old
        clear hb ba
        go_wp2_with fail
        go_ret
        exact ⟨rfl, FF.out⟩
      · go_wp2_with fail
        have ba : Below wr.heap.size wr (wr.alloc (.cells #[.int .i64 4, .int .i64 0, .string ⟨#[]⟩, .int .i64 0, .int .i64 0, .slice (some ⟨b2, o2 + 6, none⟩) r.length (pc - 1)] 28)) := (Below.refl _ _).alloc (Nat.le_refl _) _
        have F3 := hidd (F2.out.below ba)
        have RB3 : Hid ((wr.alloc (.cells #[.int .i64 4, .int .i64 0, .string ⟨#[]⟩, .int .i64 0, .int .i64 0, .slice (some ⟨b2, o2 + 6, none⟩) r.length (pc - 1)] 28)).heap[M]? = some (.cells #[.int .i64 p.kind, .int .i64 p.n, .string p.name, .int .i64 p.stamp, .int .i64 p.lib, .slice (some ⟨b2, o2, none⟩) (r.length + 1) pc, .int .i64 tm.kind, .int .i64 tm.n, .string tm.name, .int .i64 tm.stamp, .int .i64 tm.lib, .slice ta tm.kids.length tc] 43 (0, 0))) := by
          show _ = _
          rw [← hpl]
          exact (ba.block _ (Array.getElem?_eq_some_iff.1 RB.out).1).trans RB.out
        have QB3 := hidd (World.alloc_heap_new wr (.cells #[.int .i64 4, .int .i64 0, .string ⟨#[]⟩, .int .i64 0, .int .i64 0, .slice (some ⟨b2, o2 + 6, none⟩) r.length (pc - 1)] 28))
        clear ba rb0 rb1 rb2 rb3 rb4 rb5 rb6 rb7 rb8 rb9 rb10 rb11 m0 m1 e0 e1 e2 e3 e4 e5
        refine (SP.out s _ F3.out.old).mono ?_
        rintro e v4 ⟨rfl, hb⟩
        have F4 := hidd (F3.out.below hb)
        have RB4 := hidd ((hb.block _ (Array.getElem?_eq_some_iff.1 RB3.out).1).trans RB3.out)
        have QB4 := hidd ((hb.block _ (Array.getElem?_eq_some_iff.1 QB3.out).1).trans QB3.out)
        clear hb F2 F3 RB RB3 QB3
        generalize wr.heap.size = Q at QB4 ⊢
        have m0 := F4.out.cell0 0
        have m1 := F4.out.cell0 1
        have e0 := F4.out.cell1 0
        have e1 := F4.out.cell1 1
        have e2 := F4.out.cell1 2
        have e3 := F4.out.cell1 3
        have e4 := F4.out.cell1 4
        have e5 := F4.out.cell1 5
        simp at m0 m1 e0 e1 e2 e3 e4 e5
        have rb0 : v4.cell? ⟨M, 0, none⟩ = some (.int .i64 p.kind) := by simp [World.cell?, RB4.out]
        have rb1 : v4.cell? ⟨M, 1, none⟩ = some (.int .i64 p.n) := by simp [World.cell?, RB4.out]
        have rb2 : v4.cell? ⟨M, 2, none⟩ = some (.string p.name) := by simp [World.cell?, RB4.out]
        have rb3 : v4.cell? ⟨M, 3, none⟩ = some (.int .i64 p.stamp) := by simp [World.cell?, RB4.out]
        have rb4 : v4.cell? ⟨M, 4, none⟩ = some (.int .i64 p.lib) := by simp [World.cell?, RB4.out]
        have rb5 : v4.cell? ⟨M, 5, none⟩ = some (.slice (some ⟨b2, o2, none⟩) (r.length + 1) pc) := by simp [World.cell?, RB4.out]
        have rb6 : v4.cell? ⟨M, 6, none⟩ = some (.int .i64 tm.kind) := by simp [World.cell?, RB4.out]
        have rb7 : v4.cell? ⟨M, 7, none⟩ = some (.int .i64 tm.n) := by simp [World.cell?, RB4.out]
        have rb8 : v4.cell? ⟨M, 8, none⟩ = some (.string tm.name) := by simp [World.cell?, RB4.out]
        have rb9 : v4.cell? ⟨M, 9, none⟩ = some (.int .i64 tm.stamp) := by simp [World.cell?, RB4.out]
        have rb10 : v4.cell? ⟨M, 10, none⟩ = some (.int .i64 tm.lib) := by simp [World.cell?, RB4.out]
        have rb11 : v4.cell? ⟨M, 11, none⟩ = some (.slice ta tm.kids.length tc) := by simp [World.cell?, RB4.out]
        have ar0 : v4.cell? ⟨Q, 0, none⟩ = some (.int .i64 4) := by simp [World.cell?, QB4.out]
        have ar1 : v4.cell? ⟨Q, 1, none⟩ = some (.int .i64 0) := by simp [World.cell?, QB4.out]
        have ar2 : v4.cell? ⟨Q, 2, none⟩ = some (.string ⟨#[]⟩) := by simp [World.cell?, QB4.out]
        have ar3 : v4.cell? ⟨Q, 3, none⟩ = some (.int .i64 0) := by simp [World.cell?, QB4.out]
        have ar4 : v4.cell? ⟨Q, 4, none⟩ = some (.int .i64 0) := by simp [World.cell?, QB4.out]
        have ar5 : v4.cell? ⟨Q, 5, none⟩ = some (.slice (some ⟨b2, o2 + 6, none⟩) r.length (pc - 1)) := by simp [World.cell?, QB4.out]
        cases hq1 : spkL s r with
        | false =>
          go_wp2_with fail
          go_ret
          exact ⟨rfl, F4.out.old⟩
        | true =>
        have SS1 := hidd hq1
        clear hq1
        go_wp2_with fail
        refine (SP.out t _ F4.out.old).mono ?_
        rintro e v5 ⟨rfl, hb⟩
        have F5 := hidd (F4.out.below hb)
        have RB5 := hidd ((hb.block _ (Array.getElem?_eq_some_iff.1 RB4.out).1).trans RB4.out)
        have QB5 := hidd ((hb.block _ (Array.getElem?_eq_some_iff.1 QB4.out).1).trans QB4.out)
        clear hb F4 RB4 QB4 m0 m1 e0 e1 e2 e3 e4 e5 rb0 rb1 rb2 rb3 rb4 rb5 rb6 rb7 rb8 rb9 rb10 rb11 ar0 ar1 ar2 ar3 ar4 ar5
        have m0 := F5.out.cell0 0
        have m1 := F5.out.cell0 1
        have e0 := F5.out.cell1 0
        have e1 := F5.out.cell1 1
        have e2 := F5.out.cell1 2
        have e3 := F5.out.cell1 3
        have e4 := F5.out.cell1 4
        have e5 := F5.out.cell1 5
        simp at m0 m1 e0 e1 e2 e3 e4 e5
        have rb0 : v5.cell? ⟨M, 0, none⟩ = some (.int .i64 p.kind) := by simp [World.cell?, RB5.out]
        have rb1 : v5.cell? ⟨M, 1, none⟩ = some (.int .i64 p.n) := by simp [World.cell?, RB5.out]
        have rb2 : v5.cell? ⟨M, 2, none⟩ = some (.string p.name) := by simp [World.cell?, RB5.out]
        have rb3 : v5.cell? ⟨M, 3, none⟩ = some (.int .i64 p.stamp) := by simp [World.cell?, RB5.out]
        have rb4 : v5.cell? ⟨M, 4, none⟩ = some (.int .i64 p.lib) := by simp [World.cell?, RB5.out]
        have rb5 : v5.cell? ⟨M, 5, none⟩ = some (.slice (some ⟨b2, o2, none⟩) (r.length + 1) pc) := by simp [World.cell?, RB5.out]
        have rb6 : v5.cell? ⟨M, 6, none⟩ = some (.int .i64 tm.kind) := by simp [World.cell?, RB5.out]
        have rb7 : v5.cell? ⟨M, 7, none⟩ = some (.int .i64 tm.n) := by simp [World.cell?, RB5.out]
        have rb8 : v5.cell? ⟨M, 8, none⟩ = some (.string tm.name) := by simp [World.cell?, RB5.out]
        have rb9 : v5.cell? ⟨M, 9, none⟩ = some (.int .i64 tm.stamp) := by simp [World.cell?, RB5.out]
        have rb10 : v5.cell? ⟨M, 10, none⟩ = some (.int .i64 tm.lib) := by simp [World.cell?, RB5.out]
        have rb11 : v5.cell? ⟨M, 11, none⟩ = some (.slice ta tm.kids.length tc) := by simp [World.cell?, RB5.out]
        have ar0 : v5.cell? ⟨Q, 0, none⟩ = some (.int .i64 4) := by simp [World.cell?, QB5.out]
        have ar1 : v5.cell? ⟨Q, 1, none⟩ = some (.int .i64 0) := by simp [World.cell?, QB5.out]
        have ar2 : v5.cell? ⟨Q, 2, none⟩ = some (.string ⟨#[]⟩) := by simp [World.cell?, QB5.out]
        have ar3 : v5.cell? ⟨Q, 3, none⟩ = some (.int .i64 0) := by simp [World.cell?, QB5.out]
        have ar4 : v5.cell? ⟨Q, 4, none⟩ = some (.int .i64 0) := by simp [World.cell?, QB5.out]
        have ar5 : v5.cell? ⟨Q, 5, none⟩ = some (.slice (some ⟨b2, o2 + 6, none⟩) r.length (pc - 1)) := by simp [World.cell?, QB5.out]
        cases hq2 : spkL t r with
        | true =>
          go_wp2_with fail
          go_ret
          exact ⟨rfl, F5.out.old⟩
        | false =>
        have SS2 := hidd hq2
        clear hq2
        go_wp2_with fail
        refine (ST.out _ F5.out.old).mono ?_
        rintro e v6 ⟨rfl, hb⟩
        have F6 := hidd (F5.out.below hb)
        have RB6 := hidd ((hb.block _ (Array.getElem?_eq_some_iff.1 RB5.out).1).trans RB5.out)
        have QB6 := hidd ((hb.block _ (Array.getElem?_eq_some_iff.1 QB5.out).1).trans QB5.out)
        clear hb F5 RB5 QB5 m0 m1 e0 e1 e2 e3 e4 e5 rb0 rb1 rb2 rb3 rb4 rb5 rb6 rb7 rb8 rb9 rb10 rb11 ar0 ar1 ar2 ar3 ar4 ar5 SP SE ST
        have m0 := F6.out.cell0 0
        have m1 := F6.out.cell0 1
        have e0 := F6.out.cell1 0
        have e1 := F6.out.cell1 1
        have e2 := F6.out.cell1 2
        have e3 := F6.out.cell1 3
        have e4 := F6.out.cell1 4
        have e5 := F6.out.cell1 5
        simp at m0 m1 e0 e1 e2 e3 e4 e5
        have rb0 : v6.cell? ⟨M, 0, none⟩ = some (.int .i64 p.kind) := by simp [World.cell?, RB6.out]
        have rb1 : v6.cell? ⟨M, 1, none⟩ = some (.int .i64 p.n) := by simp [World.cell?, RB6.out]
        have rb2 : v6.cell? ⟨M, 2, none⟩ = some (.string p.name) := by simp [World.cell?, RB6.out]
        have rb3 : v6.cell? ⟨M, 3, none⟩ = some (.int .i64 p.stamp) := by simp [World.cell?, RB6.out]
        have rb4 : v6.cell? ⟨M, 4, none⟩ = some (.int .i64 p.lib) := by simp [World.cell?, RB6.out]
        have rb5 : v6.cell? ⟨M, 5, none⟩ = some (.slice (some ⟨b2, o2, none⟩) (r.length + 1) pc) := by simp [World.cell?, RB6.out]
        have rb6 : v6.cell? ⟨M, 6, none⟩ = some (.int .i64 tm.kind) := by simp [World.cell?, RB6.out]
        have rb7 : v6.cell? ⟨M, 7, none⟩ = some (.int .i64 tm.n) := by simp [World.cell?, RB6.out]
        have rb8 : v6.cell? ⟨M, 8, none⟩ = some (.string tm.name) := by simp [World.cell?, RB6.out]
        have rb9 : v6.cell? ⟨M, 9, none⟩ = some (.int .i64 tm.stamp) := by simp [World.cell?, RB6.out]
        have rb10 : v6.cell? ⟨M, 10, none⟩ = some (.int .i64 tm.lib) := by simp [World.cell?, RB6.out]
        have rb11 : v6.cell? ⟨M, 11, none⟩ = some (.slice ta tm.kids.length tc) := by simp [World.cell?, RB6.out]
        have ar0 : v6.cell? ⟨Q, 0, none⟩ = some (.int .i64 4) := by simp [World.cell?, QB6.out]
        have ar1 : v6.cell? ⟨Q, 1, none⟩ = some (.int .i64 0) := by simp [World.cell?, QB6.out]
        have ar2 : v6.cell? ⟨Q, 2, none⟩ = some (.string ⟨#[]⟩) := by simp [World.cell?, QB6.out]
        have ar3 : v6.cell? ⟨Q, 3, none⟩ = some (.int .i64 0) := by simp [World.cell?, QB6.out]
        have ar4 : v6.cell? ⟨Q, 4, none⟩ = some (.int .i64 0) := by simp [World.cell?, QB6.out]
        have ar5 : v6.cell? ⟨Q, 5, none⟩ = some (.slice (some ⟨b2, o2 + 6, none⟩) r.length (pc - 1)) := by simp [World.cell?, QB6.out]
        cases hq3 : spkD t tm with
        | true =>
          go_wp2_with fail
          go_ret
          exact ⟨rfl, F6.out.old⟩
        | false =>
        have SS3 := hidd hq3
        clear hq3
        have hb : Below v6.heap.size v6 (v6.alloc (.cells #[.slice la li.length lc, .slice (some ⟨b, o, none⟩) ru.length rc] 25)) := (Below.refl _ _).alloc (Nat.le_refl _) _
        have F7 := hidd (F6.out.below hb)
        have RB7 := hidd ((hb.block _ (Array.getElem?_eq_some_iff.1 RB6.out).1).trans RB6.out)
        have QB7 := hidd ((hb.block _ (Array.getElem?_eq_some_iff.1 QB6.out).1).trans QB6.out)
        have KB7 := hidd (World.alloc_heap_new v6 (.cells #[.slice la li.length lc, .slice (some ⟨b, o, none⟩) ru.length rc] 25))
        have hQ6 := (Array.getElem?_eq_some_iff.1 QB6.out).1
        have hM6 := (Array.getElem?_eq_some_iff.1 RB6.out).1
        have hW6 := (Array.getElem?_eq_some_iff.1 F6.out.b1).1
        clear hb
        go_upto_region 16 with fail
        clear m0 m1 e0 e1 e2 e3 e4 e5 rb0 rb1 rb2 rb3 rb4 rb5 rb6 rb7 rb8 rb9 rb10 rb11 ar0 ar1 ar2 ar3 ar4 ar5 F6 RB6 QB6
        generalize v6.alloc (.cells #[.slice la li.length lc, .slice (some ⟨b, o, none⟩) ru.length rc] 25) = v7 at F7 RB7 QB7 KB7 ⊢
        generalize v6.heap.size = Kb at KB7 hQ6 hM6 hW6 ⊢
        have hb : Below v7.heap.size v7 (v7.alloc (.cells #[] 43)) := (Below.refl _ _).alloc (Nat.le_refl _) _
        have hK7 := (Array.getElem?_eq_some_iff.1 KB7.out).1
        have F8 := hidd (F7.out.below hb)
        have RB8 := hidd ((hb.block _ (Array.getElem?_eq_some_iff.1 RB7.out).1).trans RB7.out)
        have QB8 := hidd ((hb.block _ (Array.getElem?_eq_some_iff.1 QB7.out).1).trans QB7.out)
        have KB8 := hidd ((hb.block _ hK7).trans KB7.out)
        have RW0 := hidd (RowR.empty v7)
        clear hb F7 RB7 QB7 KB7
        have m0 := F8.out.cell0 0
        have m1 := F8.out.cell0 1
        have e0 := F8.out.cell1 0
        have e1 := F8.out.cell1 1
        have e2 := F8.out.cell1 2
        have e3 := F8.out.cell1 3
        have e4 := F8.out.cell1 4
        have e5 := F8.out.cell1 5
        simp at m0 m1 e0 e1 e2 e3 e4 e5
        have rb0 : (v7.alloc (.cells #[] 43)).cell? ⟨M, 0, none⟩ = some (.int .i64 p.kind) := by simp [World.cell?, RB8.out]
        have rb1 : (v7.alloc (.cells #[] 43)).cell? ⟨M, 1, none⟩ = some (.int .i64 p.n) := by simp [World.cell?, RB8.out]
        have rb2 : (v7.alloc (.cells #[] 43)).cell? ⟨M, 2, none⟩ = some (.string p.name) := by simp [World.cell?, RB8.out]
        have rb3 : (v7.alloc (.cells #[] 43)).cell? ⟨M, 3, none⟩ = some (.int .i64 p.stamp) := by simp [World.cell?, RB8.out]
        have rb4 : (v7.alloc (.cells #[] 43)).cell? ⟨M, 4, none⟩ = some (.int .i64 p.lib) := by simp [World.cell?, RB8.out]
        have rb5 : (v7.alloc (.cells #[] 43)).cell? ⟨M, 5, none⟩ = some (.slice (some ⟨b2, o2, none⟩) (r.length + 1) pc) := by simp [World.cell?, RB8.out]
        have rb6 : (v7.alloc (.cells #[] 43)).cell? ⟨M, 6, none⟩ = some (.int .i64 tm.kind) := by simp [World.cell?, RB8.out]
        have rb7 : (v7.alloc (.cells #[] 43)).cell? ⟨M, 7, none⟩ = some (.int .i64 tm.n) := by simp [World.cell?, RB8.out]
        have rb8 : (v7.alloc (.cells #[] 43)).cell? ⟨M, 8, none⟩ = some (.string tm.name) := by simp [World.cell?, RB8.out]
        have rb9 : (v7.alloc (.cells #[] 43)).cell? ⟨M, 9, none⟩ = some (.int .i64 tm.stamp) := by simp [World.cell?, RB8.out]
        have rb10 : (v7.alloc (.cells #[] 43)).cell? ⟨M, 10, none⟩ = some (.int .i64 tm.lib) := by simp [World.cell?, RB8.out]
        have rb11 : (v7.alloc (.cells #[] 43)).cell? ⟨M, 11, none⟩ = some (.slice ta tm.kids.length tc) := by simp [World.cell?, RB8.out]
        have ar0 : (v7.alloc (.cells #[] 43)).cell? ⟨Q, 0, none⟩ = some (.int .i64 4) := by simp [World.cell?, QB8.out]
        have ar1 : (v7.alloc (.cells #[] 43)).cell? ⟨Q, 1, none⟩ = some (.int .i64 0) := by simp [World.cell?, QB8.out]
        have ar2 : (v7.alloc (.cells #[] 43)).cell? ⟨Q, 2, none⟩ = some (.string ⟨#[]⟩) := by simp [World.cell?, QB8.out]
        have ar3 : (v7.alloc (.cells #[] 43)).cell? ⟨Q, 3, none⟩ = some (.int .i64 0) := by simp [World.cell?, QB8.out]
        have ar4 : (v7.alloc (.cells #[] 43)).cell? ⟨Q, 4, none⟩ = some (.int .i64 0) := by simp [World.cell?, QB8.out]
        have ar5 : (v7.alloc (.cells #[] 43)).cell? ⟨Q, 5, none⟩ = some (.slice (some ⟨b2, o2 + 6, none⟩) r.length (pc - 1)) := by simp [World.cell?, QB8.out]
        obtain ⟨i0, hinf, hz0, hz1, hz2⟩ := info_parts infoRule
        obtain ⟨bb, oo, es, hbo, hbb, hes, hcl, hok⟩ := Rn.ents ALL.out.2.1 (by intro e; rw [e] at hk; simp at hk)
        simp only [Option.some.injEq, Addr.mk.injEq, and_true] at hbo
        obtain ⟨rfl, rfl⟩ := hbo
        have hel : es.length = ru.length := by rw [← hes, List.length_map]
        have HE : Hid (es.map RE.rule = ru ∧ (∀ j u, (flatR es)[j]? = some u → w.cell? ⟨b, o + j, none⟩ = some u) ∧ ∀ e ∈ es, ROk (fun b => b < w.heap.size) w e) := ⟨hes, hcl, hok⟩
        clear hes hcl hok
        have hrb : reachBytes ≤ 140737488355328 := by unfold reachBytes; decide
        go_wp2_with (at_builtin; refine wpList_append_where rfl _ _ 23 rfl v7.heap.size 43 i0 _ 12 144 Tryz.underlying23 hinf hz0 hz1 hz2 rfl (by decide) (.slice (some ⟨v7.heap.size, 0, none⟩) 0 0) 0 (flatR []) rfl (by exact RW0.out.own) ⟨b, o, none⟩ ru.length rc (flatR es) rfl ?c0 ?c1 (flatR_one es) ?c9 ?c3 ?c4 ?c5 ?_)
        case c0 => rw [flatR_len, hel]
        case c1 =>
          intro j u hu
          have hadd : (⟨b, o, none⟩ : Addr).add j = ⟨b, o + j, none⟩ := by unfold Addr.add; split <;> simp_all
          rw [hadd]
          exact (F8.out.old.cell (p := ⟨b, o + j, none⟩) hbb).trans (HE.out.2.1 j u hu)
        case c9 => omega
        case c3 => unfold maxLen; omega
        case c4 => omega
        case c5 => simp
        intro v' w9 hown hg hw
        have hwv : w.heap.size < v7.heap.size := by omega
        have RW9 : RowR v7.heap.size v' es w9 := by
          have h5 := RW0.out.more (fs := es) (fun e he => (HE.out.2.2 e he).stay (fun k hk => F8.out.old.block k hk) (fun k hk => ⟨Nat.lt_of_lt_of_le hk F8.out.old.size, fun e => by rw [show k = v7.heap.size from (by simpa [Value.ownBlock] using e)] at hk; omega⟩)) (by rw [hel]; show w9.ownsRow _ 43 12 v' (0 + ru.length) _; rw [Nat.zero_add]; exact hown) hg (by simpa using hw)
          exact h5
        have h8 : v7.heap.size + 1 = (v7.alloc (.cells #[] 43)).heap.size := by simp
        have gb : ∀ N, N < v7.heap.size → w9.heap[N]? = (v7.alloc (.cells #[] 43)).heap[N]? := fun N hN => hg.block N (by omega) (fun e => by rw [show N = v7.heap.size from (by simpa [Value.ownBlock] using e)] at hN; omega)
        have F9 : Hid (SW w #[.slice la li.length lc, .slice (some ⟨b, o, none⟩) ru.length rc] #[.int .i64 d.kind, .int .i64 d.n, .string d.name, .int .i64 d.stamp, .int .i64 d.lib, .slice fa d.kids.length fc] w9) := ⟨F8.out.old.grown hg (by omega) (fun k hk => by rw [show k = v7.heap.size from (by simpa [Value.ownBlock] using hk.symm)]; omega), (gb _ (by omega)).trans F8.out.b0, (gb _ (by omega)).trans F8.out.b1⟩
        have RB9 := hidd ((gb M (by omega)).trans RB8.out)
        have QB9 := hidd ((gb Q (by omega)).trans QB8.out)
        have KB9 := hidd ((gb Kb (by omega)).trans KB8.out)
        obtain ⟨gg, cq, hv, _, _⟩ := RW9.own.form (by omega)
        rw [hel] at hv
        subst hv
        have RWH := hidd RW9
        have hgg : v7.heap.size ≤ gg := (RW9.own.lt gg rfl).1
        have hgl : gg < w9.heap.size := (RW9.own.lt gg rfl).2
        clear RW9 hown hg hw gb F8 RB8 QB8 KB8 RW0 m0 m1 e0 e1 e2 e3 e4 e5 rb0 rb1 rb2 rb3 rb4 rb5 rb6 rb7 rb8 rb9 rb10 rb11 ar0 ar1 ar2 ar3 ar4 ar5
        have kz : w9.frozen? ⟨Kb, 1, none⟩ = false := by simp [World.frozen?, KB9.out]
        have kb0 : w9.cell? ⟨Kb, 0, none⟩ = some (.slice la li.length lc) := by simp [World.cell?, KB9.out]
        have kb1 : w9.cell? ⟨Kb, 1, none⟩ = some (.slice (some ⟨b, o, none⟩) ru.length rc) := by simp [World.cell?, KB9.out]
        have hke : Keep Kb w9 (w9.setCell ⟨Kb, 1, none⟩ (.slice (some ⟨gg, 0, none⟩) ru.length cq)) := (Keep.refl _ _).setCell _ rfl _
        have hs9 : v7.heap.size ≤ w9.heap.size := by omega
        have F10 : Hid (SW w #[.slice la li.length lc, .slice (some ⟨b, o, none⟩) ru.length rc] #[.int .i64 d.kind, .int .i64 d.n, .string d.name, .int .i64 d.stamp, .int .i64 d.lib, .slice fa d.kids.length fc] (w9.setCell ⟨Kb, 1, none⟩ (.slice (some ⟨gg, 0, none⟩) ru.length cq))) := ⟨F9.out.old.setCell (p := ⟨Kb, 1, none⟩) (by show w.heap.size ≤ Kb; omega) _, (hke.block _ (by omega) (by simp; omega)).trans F9.out.b0, (hke.block _ (by omega) (by simp; omega)).trans F9.out.b1⟩
        have RB10 := hidd ((hke.block M (by omega) (by simp; omega)).trans RB9.out)
        have QB10 := hidd ((hke.block Q (by omega) (by simp; omega)).trans QB9.out)
        have RW10 : Hid (RowR v7.heap.size (.slice (some ⟨gg, 0, none⟩) ru.length cq) es (w9.setCell ⟨Kb, 1, none⟩ (.slice (some ⟨gg, 0, none⟩) ru.length cq))) := ⟨RWH.out.own.kept hke (Or.inr (by show some gg ≠ some Kb; intro e; have := Option.some.inj e; omega)), fun e he => by
          obtain ⟨p1, p2, p3, p4, ff, p5, p6⟩ := RWH.out.kids e he
          have h7 : ROk (fun b => b < w.heap.size) w e := HE.out.2.2 e he
          exact h7.stay (fun k hk => F10.out.old.block k hk) (fun k hk => ⟨Nat.lt_of_lt_of_le hk F10.out.old.size, fun e => by have := Option.some.inj e; simp only at this; omega⟩)⟩
        have s10 : (w9.setCell ⟨Kb, 1, none⟩ (.slice (some ⟨gg, 0, none⟩) ru.length cq)).heap.size = w9.heap.size := by simp [World.setCell]
        have kc0 : (w9.setCell ⟨Kb, 1, none⟩ (.slice (some ⟨gg, 0, none⟩) ru.length cq)).cell? ⟨Kb, 0, none⟩ = some (.slice la li.length lc) := by go_simp
        have kc1 : (w9.setCell ⟨Kb, 1, none⟩ (.slice (some ⟨gg, 0, none⟩) ru.length cq)).cell? ⟨Kb, 1, none⟩ = some (.slice (some ⟨gg, 0, none⟩) ru.length cq) := by go_simp
        clear hke F9 RB9 QB9 RWH
        have m0 := F10.out.cell0 0
        have m1 := F10.out.cell0 1
        have e0 := F10.out.cell1 0
        have e1 := F10.out.cell1 1
        have e2 := F10.out.cell1 2
        have e3 := F10.out.cell1 3
        have e4 := F10.out.cell1 4
        have e5 := F10.out.cell1 5
        simp at m0 m1 e0 e1 e2 e3 e4 e5
        have rb0 : (w9.setCell ⟨Kb, 1, none⟩ (.slice (some ⟨gg, 0, none⟩) ru.length cq)).cell? ⟨M, 0, none⟩ = some (.int .i64 p.kind) := by simp [World.cell?, RB10.out]
        have rb1 : (w9.setCell ⟨Kb, 1, none⟩ (.slice (some ⟨gg, 0, none⟩) ru.length cq)).cell? ⟨M, 1, none⟩ = some (.int .i64 p.n) := by simp [World.cell?, RB10.out]
        have rb2 : (w9.setCell ⟨Kb, 1, none⟩ (.slice (some ⟨gg, 0, none⟩) ru.length cq)).cell? ⟨M, 2, none⟩ = some (.string p.name) := by simp [World.cell?, RB10.out]
        have rb3 : (w9.setCell ⟨Kb, 1, none⟩ (.slice (some ⟨gg, 0, none⟩) ru.length cq)).cell? ⟨M, 3, none⟩ = some (.int .i64 p.stamp) := by simp [World.cell?, RB10.out]
        have rb4 : (w9.setCell ⟨Kb, 1, none⟩ (.slice (some ⟨gg, 0, none⟩) ru.length cq)).cell? ⟨M, 4, none⟩ = some (.int .i64 p.lib) := by simp [World.cell?, RB10.out]
        have rb5 : (w9.setCell ⟨Kb, 1, none⟩ (.slice (some ⟨gg, 0, none⟩) ru.length cq)).cell? ⟨M, 5, none⟩ = some (.slice (some ⟨b2, o2, none⟩) (r.length + 1) pc) := by simp [World.cell?, RB10.out]
        have rb6 : (w9.setCell ⟨Kb, 1, none⟩ (.slice (some ⟨gg, 0, none⟩) ru.length cq)).cell? ⟨M, 6, none⟩ = some (.int .i64 tm.kind) := by simp [World.cell?, RB10.out]
        have rb7 : (w9.setCell ⟨Kb, 1, none⟩ (.slice (some ⟨gg, 0, none⟩) ru.length cq)).cell? ⟨M, 7, none⟩ = some (.int .i64 tm.n) := by simp [World.cell?, RB10.out]
        have rb8 : (w9.setCell ⟨Kb, 1, none⟩ (.slice (some ⟨gg, 0, none⟩) ru.length cq)).cell? ⟨M, 8, none⟩ = some (.string tm.name) := by simp [World.cell?, RB10.out]
        have rb9 : (w9.setCell ⟨Kb, 1, none⟩ (.slice (some ⟨gg, 0, none⟩) ru.length cq)).cell? ⟨M, 9, none⟩ = some (.int .i64 tm.stamp) := by simp [World.cell?, RB10.out]
        have rb10 : (w9.setCell ⟨Kb, 1, none⟩ (.slice (some ⟨gg, 0, none⟩) ru.length cq)).cell? ⟨M, 10, none⟩ = some (.int .i64 tm.lib) := by simp [World.cell?, RB10.out]
        have rb11 : (w9.setCell ⟨Kb, 1, none⟩ (.slice (some ⟨gg, 0, none⟩) ru.length cq)).cell? ⟨M, 11, none⟩ = some (.slice ta tm.kids.length tc) := by simp [World.cell?, RB10.out]
        have ar0 : (w9.setCell ⟨Kb, 1, none⟩ (.slice (some ⟨gg, 0, none⟩) ru.length cq)).cell? ⟨Q, 0, none⟩ = some (.int .i64 4) := by simp [World.cell?, QB10.out]
        have ar1 : (w9.setCell ⟨Kb, 1, none⟩ (.slice (some ⟨gg, 0, none⟩) ru.length cq)).cell? ⟨Q, 1, none⟩ = some (.int .i64 0) := by simp [World.cell?, QB10.out]
        have ar2 : (w9.setCell ⟨Kb, 1, none⟩ (.slice (some ⟨gg, 0, none⟩) ru.length cq)).cell? ⟨Q, 2, none⟩ = some (.string ⟨#[]⟩) := by simp [World.cell?, QB10.out]
        have ar3 : (w9.setCell ⟨Kb, 1, none⟩ (.slice (some ⟨gg, 0, none⟩) ru.length cq)).cell? ⟨Q, 3, none⟩ = some (.int .i64 0) := by simp [World.cell?, QB10.out]
        have ar4 : (w9.setCell ⟨Kb, 1, none⟩ (.slice (some ⟨gg, 0, none⟩) ru.length cq)).cell? ⟨Q, 4, none⟩ = some (.int .i64 0) := by simp [World.cell?, QB10.out]
        have ar5 : (w9.setCell ⟨Kb, 1, none⟩ (.slice (some ⟨gg, 0, none⟩) ru.length cq)).cell? ⟨Q, 5, none⟩ = some (.slice (some ⟨b2, o2 + 6, none⟩) r.length (pc - 1)) := by simp [World.cell?, QB10.out]
        have FP := ALL.out.2.2.2.2.2.1 p tm (List.mem_of_getElem? PT.out)
        have FL : fewD (listD r) := by
          have h5 := FP.1
          obtain ⟨pk, pn, pnm, pst, plb, pks⟩ := p
          rw [fewD] at h5
          have h6 : pks = x :: r := HK.out
          rw [h6] at h5
          unfold listD
          rw [fewD]
          rw [fewL] at h5
          refine ⟨?_, h5.2.2⟩
          have := h5.1
          simp at this
          omega
        have RN : Hid (∀ W, Below w.heap.size w W → Calls Tryz.prog 17 #[.agg #[.int .i64 4, .int .i64 0, .string ⟨#[]⟩, .int .i64 0, .int .i64 0, .slice (some ⟨b2, o2 + 6, none⟩) r.length (pc - 1)], .string s, .string t] W (ToldO (listD (renL s t r)) W)) := fun W hb => by
          have h5 := renamed_any s t hts _ (listD r) (some ⟨b2, o2 + 6, none⟩) (pc - 1) W (Dn.lift DR.out hb) FL
          have e5 : renD s t (listD r) = listD (renL s t r) := by unfold listD; rw [renD, if_neg (by simp)]
          rw [e5] at h5
          exact h5
        have RT : Hid (∀ W, Below w.heap.size w W → Calls Tryz.prog 17 #[.agg #[.int .i64 tm.kind, .int .i64 tm.n, .string tm.name, .int .i64 tm.stamp, .int .i64 tm.lib, .slice ta tm.kids.length tc], .string s, .string t] W (ToldO (renD s t tm) W)) := fun W hb => renamed_any s t hts _ tm ta tc W (Dn.lift PL.out.2.2.2.2.2 hb) FP.2
        clear FP FL
        go_wp2_with fail
        refine (RN.out _ F10.out.old).mono ?_
        rintro e v11 ⟨hb, ka, kc, kf, rfl, hkc, hkd⟩
        have F11 := hidd (F10.out.below hb)
        have RB11 := hidd ((hb.block _ (Array.getElem?_eq_some_iff.1 RB10.out).1).trans RB10.out)
        have RW11 := hidd (RW10.out.below hb)
        have D11 : Hid ((renL s t r).length ≤ kc ∧ DnX v11 gg kf ka (renL s t r)) := ⟨hkc, DnX.of hkd (by omega)⟩
        have kd1 := (hb.cell (p := ⟨Kb, 1, none⟩) (by show Kb < _; omega)).trans kc1
        have kd0 := (hb.cell (p := ⟨Kb, 0, none⟩) (by show Kb < _; omega)).trans kc0
        clear hb hkc hkd F10 RB10 QB10 RW10 RN kc0 kc1 kb0 kb1 kz KB9 m0 m1 e0 e1 e2 e3 e4 e5 rb0 rb1 rb2 rb3 rb4 rb5 rb6 rb7 rb8 rb9 rb10 rb11 ar0 ar1 ar2 ar3 ar4 ar5
        unfold dv
        have ba : Below v11.heap.size v11 (v11.alloc (.cells #[.int .i64 (listD (renL s t r)).kind, .int .i64 (listD (renL s t r)).n, .string (listD (renL s t r)).name, .int .i64 (listD (renL s t r)).stamp, .int .i64 (listD (renL s t r)).lib, .slice ka (listD (renL s t r)).kids.length kc] 28)) := (Below.refl _ _).alloc (Nat.le_refl _) _
        have F12 := hidd (F11.out.below ba)
        have RB12 := hidd ((ba.block _ (Array.getElem?_eq_some_iff.1 RB11.out).1).trans RB11.out)
        have RO12 := hidd (own_below RW11.out.own ba)
        have D12 : Hid ((renL s t r).length ≤ kc ∧ DnX (v11.alloc (.cells #[.int .i64 (listD (renL s t r)).kind, .int .i64 (listD (renL s t r)).n, .string (listD (renL s t r)).name, .int .i64 (listD (renL s t r)).stamp, .int .i64 (listD (renL s t r)).lib, .slice ka (listD (renL s t r)).kids.length kc] 28)) gg kf ka (renL s t r)) := ⟨D11.out.1, D11.out.2.lift ba⟩
        have kf1 := (ba.cell (p := ⟨Kb, 1, none⟩) (by show Kb < v11.heap.size; exact World.block_lt_of_cell? v11 ⟨Kb, 1, none⟩ kd1)).trans kd1
        have kf0 := (ba.cell (p := ⟨Kb, 0, none⟩) (by show Kb < v11.heap.size; exact World.block_lt_of_cell? v11 ⟨Kb, 1, none⟩ kd1)).trans kd0
        have N12 := hidd (Nod.made v11 (listD (renL s t r)) (.slice ka (listD (renL s t r)).kids.length kc))
        have hg11 : gg < v11.heap.size := (RW11.out.own.lt gg rfl).2
        have hv11 : v7.heap.size ≤ v11.heap.size := by omega
        have hP : v11.heap.size < (v11.alloc (.cells #[.int .i64 (listD (renL s t r)).kind, .int .i64 (listD (renL s t r)).n, .string (listD (renL s t r)).name, .int .i64 (listD (renL s t r)).stamp, .int .i64 (listD (renL s t r)).lib, .slice ka (listD (renL s t r)).kids.length kc] 28)).heap.size := by simp
        clear ba F11 RB11 RW11 D11 kd0 kd1
        go_upto_region 18 with fail
        generalize v11.alloc (.cells #[.int .i64 (listD (renL s t r)).kind, .int .i64 (listD (renL s t r)).n, .string (listD (renL s t r)).name, .int .i64 (listD (renL s t r)).stamp, .int .i64 (listD (renL s t r)).lib, .slice ka (listD (renL s t r)).kids.length kc] 28) = W0 at F12 RB12 RO12 D12 kf1 kf0 N12 hP ⊢
        generalize v11.heap.size = P at N12 hg11 hv11 hP ⊢
        obtain ⟨xa, xc, z0, z1, z2, z3, z4, z5, xn, xk, xd, hb2⟩ := X0.out
        have hxl : b2 < v7.heap.size := by omega
        have y0 := (F12.out.old.cell (p := ⟨b2, o2, none⟩) hb2).trans z0
        have y1 := (F12.out.old.cell (p := ⟨b2, o2 + 1, none⟩) hb2).trans z1
        have y2 := (F12.out.old.cell (p := ⟨b2, o2 + 2, none⟩) hb2).trans z2
        have y3 := (F12.out.old.cell (p := ⟨b2, o2 + 3, none⟩) hb2).trans z3
        have y4 := (F12.out.old.cell (p := ⟨b2, o2 + 4, none⟩) hb2).trans z4
        have y5 := (F12.out.old.cell (p := ⟨b2, o2 + 5, none⟩) hb2).trans z5
        have rb0 : W0.cell? ⟨M, 0, none⟩ = some (.int .i64 p.kind) := by simp [World.cell?, RB12.out]
        have rb1 : W0.cell? ⟨M, 1, none⟩ = some (.int .i64 p.n) := by simp [World.cell?, RB12.out]
        have rb2 : W0.cell? ⟨M, 2, none⟩ = some (.string p.name) := by simp [World.cell?, RB12.out]
        have rb3 : W0.cell? ⟨M, 3, none⟩ = some (.int .i64 p.stamp) := by simp [World.cell?, RB12.out]
        have rb4 : W0.cell? ⟨M, 4, none⟩ = some (.int .i64 p.lib) := by simp [World.cell?, RB12.out]
        have rb5 : W0.cell? ⟨M, 5, none⟩ = some (.slice (some ⟨b2, o2, none⟩) (r.length + 1) pc) := by simp [World.cell?, RB12.out]
        have rb6 : W0.cell? ⟨M, 6, none⟩ = some (.int .i64 tm.kind) := by simp [World.cell?, RB12.out]
        have rb7 : W0.cell? ⟨M, 7, none⟩ = some (.int .i64 tm.n) := by simp [World.cell?, RB12.out]
        have rb8 : W0.cell? ⟨M, 8, none⟩ = some (.string tm.name) := by simp [World.cell?, RB12.out]
        have rb9 : W0.cell? ⟨M, 9, none⟩ = some (.int .i64 tm.stamp) := by simp [World.cell?, RB12.out]
        have rb10 : W0.cell? ⟨M, 10, none⟩ = some (.int .i64 tm.lib) := by simp [World.cell?, RB12.out]
        have rb11 : W0.cell? ⟨M, 11, none⟩ = some (.slice ta tm.kids.length tc) := by simp [World.cell?, RB12.out]
        have hMv : M < v7.heap.size := by omega
        clear z0 z1 z2 z3 z4 z5
        have DX : Hid (DnX W0 gg g2 xa x.kids) := Dc.stay (fun k hk => F12.out.old.block k hk) (fun k hk => ⟨Nat.lt_of_lt_of_le hk F12.out.old.size, by omega⟩) _ _ _ xd
        have RL72 : Hid (((renL s t r).length + 1) * 72 ≤ 140737488355328) := by
          have h5 := (ALL.out.2.2.2.2.2.1 p tm (List.mem_of_getElem? PT.out)).1
          obtain ⟨pk, pn, pnm, pst, plb, pks⟩ := p
          rw [fewD] at h5
          have h6 : pks = x :: r := HK.out
          rw [h6, List.length_cons] at h5
          show _ ≤ _
          rw [renL_length]
          exact h5.1
        obtain ⟨ek, hek⟩ : ∃ ek, es[k]? = some ek := ⟨es[k]'(by omega), List.getElem?_eq_getElem (by omega)⟩
        have RO_0 : Hid (W0.drew.ownsRow v7.heap.size 43 12 (.slice (some ⟨gg, 0, none⟩) ru.length cq) ru.length (flatR es)) := by have h5 := RO12.out; rw [hel] at h5; exact h5
        have hW0 : v7.heap.size ≤ W0.heap.size := by omega
        refine wp_region_held_drew (S := fun u => SV v7.heap.size W0 P (listD (renL s t r)) (.slice ka (listD (renL s t r)).kids.length kc) u) (by kernel_rfl) ⟨hW0, (Below.refl _ _).drew, N12.out.after (Below.drew (Below.refl _ _))⟩ (fun hS => ?_)
        refine wpAnyH_take (i := 0) (oi := { dst := some 110, op := Op.fieldAddr 25 (Operand.tmp 15) 1, type := 0, pos := _, after := _, guard := none }) (v := .pointer (some ⟨Kb, 1, none⟩)) rfl (by kernel_rfl) (by kernel_rfl) (by kernel_rfl) (fun _ _ _ h => h) (Or.inl ⟨by rfl, fun u hu => by go_simp⟩) hS ?_
        simp only [Act.put, List.setIfInBounds_toArray, List.set_cons_zero, List.set_cons_succ]
        refine wpAnyH_take (i := 1) (oi := { dst := some 111, op := Op.load 23 (Operand.tmp 110), type := 23, pos := _, after := _, guard := none }) (v := .slice (some ⟨gg, 0, none⟩) ru.length cq) rfl (by kernel_rfl) (by kernel_rfl) (by kernel_rfl) (fun _ _ _ h => h) (Or.inl ⟨by rfl, fun u hu => by (have z := (hu.old.cell (p := ⟨Kb, 1, none⟩) hK7).trans kf1; go_simp)⟩) hS ?_
        simp only [Act.put, List.setIfInBounds_toArray, List.set_cons_zero, List.set_cons_succ]
        refine wpAnyH_take (i := 2) (oi := { dst := some 112, op := Op.move (Operand.tmp 2), type := 3, pos := _, after := _, guard := none }) (v := .int .i64 k) rfl (by kernel_rfl) (by kernel_rfl) (by kernel_rfl) (fun _ _ _ h => h) (Or.inl ⟨by rfl, fun u hu => by go_simp⟩) hS ?_
        simp only [Act.put, List.setIfInBounds_toArray, List.set_cons_zero, List.set_cons_succ]
        refine wpAnyH_take (i := 3) (oi := { dst := some 113, op := Op.fieldAddr 43 (Operand.tmp 11) 0, type := 0, pos := _, after := _, guard := none }) (v := .pointer (some ⟨M, 0, none⟩)) rfl (by kernel_rfl) (by kernel_rfl) (by kernel_rfl) (fun _ _ _ h => h) (Or.inl ⟨by rfl, fun u hu => by go_simp⟩) hS ?_
        simp only [Act.put, List.setIfInBounds_toArray, List.set_cons_zero, List.set_cons_succ]
        refine wpAnyH_take (i := 4) (oi := { dst := some 114, op := Op.fieldAddr 28 (Operand.tmp 113) 5, type := 0, pos := _, after := _, guard := none }) (v := .pointer (some ⟨M, 5, none⟩)) rfl (by kernel_rfl) (by kernel_rfl) (by kernel_rfl) (fun _ _ _ h => h) (Or.inl ⟨by rfl, fun u hu => by go_simp⟩) hS ?_
        simp only [Act.put, List.setIfInBounds_toArray, List.set_cons_zero, List.set_cons_succ]
        refine wpAnyH_take (i := 5) (oi := { dst := some 115, op := Op.load 26 (Operand.tmp 114), type := 26, pos := _, after := _, guard := none }) (v := .slice (some ⟨b2, o2, none⟩) (r.length + 1) pc) rfl (by kernel_rfl) (by kernel_rfl) (by kernel_rfl) (fun _ _ _ h => h) (Or.inl ⟨by rfl, fun u hu => by (have z := (hu.old.cell (p := ⟨M, 5, none⟩) hMv).trans rb5; go_simp)⟩) hS ?_
        simp only [Act.put, List.setIfInBounds_toArray, List.set_cons_zero, List.set_cons_succ]
        refine wpAnyH_take (i := 6) (oi := { dst := some 116, op := Op.indexAddr 26 (Operand.tmp 115) (Operand.const (Value.int IntKind.i64 0)), type := 0, pos := _, after := _, guard := none }) (v := .pointer (some ⟨b2, o2, none⟩)) rfl (by kernel_rfl) (by kernel_rfl) (by kernel_rfl) (fun _ _ _ h => h) (Or.inl ⟨by rfl, fun u hu => by go_simp⟩) hS ?_
        simp only [Act.put, List.setIfInBounds_toArray, List.set_cons_zero, List.set_cons_succ]
        refine wpAnyH_take (i := 7) (oi := { dst := some 117, op := Op.load 28 (Operand.tmp 116), type := 28, pos := _, after := _, guard := none }) (v := .agg #[.int .i64 x.kind, .int .i64 x.n, .string x.name, .int .i64 x.stamp, .int .i64 x.lib, .slice xa x.kids.length xc]) rfl (by kernel_rfl) (by kernel_rfl) (by kernel_rfl) (fun _ _ _ h => h) (Or.inl ⟨by rfl, fun u hu => by (have z0 := (hu.old.cell (p := ⟨b2, o2, none⟩) hxl).trans y0; have z1 := (hu.old.cell (p := ⟨b2, o2 + 1, none⟩) hxl).trans y1; have z2 := (hu.old.cell (p := ⟨b2, o2 + 2, none⟩) hxl).trans y2; have z3 := (hu.old.cell (p := ⟨b2, o2 + 3, none⟩) hxl).trans y3; have z4 := (hu.old.cell (p := ⟨b2, o2 + 4, none⟩) hxl).trans y4; have z5 := (hu.old.cell (p := ⟨b2, o2 + 5, none⟩) hxl).trans y5; go_simp)⟩) hS ?_
        simp only [Act.put, List.setIfInBounds_toArray, List.set_cons_zero, List.set_cons_succ]
        refine wpAnyH_take (i := 9) (oi := { dst := some 119, op := Op.fieldAddr 28 (Operand.tmp 16) 5, type := 0, pos := _, after := _, guard := none }) (v := .pointer (some ⟨P, 5, none⟩)) rfl (by kernel_rfl) (by kernel_rfl) (by kernel_rfl) (fun _ _ _ h => h) (Or.inl ⟨by rfl, fun u hu => by go_simp⟩) hS ?_
        simp only [Act.put, List.setIfInBounds_toArray, List.set_cons_zero, List.set_cons_succ]
        refine wpAnyH_take (i := 10) (oi := { dst := some 120, op := Op.load 26 (Operand.tmp 119), type := 26, pos := _, after := _, guard := none }) (v := .slice ka (renL s t r).length kc) rfl (by kernel_rfl) (by kernel_rfl) (by kernel_rfl) (fun _ _ _ h => h) (Or.inl ⟨by rfl, fun u hu => by (have z : u.cell? ⟨P, 5, none⟩ = some (.slice ka (renL s t r).length kc) := hu.box.q5; go_simp)⟩) hS ?_
        simp only [Act.put, List.setIfInBounds_toArray, List.set_cons_zero, List.set_cons_succ]
        refine wpAnyH_take (i := 13) (oi := { dst := some 123, op := Op.fieldAddr 43 (Operand.tmp 11) 1, type := 0, pos := _, after := _, guard := none }) (v := .pointer (some ⟨M, 6, none⟩)) rfl (by kernel_rfl) (by kernel_rfl) (by kernel_rfl) (fun _ _ _ h => h) (Or.inl ⟨by rfl, fun u hu => by go_simp⟩) hS ?_
        simp only [Act.put, List.setIfInBounds_toArray, List.set_cons_zero, List.set_cons_succ]
        refine wpAnyH_take (i := 14) (oi := { dst := some 124, op := Op.load 28 (Operand.tmp 123), type := 28, pos := _, after := _, guard := none }) (v := .agg #[.int .i64 tm.kind, .int .i64 tm.n, .string tm.name, .int .i64 tm.stamp, .int .i64 tm.lib, .slice ta tm.kids.length tc]) rfl (by kernel_rfl) (by kernel_rfl) (by kernel_rfl) (fun _ _ _ h => h) (Or.inl ⟨by rfl, fun u hu => by (have z0 := (hu.old.cell (p := ⟨M, 6, none⟩) hMv).trans rb6; have z1 := (hu.old.cell (p := ⟨M, 7, none⟩) hMv).trans rb7; have z2 := (hu.old.cell (p := ⟨M, 8, none⟩) hMv).trans rb8; have z3 := (hu.old.cell (p := ⟨M, 9, none⟩) hMv).trans rb9; have z4 := (hu.old.cell (p := ⟨M, 10, none⟩) hMv).trans rb10; have z5 := (hu.old.cell (p := ⟨M, 11, none⟩) hMv).trans rb11; go_simp)⟩) hS ?_
        simp only [Act.put, List.setIfInBounds_toArray, List.set_cons_zero, List.set_cons_succ]
        refine wpAnyH_take (i := 15) (oi := { dst := some 125, op := Op.move (Operand.tmp 3), type := 9, pos := _, after := _, guard := none }) (v := .string s) rfl (by kernel_rfl) (by kernel_rfl) (by kernel_rfl) (fun _ _ _ h => h) (Or.inl ⟨by rfl, fun u hu => by go_simp⟩) hS ?_
        simp only [Act.put, List.setIfInBounds_toArray, List.set_cons_zero, List.set_cons_succ]
        refine wpAnyH_take (i := 16) (oi := { dst := some 126, op := Op.move (Operand.tmp 4), type := 9, pos := _, after := _, guard := none }) (v := .string t) rfl (by kernel_rfl) (by kernel_rfl) (by kernel_rfl) (fun _ _ _ h => h) (Or.inl ⟨by rfl, fun u hu => by go_simp⟩) hS ?_
        simp only [Act.put, List.setIfInBounds_toArray, List.set_cons_zero, List.set_cons_succ]
        refine wpAnyH_ready (rs := [8]) (by kernel_rfl) (by simp) (AllReadyH.cons (o := { dst := some 118, op := Op.buildSlice 26 1 #[(0, Operand.tmp 117)], type := 26, pos := _, after := _, guard := none }) rfl (fun K hK => ?_) AllReadyH.nil)
        go_simp
        have hb1 : Below W0.drew.heap.size W0.drew (W0.drew.alloc (.cells #[.int .i64 x.kind, .int .i64 x.n, .string x.name, .int .i64 x.stamp, .int .i64 x.lib, .slice xa x.kids.length xc] 28)) := (Below.refl _ _).alloc (Nat.le_refl _) _
        have hN1 : (W0.drew.alloc (.cells #[.int .i64 x.kind, .int .i64 x.n, .string x.name, .int .i64 x.stamp, .int .i64 x.lib, .slice xa x.kids.length xc] 28)).heap[W0.heap.size]? = some (.cells #[.int .i64 x.kind, .int .i64 x.n, .string x.name, .int .i64 x.stamp, .int .i64 x.lib, .slice xa x.kids.length xc] 28 (0, 0)) ∧ W0.heap.size ≤ W0.heap.size := ⟨World.alloc_heap_new W0.drew _, hS.old.size⟩
        have hX1 : Below W0.heap.size W0 (W0.drew.alloc (.cells #[.int .i64 x.kind, .int .i64 x.n, .string x.name, .int .i64 x.stamp, .int .i64 x.lib, .slice xa x.kids.length xc] 28)) := ((Below.refl _ _).drew).alloc (Nat.le_refl _) _
        have hS1 := hS.trans (hb1.mono hS.size)
        change K _ (W0.drew.alloc (.cells #[.int .i64 x.kind, .int .i64 x.n, .string x.name, .int .i64 x.stamp, .int .i64 x.lib, .slice xa x.kids.length xc] 28))
        generalize W0.drew.alloc (.cells #[.int .i64 x.kind, .int .i64 x.n, .string x.name, .int .i64 x.stamp, .int .i64 x.lib, .slice xa x.kids.length xc] 28) = W1 at hb1 hN1 hS1 hX1 ⊢
        have RO_1 : Hid (W1.ownsRow v7.heap.size 43 12 (.slice (some ⟨gg, 0, none⟩) ru.length cq) ru.length (flatR es)) := own_below RO_0.out hb1
        have BL_1 : Hid (W1.heap[W0.heap.size]? = some (.cells #[.int .i64 x.kind, .int .i64 x.n, .string x.name, .int .i64 x.stamp, .int .i64 x.lib, .slice xa x.kids.length xc] 28 (0, 0)) ∧ W0.heap.size ≤ W0.heap.size ∧ Below W0.heap.size W0 W1) := ⟨hN1.1, hN1.2, hX1⟩
        clear hb1 hN1 hX1
        refine hK.out _ _ hS1 (fun hS => ?_)
        clear hK K
        refine wpAnyH_ready (rs := [11]) (by kernel_rfl) (by simp) (AllReadyH.cons (o := { dst := some 121, op := Op.call { callee := Callee.builtin Builtin.append, args := #[Operand.tmp 118, Operand.tmp 120], argTypes := #[26, 26] }, type := 26, pos := _, after := _, guard := none }) rfl (fun K hK => ?_) AllReadyH.nil)
        refine step_beforeX (W0 := W0) (F := kf) (d := x) (N := W0.heap.size) (G := gg) rfl (.tmp 118) (.tmp 120) rfl rfl rfl (by exact BL_1.out.1) xn xk DX.out BL_1.out.2.1 (by omega) BL_1.out.2.2 D12.out.2 RL72.out ?_
        intro g2 gc2 gf2 W2 hc2 hd2 hg2
        have hS2 : SV v7.heap.size W0 P (listD (renL s t r)) (.slice ka (listD (renL s t r)).kids.length kc) W2 := ⟨hW0, hS.old.grown hg2 (Nat.le_trans hW0 hS.old.size) (fun k hk => by have := Option.some.inj hk; have := BL_1.out.2.1; omega), hS.box.grown hg2 (fun e => by have := Option.some.inj e; have := BL_1.out.2.1; omega)⟩
        have RO_2 : Hid (W2.ownsRow v7.heap.size 43 12 (.slice (some ⟨gg, 0, none⟩) ru.length cq) ru.length (flatR es)) := RO_1.out.kept hg2 (Or.inr (by show some gg ≠ some _; intro e; have := Option.some.inj e; have := BL_1.out.2.1; omega))
        have LL_2 : Hid ((renL s t r).length + 1 ≤ gc2 ∧ DnX W2 gg gf2 (some ⟨g2, 0, none⟩) (x :: renL s t r)) := ⟨hc2, hd2⟩
        clear hc2 hd2 hg2
        show K _ W2
        refine hK.out _ _ hS2 (fun hS => ?_)
        clear hK K
        refine wpAnyH_take (i := 12) (oi := { dst := some 122, op := Op.build 28 #[(0, Operand.const (Value.int IntKind.i64 4)), (5, Operand.tmp 121)], type := 28, pos := _, after := _, guard := none }) (v := .agg #[.int .i64 4, .int .i64 0, .string ⟨#[]⟩, .int .i64 0, .int .i64 0, .slice (some ⟨g2, 0, none⟩) ((renL s t r).length + 1) gc2]) rfl (by kernel_rfl) (by kernel_rfl) (by kernel_rfl) (fun _ _ _ h => h) (Or.inl ⟨by rfl, fun u hu => by go_simp⟩) hS ?_
        simp only [Act.put, List.setIfInBounds_toArray, List.set_cons_zero, List.set_cons_succ]
        refine wpAnyH_ready (rs := [17]) (by kernel_rfl) (by simp) (AllReadyH.cons (o := { dst := some 127, op := Op.call { callee := Callee.value (Operand.func 17), args := #[Operand.tmp 124, Operand.tmp 125, Operand.tmp 126], argTypes := #[28, 9, 9] }, type := 28, pos := _, after := _, guard := none }) rfl (fun K hK => ?_) AllReadyH.nil)
        go_simp
        refine (RT.out W2 (F12.out.old.trans (hS.old.mono (by omega)))).mono ?_
        rintro e W3 ⟨hb3, ta3, tc3, tf3, rfl, hc3, hd3⟩
        have hlt3 := (RO_2.out.lt gg rfl).2
        have RO_3 : Hid (W3.ownsRow v7.heap.size 43 12 (.slice (some ⟨gg, 0, none⟩) ru.length cq) ru.length (flatR es)) := own_below RO_2.out hb3
        have LL_3 : Hid ((renL s t r).length + 1 ≤ gc2 ∧ DnX W3 gg gf2 (some ⟨g2, 0, none⟩) (x :: renL s t r)) := ⟨LL_2.out.1, LL_2.out.2.lift hb3⟩
        have TT_3 : Hid ((renD s t tm).kids.length ≤ tc3 ∧ DnX W3 gg tf3 ta3 (renD s t tm).kids) := ⟨hc3, DnX.of hd3 hlt3⟩
        have hS3 := hS.trans (hb3.mono hS.size)
        clear hb3 hc3 hd3 hlt3
        unfold dv
        show K _ W3
        refine hK.out _ _ hS3 (fun hS => ?_)
        clear hK K
        refine wpAnyH_take (i := 18) (oi := { dst := some 128, op := Op.build 43 #[(0, Operand.tmp 122), (1, Operand.tmp 127)], type := 43, pos := _, after := _, guard := none }) (v := .agg #[.int .i64 4, .int .i64 0, .string ⟨#[]⟩, .int .i64 0, .int .i64 0, .slice (some ⟨g2, 0, none⟩) ((renL s t r).length + 1) gc2, .int .i64 (renD s t tm).kind, .int .i64 (renD s t tm).n, .string (renD s t tm).name, .int .i64 (renD s t tm).stamp, .int .i64 (renD s t tm).lib, .slice ta3 (renD s t tm).kids.length tc3]) rfl (by kernel_rfl) (by kernel_rfl) (by kernel_rfl) (fun _ _ _ h => h) (Or.inl ⟨by rfl, fun u hu => by go_simp⟩) hS ?_
        simp only [Act.put, List.setIfInBounds_toArray, List.set_cons_zero, List.set_cons_succ]
        refine wpAnyH_take (i := 19) (oi := { dst := some 129, op := Op.indexAddr 23 (Operand.tmp 111) (Operand.tmp 112), type := 0, pos := _, after := _, guard := none }) (v := .pointer (some ⟨gg, k * 12, none⟩)) rfl (by kernel_rfl) (by kernel_rfl) (by kernel_rfl) (fun _ _ _ h => h) (Or.inl ⟨by rfl, fun u hu => by go_simp⟩) hS ?_
        simp only [Act.put, List.setIfInBounds_toArray, List.set_cons_zero, List.set_cons_succ]
        refine wpAnyH_ready (rs := [20]) (by kernel_rfl) (by simp) (AllReadyH.cons (o := { dst := none, op := Op.store 43 (Operand.tmp 129) (Operand.tmp 128), type := 0, pos := _, after := _, guard := none }) rfl (fun K hK => ?_) AllReadyH.nil)
        have hcel : ∀ q, q < 12 → W3.cell? ⟨gg, k * 12 + q, none⟩ = ek.cells[q]? := fun q hq => (RO_3.out.cellAt (k * 12 + q) (by omega)).trans (flatR_at ek es k hek q hq)
        have w0 : ∃ u, W3.cell? ⟨gg, k * 12, none⟩ = some u := ⟨_, hcel 0 (by decide)⟩
        have w1 : ∃ u, W3.cell? ⟨gg, k * 12 + 1, none⟩ = some u := ⟨_, hcel 1 (by decide)⟩
        have w2 : ∃ u, W3.cell? ⟨gg, k * 12 + 2, none⟩ = some u := ⟨_, hcel 2 (by decide)⟩
        have w3 : ∃ u, W3.cell? ⟨gg, k * 12 + 3, none⟩ = some u := ⟨_, hcel 3 (by decide)⟩
        have w4 : ∃ u, W3.cell? ⟨gg, k * 12 + 4, none⟩ = some u := ⟨_, hcel 4 (by decide)⟩
        have w5 : ∃ u, W3.cell? ⟨gg, k * 12 + 5, none⟩ = some u := ⟨_, hcel 5 (by decide)⟩
        have w6 : ∃ u, W3.cell? ⟨gg, k * 12 + 6, none⟩ = some u := ⟨_, hcel 6 (by decide)⟩
        have w7 : ∃ u, W3.cell? ⟨gg, k * 12 + 7, none⟩ = some u := ⟨_, hcel 7 (by decide)⟩
        have w8 : ∃ u, W3.cell? ⟨gg, k * 12 + 8, none⟩ = some u := ⟨_, hcel 8 (by decide)⟩
        have w9 : ∃ u, W3.cell? ⟨gg, k * 12 + 9, none⟩ = some u := ⟨_, hcel 9 (by decide)⟩
        have w10 : ∃ u, W3.cell? ⟨gg, k * 12 + 10, none⟩ = some u := ⟨_, hcel 10 (by decide)⟩
        have w11 : ∃ u, W3.cell? ⟨gg, k * 12 + 11, none⟩ = some u := ⟨_, hcel 11 (by decide)⟩
        obtain ⟨o0, w0⟩ := w0
        obtain ⟨o1, w1⟩ := w1
        obtain ⟨o2, w2⟩ := w2
        obtain ⟨o3, w3⟩ := w3
        obtain ⟨o4, w4⟩ := w4
        obtain ⟨o5, w5⟩ := w5
        obtain ⟨o6, w6⟩ := w6
        obtain ⟨o7, w7⟩ := w7
        obtain ⟨o8, w8⟩ := w8
        obtain ⟨o9, w9⟩ := w9
        obtain ⟨o10, w10⟩ := w10
        obtain ⟨o11, w11⟩ := w11
        have fz := fun q => RO_3.out.frozenAt q
        clear hcel
        go_simp
        have hset := RowR.set (es := es) (w := W3) ⟨by rw [hel]; exact RO_3.out, fun e he => (HE.out.2.2 e he).stay (fun k hk => (F12.out.old.trans (hS.old.mono (by omega))).block k hk) (fun k hk => ⟨Nat.lt_of_lt_of_le hk (Nat.le_trans F12.out.old.size hS.old.size), fun e => by rw [show k = gg from (by simpa [Value.ownBlock] using e)] at hk; omega⟩)⟩ k (by omega) hel.symm (RE.mk (listD (x :: renL s t r)) (renD s t tm) (some ⟨g2, 0, none⟩) ta3 gc2 tc3) ⟨Nat.zero_le _, renD_name s t tm hts PL.out.2.1, LL_3.out.1, TT_3.out.1, gf2 + tf3, Dc.stay (fun _ _ => rfl) (fun k hk => ⟨hk.1, fun e => hk.2 (Option.some.inj e)⟩) _ _ _ (Dc.upto LL_3.out.2 tf3), by rw [Nat.add_comm gf2 tf3]; exact Dc.stay (fun _ _ => rfl) (fun k hk => ⟨hk.1, fun e => hk.2 (Option.some.inj e)⟩) _ _ _ (Dc.upto TT_3.out.2 gf2)⟩
        have hke := setMany_keep (g := gg) (RE.mk (listD (x :: renL s t r)) (renD s t tm) (some ⟨g2, 0, none⟩) ta3 gc2 tc3).cells W3 (k * 12)
        have hS4 : SV v7.heap.size W0 P (listD (renL s t r)) (.slice ka (listD (renL s t r)).kids.length kc) (setMany W3 gg (k * 12) (RE.mk (listD (x :: renL s t r)) (renD s t tm) (some ⟨g2, 0, none⟩) ta3 gc2 tc3).cells) := ⟨hW0, hS.old.trans (hke.toBelow hgg (Nat.le_trans hW0 hS.old.size)), hS.box.keep hke (by omega)⟩
        change K _ (setMany W3 gg (k * 12) (RE.mk (listD (x :: renL s t r)) (renD s t tm) (some ⟨g2, 0, none⟩) ta3 gc2 tc3).cells)
        generalize setMany W3 gg (k * 12) (RE.mk (listD (x :: renL s t r)) (renD s t tm) (some ⟨g2, 0, none⟩) ta3 gc2 tc3).cells = W4 at hset hke hS4 ⊢
        have RW4 := hidd hset
        clear hset hke fz w0 w1 w2 w3 w4 w5 w6 w7 w8 w9 w10 w11
        refine hK.out _ _ hS4 (fun hS => ?_)
        clear hK K
        refine wpAnyH_done (by kernel_rfl) ?_ _
        have F13 : Hid (SW w #[.slice la li.length lc, .slice (some ⟨b, o, none⟩) ru.length rc] #[.int .i64 d.kind, .int .i64 d.n, .string d.name, .int .i64 d.stamp, .int .i64 d.lib, .slice fa d.kids.length fc] W4) := ⟨F12.out.old.trans (hS.old.mono (by omega)), (hS.old.block _ (by omega)).trans F12.out.b0, (hS.old.block _ (by omega)).trans F12.out.b1⟩
        have kg1 := (hS.old.cell (p := ⟨Kb, 1, none⟩) hK7).trans kf1
        have kg0 := (hS.old.cell (p := ⟨Kb, 0, none⟩) hK7).trans kf0
        have hmr : (es.set k (RE.mk (listD (x :: renL s t r)) (renD s t tm) (some ⟨g2, 0, none⟩) ta3 gc2 tc3)).map RE.rule = ru.set k (listD (x :: renL s t r), renD s t tm) := by rw [List.map_set, HE.out.1]; rfl
        obtain ⟨ra', cr', F', hsl, hcr', hrn⟩ := RW4.out.rn (by rw [List.length_set, hel]; omega)
        rw [hmr] at hsl hcr' hrn
        simp only [List.length_set, Value.slice.injEq] at hsl hcr'
        obtain ⟨rfl, -, rfl⟩ := hsl
        have CN : Cnd li s t := ⟨(fun e => by have h1 := SS1.out; have h2 := SS2.out; rw [e, h2] at h1; cases h1), dots_ne q3, dots_ne q1, any_ne q4, any_ne q2, inB_no (fun x hx => (HLI.out x hx).1), inB_no (fun x hx => (HLI.out x hx).2)⟩
        have EQ : Hid (useM li (ru.set k (listD (x :: renL s t r), renD s t tm)) d 1 1 = useM li ru d 1 1) := names_swap d PT.out (by rw [WM.out]) CN NT.out HK.out SS1.out SS2.out SS3.out
        have UK : Hid (∀ W, Below W4.heap.size W4 W → Calls Tryz.prog 11 #[.agg #[.slice la li.length lc, .slice (some ⟨gg, 0, none⟩) ru.length cq], .agg #[.int .i64 d.kind, .int .i64 d.n, .string d.name, .int .i64 d.stamp, .int .i64 d.lib, .slice fa d.kids.length fc], .int .i64 1, .int .i64 1] W (ToldU (useM li ru d 1 1) W)) := fun W hb => by
          have hbw : Below w.heap.size w W := F13.out.old.trans (hb.mono F13.out.old.size)
          have h5 := Use_here F' gd li (ru.set k (listD (x :: renL s t r), renD s t tm)) la (some ⟨gg, 0, none⟩) lc cq d fa fc 1 1 W (ALL.out.1.lift hbw) (hrn.lift hb) (Dn.lift ALL.out.2.2.1 hbw) ALL.out.2.2.2.1 (smR_set k _ _ ALL.out.2.2.2.2.1 (smD_ren s t ht48 tm (ALL.out.2.2.2.2.1 p tm (List.mem_of_getElem? PT.out)))) ALL.out.2.2.2.2.2.2
          rw [EQ.out] at h5
          unfold mv dv at h5
          rw [List.length_set] at h5
          exact h5
        have GK := hidd hK7
        have hKW : Kb < W4.heap.size := Nat.lt_of_lt_of_le hK7 (Nat.le_trans hW0 hS.old.size)
        clear hrn hmr CN EQ RW4 hS F12 kf0 kf1 RO12 D12 N12 RO_0 RO_1 RO_2 RO_3 LL_2 LL_3 TT_3 BL_1 RT DX RL72 HE hek y0 y1 y2 y3 y4 y5 rb0 rb1 rb2 rb3 rb4 rb5 rb6 rb7 rb8 rb9 rb10 rb11 RB12 X0 DR HK PL
        obtain ⟨ur, uy, hur⟩ : ∃ r y, useM li ru d 1 1 = (r, y) := ⟨_, _, rfl⟩
        rw [hur] at UO UK
        clear hur
        have m0 := F13.out.cell0 0
        have m1 := F13.out.cell0 1
        have e0 := F13.out.cell1 0
        have e1 := F13.out.cell1 1
        have e2 := F13.out.cell1 2
        have e3 := F13.out.cell1 3
        have e4 := F13.out.cell1 4
        have e5 := F13.out.cell1 5
        simp at m0 m1 e0 e1 e2 e3 e4 e5
        go_wp2_with fail
        refine (UO.out _ F13.out.old).mono ?_
        rintro e v3 ⟨hb, a1, c1, f1, rfl, hc1, hd1⟩
        have F14 := hidd (F13.out.below hb)
        have HW := hidd hb
        have D1 := hidd (Dn.of hd1)
        have kh0 := (hb.cell (p := ⟨Kb, 0, none⟩) hKW).trans kg0
        have kh1 := (hb.cell (p := ⟨Kb, 1, none⟩) hKW).trans kg1
        have hKv : Kb < v3.heap.size := Nat.lt_of_lt_of_le hKW hb.size
        clear hb hc1 hd1 F13 UO m0 m1 e0 e1 e2 e3 e4 e5 kg0 kg1
        simp only at D1
        have ba : Below v3.heap.size v3 (v3.alloc (.cells #[.int .i64 ur.kind, .int .i64 ur.n, .string ur.name, .int .i64 ur.stamp, .int .i64 ur.lib, .slice a1 ur.kids.length c1] 28)) := (Below.refl _ _).alloc (Nat.le_refl _) _
        have F15 := hidd (F14.out.below ba)
        have N1 := hidd (Nod.made v3 ur (.slice a1 ur.kids.length c1))
        have HW2 := hidd (HW.out.trans (ba.mono HW.out.size))
        have D1b := hidd (Dn.lift D1.out ba)
        have ki0 := (ba.cell (p := ⟨Kb, 0, none⟩) hKv).trans kh0
        have ki1 := (ba.cell (p := ⟨Kb, 1, none⟩) hKv).trans kh1
        clear ba D1 kh0 kh1 HW
        have m0 := F15.out.cell0 0
        have m1 := F15.out.cell0 1
        have e0 := F15.out.cell1 0
        have e1 := F15.out.cell1 1
        have e2 := F15.out.cell1 2
        have e3 := F15.out.cell1 3
        have e4 := F15.out.cell1 4
        have e5 := F15.out.cell1 5
        simp at m0 m1 e0 e1 e2 e3 e4 e5
        unfold dv
        simp only
        go_wp2_with fail
        refine (UK.out _ HW2.out).mono ?_
        rintro e v4 ⟨hb, a2, c2, f2, rfl, hc2, hd2⟩
        have F16 := hidd (F15.out.below hb)
        have D2 := hidd (Dn.of hd2)
        have N1b := hidd (N1.out.after hb)
        have D1c := hidd (Dn.lift D1b.out hb)
        clear hb hc2 hd2 F14 F15 UK m0 m1 e0 e1 e2 e3 e4 e5 N1 D1b ki0 ki1 HW2
        simp only at D2
        have ba : Below v4.heap.size v4 (v4.alloc (.cells #[.int .i64 ur.kind, .int .i64 ur.n, .string ur.name, .int .i64 ur.stamp, .int .i64 ur.lib, .slice a2 ur.kids.length c2] 28)) := (Below.refl _ _).alloc (Nat.le_refl _) _
        have GW := hidd (F16.out.below ba).old
        have N2 := hidd (Nod.made v4 ur (.slice a2 ur.kids.length c2))
        have N1c := hidd (N1b.out.after ba)
        have E1 := hidd (Dn.lift D1c.out ba)
        have E2 := hidd (Dn.lift D2.out ba)
        clear ba F16 N1b D1c D2
        unfold dv
        simp only
        obtain ⟨x9, x0, x1, x2, x3, x4, x5, xz⟩ := N1c.out
        obtain ⟨q9, q0, q1, q2, q3, q4, q5, qz⟩ := N2.out
        go_wp2_with fail
        refine (Equal_here _ _ ur ur a1 a2 c1 c2 _ E1.out E2.out rfl).mono ?_
        rintro e v5 ⟨rfl, hb⟩
        clear x0 x1 x2 x3 x4 x5 q0 q1 q2 q3 q4 q5 N1c N2
        have GV := hidd (GW.out.trans (hb.mono GW.out.size))
        clear hb
        go_wp2_with fail
        go_ret
        exact ⟨rfl, GV.out⟩
end Go.Proofs.YtgeedaabdonjcaeGreatDoor
