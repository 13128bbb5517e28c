/- Chapter 3's laws: LibElse, walked. -/
import Derived.Test.YtonafbennobgdaaGreatDoorK45
import Derived.Test.YtonafbennobgdaaGreatDoorK48
import Derived.Test.YtonafbennobgdaaGreatDoorK29
import Derived.Laws.EntriesVeiled
namespace Go.Proofs.YtonafbennobgdaaGreatDoor
set_option linter.unusedVariables false
set_option linter.unusedSimpArgs false
open Go.RowKit

set_option maxRecDepth 100000 in
set_option maxHeartbeats 25600000 in
theorem LibElse_walk (E : Env) (a1 a2 : Option Addr) (n1 n2 c1 c2 : Nat) (r : Dat) (ra : Option Addr) (rc Fr : Nat) (xs ys : List Dat) (ax ay : Option Addr) (cx cy Fx Fy : Nat) (w : World) (h0 : 0 < w.heap.size) (ht : TabW w) (he : EnvW w.heap.size E (.slice none 0 0) (.slice a1 n1 c1) (.slice a2 n2 c2) w)
    (hrn : r.name.size ≤ maxLen) (hrc : r.kids.length ≤ rc) (hr : Dn w Fr ra r.kids) (hx : Dn w Fx ax xs) (hy : Dn w Fy ay ys) (hxl : xs.length * 72 ≤ 140737488355256) (hyl : ys.length * 72 ≤ 140737488355256) :
    Calls Tryz.prog 7 #[.slice a1 n1 c1, .slice a2 n2 c2, dv r ra rc, .slice ax xs.length cx, .slice ay ys.length cy] w fun e w' => e = .returned (.bool true) ∧ Below w.heap.size w w' := by
  have AL : Hid (∀ W, Below w.heap.size w W → Calls Tryz.prog 12 #[] W fun e w' => e = .returned (.bool true) ∧ Below W.heap.size W w') := fun W hb => alive_any W (ht.below hb h0) (Nat.lt_of_lt_of_le h0 hb.size)
  have RD : Hid (∀ u, Below w.heap.size w u → Dn u Fr ra r.kids ∧ Dn u Fx ax xs ∧ Dn u Fy ay ys ∧ TabW u ∧ 0 < u.heap.size ∧ EnvW u.heap.size E (.slice none 0 0) (.slice a1 n1 c1) (.slice a2 n2 c2) u) := fun u hb => ⟨hr.lift hb, hx.lift hb, hy.lift hb, ht.below hb h0, Nat.lt_of_lt_of_le h0 hb.size, (he.below hb).grow hb.size⟩
  have RN : Hid (r.name.size ≤ maxLen ∧ r.kids.length ≤ rc) := ⟨hrn, hrc⟩
  have NL : Hid (xs.length * 72 ≤ 140737488355256 ∧ ys.length * 72 ≤ 140737488355256) := ⟨hxl, hyl⟩
  obtain ⟨V0, hV0⟩ : ∃ V, V = (((w.alloc (.cells #[.slice a1 n1 c1] 23)).alloc (.cells #[.slice a2 n2 c2] 23)).alloc (.cells #[.int .i64 r.kind, .int .i64 r.n, .string r.name, .int .i64 r.stamp, .int .i64 r.lib, .slice ra r.kids.length rc] 26)) := ⟨_, rfl⟩
  have b0 : Below w.heap.size w V0 := by rw [hV0]; exact (((Below.refl _ _).alloc (Nat.le_refl _) _).alloc (by simp) _).alloc (by simp; omega) _
  have y0 : V0.heap[w.heap.size]? = some (.cells #[.slice a1 n1 c1] 23 (0, 0)) := by
    rw [hV0, Below.heap_alloc _ _ _ (by simp; omega), Below.heap_alloc _ _ _ (by simp)]; exact World.alloc_heap_new w _
  have y1 : V0.heap[w.heap.size + 1]? = some (.cells #[.slice a2 n2 c2] 23 (0, 0)) := by
    rw [hV0, Below.heap_alloc _ _ _ (by simp)]
    have := World.alloc_heap_new (w.alloc (.cells #[.slice a1 n1 c1] 23)) (.cells #[.slice a2 n2 c2] 23)
    simpa using this
  have y2 : V0.heap[w.heap.size + 2]? = some (.cells #[.int .i64 r.kind, .int .i64 r.n, .string r.name, .int .i64 r.stamp, .int .i64 r.lib, .slice ra r.kids.length rc] 26 (0, 0)) := by
    rw [hV0]
    have := World.alloc_heap_new ((w.alloc (.cells #[.slice a1 n1 c1] 23)).alloc (.cells #[.slice a2 n2 c2] 23)) (.cells #[.int .i64 r.kind, .int .i64 r.n, .string r.name, .int .i64 r.stamp, .int .i64 r.lib, .slice ra r.kids.length rc] 26)
    simpa using this
  have QV0 := hidd hV0.symm
  have HV0 : Hid (Below w.heap.size w V0 ∧ V0.heap[w.heap.size]? = some (.cells #[.slice a1 n1 c1] 23 (0, 0)) ∧ V0.heap[w.heap.size + 1]? = some (.cells #[.slice a2 n2 c2] 23 (0, 0)) ∧ V0.heap[w.heap.size + 2]? = some (.cells #[.int .i64 r.kind, .int .i64 r.n, .string r.name, .int .i64 r.stamp, .int .i64 r.lib, .slice ra r.kids.length rc] 26 (0, 0))) := ⟨b0, y0, y1, y2⟩
  obtain ⟨nx, hnx⟩ : ∃ n, n = xs.length := ⟨_, rfl⟩
  obtain ⟨ny, hny⟩ : ∃ n, n = ys.length := ⟨_, rfl⟩
  rw [← hnx, ← hny]
  have HNX := hidd (And.intro hnx hny)
  clear hrn hrc hr hx hy hxl hyl h0 ht he hV0 b0 y0 y1 y2 hnx hny
  unfold dv
  go_enter Tryz.func7, Tryz.ntmps7
  go_upto_region 1 with fail
  rw [QV0.out]
  clear QV0
  go_wp2_with fail
  refine (AL.out V0 HV0.out.1).mono ?_
  rintro e v1 ⟨rfl, hb1⟩
  obtain ⟨V2, hV2⟩ : ∃ V, V = ((v1.alloc (.cells #[.func (.func 22) #[] #[]] 47)).alloc (.cells #[.func (.func 23) #[] #[.pointer (some ⟨v1.heap.size, 0, none⟩)]] 45)) := ⟨_, rfl⟩
  have b2 : Below v1.heap.size v1 V2 := by rw [hV2]; exact ((Below.refl _ _).alloc (Nat.le_refl _) _).alloc (by simp) _
  have z1 : V2.heap[v1.heap.size]? = some (.cells #[.func (.func 22) #[] #[]] 47 (0, 0)) := by
    rw [hV2, Below.heap_alloc _ _ _ (by simp)]; exact World.alloc_heap_new v1 _
  have z2 : V2.heap[v1.heap.size + 1]? = some (.cells #[.func (.func 23) #[] #[.pointer (some ⟨v1.heap.size, 0, none⟩)]] 45 (0, 0)) := by
    rw [hV2]
    have := World.alloc_heap_new (v1.alloc (.cells #[.func (.func 22) #[] #[]] 47)) (.cells #[.func (.func 23) #[] #[.pointer (some ⟨v1.heap.size, 0, none⟩)]] 45)
    simpa using this
  have HV2 : Hid (∀ u, Below V2.heap.size V2 u → Below w.heap.size w u ∧ u.heap[w.heap.size]? = some (.cells #[.slice a1 n1 c1] 23 (0, 0)) ∧ u.heap[w.heap.size + 1]? = some (.cells #[.slice a2 n2 c2] 23 (0, 0)) ∧ u.heap[w.heap.size + 2]? = some (.cells #[.int .i64 r.kind, .int .i64 r.n, .string r.name, .int .i64 r.stamp, .int .i64 r.lib, .slice ra r.kids.length rc] 26 (0, 0)) ∧ u.heap[v1.heap.size]? = some (.cells #[.func (.func 22) #[] #[]] 47 (0, 0)) ∧ u.heap[v1.heap.size + 1]? = some (.cells #[.func (.func 23) #[] #[.pointer (some ⟨v1.heap.size, 0, none⟩)]] 45 (0, 0))) := fun u hb => by
    have k1 : Below V0.heap.size V0 u := hb1.trans ((b2.trans (hb.mono b2.size)).mono hb1.size)
    have kk : ∀ {m : Nat} {o : Obj}, V0.heap[m]? = some o → u.heap[m]? = some o := fun h => (k1.block _ (Array.getElem?_eq_some_iff.1 h).1).trans h
    have kj : ∀ {m : Nat} {o : Obj}, V2.heap[m]? = some o → u.heap[m]? = some o := fun h => (hb.block _ (Array.getElem?_eq_some_iff.1 h).1).trans h
    exact ⟨HV0.out.1.trans (k1.mono HV0.out.1.size), kk HV0.out.2.1, kk HV0.out.2.2.1, kk HV0.out.2.2.2, kj z1, kj z2⟩
  have B24 : Hid (∀ (r' : Dat) (ra' : Option Addr) (rc' Fr' : Nat) (xs' ys' : List Dat) (ax' ay' : Option Addr) (cx' cy' Fx' Fy' : Nat) (u : World), Below V2.heap.size V2 u → r'.name.size ≤ maxLen → r'.kids.length ≤ rc' → Dn u Fr' ra' r'.kids → Dn u Fx' ax' xs' → Dn u Fy' ay' ys' → xs'.length * 72 ≤ 140737488355256 → ys'.length * 72 ≤ 140737488355256 →
      Calls Tryz.prog 24 #[dv r' ra' rc', .slice ax' xs'.length cx', .slice ay' ys'.length cy', .pointer (some ⟨w.heap.size, 0, none⟩), .pointer (some ⟨w.heap.size + 1, 0, none⟩), .pointer (some ⟨v1.heap.size + 1, 0, none⟩), .pointer (some ⟨v1.heap.size, 0, none⟩)] u (ToldQ (parseF E (condD r' xs' ys')) u)) := fun r' ra' rc' Fr' xs' ys' ax' ay' cx' cy' Fx' Fy' u hb h1 h2 h3 h4 h5 h6 h7 => by
    obtain ⟨k0, k1, k2, k3, k4, k5⟩ := HV2.out u hb
    exact both24 E a1 a2 n1 n2 c1 c2 w.heap.size (w.heap.size + 1) (v1.heap.size + 1) v1.heap.size r' ra' rc' Fr' xs' ys' ax' ay' cx' cy' Fx' Fy' u (RD.out u k0).2.2.2.2.1 (RD.out u k0).2.2.2.1 (RD.out u k0).2.2.2.2.2 ((cellO k1).trans rfl) ((cellO k2).trans rfl) ((cellO k5).trans rfl) ((cellO k4).trans rfl) h1 h2 h3 h4 h5 h6 h7
  have P23 : Hid (∀ (l : List Dat) (a : Option Addr) (c F : Nat) (u : World), Below V2.heap.size V2 u → Dn u F a l → l.length * 72 ≤ 140737488355256 → Calls Tryz.prog 23 #[.slice a l.length c, .pointer (some ⟨v1.heap.size, 0, none⟩)] u (ToldN (progD l) u)) := fun l a c F u hb h1 h2 => prog23 v1.heap.size l a c F u ((cellO (HV2.out u hb).2.2.2.2.1).trans rfl) h1 h2
  have PA : Hid (∀ (d : Dat) (a : Option Addr) (c F : Nat) (u : World), Below V2.heap.size V2 u → Dn u F a d.kids → d.kids.length ≤ c → d.name.size ≤ maxLen → Calls Tryz.prog 9 #[.slice none 0 0, .slice a1 n1 c1, .slice a2 n2 c2, dv d a c] u (ToldQ (parseF E d) u)) := fun d a c F u hb h1 h2 h3 => by
    obtain ⟨_, _, _, ht, h0, he⟩ := RD.out u (HV2.out u hb).1
    exact (Parse_any u.heap.size F E _ _ _ d a c u (Nat.le_refl _) h0 he ht h1 h2 h3).mono fun _ _ h => h.q
  have QV2 := hidd hV2.symm
  have C1 := B24.out r ra rc Fr xs ys ax ay cx cy Fx Fy V2 (Below.refl _ _) RN.out.1 RN.out.2 (RD.out V2 (HV2.out V2 (Below.refl _ _)).1).1 (RD.out V2 (HV2.out V2 (Below.refl _ _)).1).2.1 (RD.out V2 (HV2.out V2 (Below.refl _ _)).1).2.2.1 NL.out.1 NL.out.2
  rw [← HNX.out.1, ← HNX.out.2] at C1
  have g2 := (HV2.out V2 (Below.refl _ _)).2.2.2.1
  have g2_0 : V2.cell? ⟨w.heap.size + 2, 0, none⟩ = some _ := (cellO g2).trans rfl
  have g2_1 : V2.cell? ⟨w.heap.size + 2, 1, none⟩ = some _ := (cellO g2).trans rfl
  have g2_2 : V2.cell? ⟨w.heap.size + 2, 2, none⟩ = some _ := (cellO g2).trans rfl
  have g2_3 : V2.cell? ⟨w.heap.size + 2, 3, none⟩ = some _ := (cellO g2).trans rfl
  have g2_4 : V2.cell? ⟨w.heap.size + 2, 4, none⟩ = some _ := (cellO g2).trans rfl
  have g2_5 : V2.cell? ⟨w.heap.size + 2, 5, none⟩ = some _ := (cellO g2).trans rfl
  have HC1 := hidd C1
  clear hb1 b2 z1 z2 hV2 C1 g2 AL
  go_upto_region 6 with fail
  rw [QV2.out]
  clear QV2
  generalize hr1 : parseF E (condD r xs ys) = r1 at HC1
  have HR1 := hidd hr1
  clear hr1
  go_wp2_with fail
  unfold dv at HC1
  refine HC1.out.mono ?_
  rintro e w3 ⟨hb3, ea1, ne1, ec1, ia1, ni1, ic1, ba1, nb1, bc1, rfl, hlm1⟩
  obtain ⟨V3, hV3⟩ : ∃ V, V = w3.alloc (.cells #[.string (libOf r1).name, .slice ea1 ne1 ec1, .slice ia1 ni1 ic1, .slice ba1 nb1 bc1] 30) := ⟨_, rfl⟩
  have b3 : Below w3.heap.size w3 V3 := by rw [hV3]; exact (Below.refl _ _).alloc (Nat.le_refl _) _
  have G3 : Hid (Below V2.heap.size V2 V3 ∧ V3.heap[w3.heap.size]? = some (.cells #[.string (libOf r1).name, .slice ea1 ne1 ec1, .slice ia1 ni1 ic1, .slice ba1 nb1 bc1] 30 (0, 0)) ∧ LibM (fun k => k < V3.heap.size) (libOf r1) (.slice ea1 ne1 ec1) (.slice ia1 ni1 ic1) (.slice ba1 nb1 bc1) V3) := ⟨hb3.trans (b3.mono hb3.size), by rw [hV3]; exact World.alloc_heap_new w3 _, hlm1.stay (fun k hk => b3.block k hk.2) (fun k hk => Nat.lt_of_lt_of_le hk.2 b3.size)⟩
  have QV3 := hidd hV3.symm
  have ROW : Hid (∃ f, Dn (V3.alloc (.cells #[.int .i64 r.kind, .int .i64 r.n, .string r.name, .int .i64 r.stamp, .int .i64 r.lib, .slice ra r.kids.length rc] 26)) f (some ⟨V3.heap.size, 0, none⟩) [r]) := madeN V3 [(r, ra, rc)] (by simp) (by
    intro e he
    simp at he
    subst he
    exact ⟨RN.out.1, RN.out.2, Fr, (RD.out V3 (HV2.out V3 G3.out.1).1).1⟩)
  have bR : Below V3.heap.size V3 (V3.alloc (.cells #[.int .i64 r.kind, .int .i64 r.n, .string r.name, .int .i64 r.stamp, .int .i64 r.lib, .slice ra r.kids.length rc] 26)) := (Below.refl _ _).alloc (Nat.le_refl _) _
  obtain ⟨rf, hrf⟩ := ROW.out
  have C2 := hidd (wcl22N bNot [r] (some ⟨V3.heap.size, 0, none⟩) 1 rf (V3.alloc (.cells #[.int .i64 r.kind, .int .i64 r.n, .string r.name, .int .i64 r.stamp, .int .i64 r.lib, .slice ra r.kids.length rc] 26)) (by decide) hrf (by simp))
  have en : liD (syD bNot :: [r]) = notD r := rfl
  rw [en] at C2
  obtain ⟨rn, hrn⟩ : ∃ d, d = notD r := ⟨_, rfl⟩
  rw [← hrn] at C2
  have HRN := hidd hrn
  have k2 := HV2.out V3 G3.out.1
  have g4 : V3.cell? ⟨v1.heap.size, 0, none⟩ = some _ := (cellO k2.2.2.2.2.1).trans rfl
  have g3_0 : V3.cell? ⟨w.heap.size + 2, 0, none⟩ = some _ := (cellO k2.2.2.2.1).trans rfl
  have g3_1 : V3.cell? ⟨w.heap.size + 2, 1, none⟩ = some _ := (cellO k2.2.2.2.1).trans rfl
  have g3_2 : V3.cell? ⟨w.heap.size + 2, 2, none⟩ = some _ := (cellO k2.2.2.2.1).trans rfl
  have g3_3 : V3.cell? ⟨w.heap.size + 2, 3, none⟩ = some _ := (cellO k2.2.2.2.1).trans rfl
  have g3_4 : V3.cell? ⟨w.heap.size + 2, 4, none⟩ = some _ := (cellO k2.2.2.2.1).trans rfl
  have g3_5 : V3.cell? ⟨w.heap.size + 2, 5, none⟩ = some _ := (cellO k2.2.2.2.1).trans rfl
  have HBR := hidd bR
  clear hb3 hlm1 b3 hV3 bR hrf en hrn k2 HC1 ROW g2_0 g2_1 g2_2 g2_3 g2_4 g2_5
  go_upto_region 7 with fail
  rw [QV3.out]
  clear QV3
  go_wp2_with fail
  refine C2.out.mono ?_
  rintro e w4 ⟨hb4, qa, qc, qf, rfl, hqc, hqd⟩
  have G4 : Hid (Below V3.heap.size V3 w4) := HBR.out.trans (hb4.mono HBR.out.size)
  have b24 : Below V2.heap.size V2 w4 := G3.out.1.trans (G4.out.mono G3.out.1.size)
  have C3 := B24.out rn qa qc qf ys xs ay ax cy cx Fy Fx w4 b24 (by rw [HRN.out]; exact Nat.zero_le _) hqc hqd (RD.out w4 (HV2.out w4 b24).1).2.2.1 (RD.out w4 (HV2.out w4 b24).1).2.1 NL.out.2 NL.out.1
  rw [← HNX.out.1, ← HNX.out.2] at C3
  have HC3 := hidd C3
  generalize hr2 : parseF E (condD rn ys xs) = r2 at HC3
  have HR2 := hidd hr2
  clear hb4 hqc hqd b24 C3 C2 hr2 HBR g4 g3_0 g3_1 g3_2 g3_3 g3_4 g3_5
  unfold dv at HC3 ⊢
  go_wp2_with fail
  refine HC3.out.mono ?_
  rintro e w5 ⟨hb5, ea2, ne2, ec2, ia2, ni2, ic2, ba2, nb2, bc2, rfl, hlm2⟩
  obtain ⟨V5, hV5⟩ : ∃ V, V = w5.alloc (.cells #[.string (libOf r2).name, .slice ea2 ne2 ec2, .slice ia2 ni2 ic2, .slice ba2 nb2 bc2] 30) := ⟨_, rfl⟩
  have b5 : Below w5.heap.size w5 V5 := by rw [hV5]; exact (Below.refl _ _).alloc (Nat.le_refl _) _
  have b35 : Below V3.heap.size V3 V5 := G4.out.trans ((hb5.trans (b5.mono hb5.size)).mono G4.out.size)
  have G5 : Hid (Below V2.heap.size V2 V5 ∧ V5.heap[w3.heap.size]? = some (.cells #[.string (libOf r1).name, .slice ea1 ne1 ec1, .slice ia1 ni1 ic1, .slice ba1 nb1 bc1] 30 (0, 0)) ∧ LibM (fun k => k < V5.heap.size) (libOf r1) (.slice ea1 ne1 ec1) (.slice ia1 ni1 ic1) (.slice ba1 nb1 bc1) V5 ∧ V5.heap[w5.heap.size]? = some (.cells #[.string (libOf r2).name, .slice ea2 ne2 ec2, .slice ia2 ni2 ic2, .slice ba2 nb2 bc2] 30 (0, 0)) ∧ LibM (fun k => k < V5.heap.size) (libOf r2) (.slice ea2 ne2 ec2) (.slice ia2 ni2 ic2) (.slice ba2 nb2 bc2) V5) := ⟨G3.out.1.trans (b35.mono G3.out.1.size), (b35.block _ (Array.getElem?_eq_some_iff.1 G3.out.2.1).1).trans G3.out.2.1, G3.out.2.2.stay (fun k hk => b35.block k hk) (fun k hk => Nat.lt_of_lt_of_le hk b35.size), by rw [hV5]; exact World.alloc_heap_new w5 _, hlm2.stay (fun k hk => b5.block k hk.2) (fun k hk => Nat.lt_of_lt_of_le hk.2 b5.size)⟩
  have QV5 := hidd hV5.symm
  clear hb5 hlm2 b5 b35 hV5 HC3 G3 G4
  go_upto_region 8 with fail
  rw [QV5.out]
  clear QV5
  obtain ⟨dp3, hdp3⟩ : ∃ d, d = progD xs := ⟨_, rfl⟩
  have PP3 : Hid (∀ (u : World) (F : Nat) (a : Option Addr) (c : Nat), Below V5.heap.size V5 u → Dn u F a (dp3).kids → (dp3).kids.length ≤ c → Calls Tryz.prog 9 #[.slice none 0 0, .slice a1 n1 c1, .slice a2 n2 c2, dv dp3 a c] u (ToldQ (parseF E dp3) u)) := fun u F a c hb h1 h2 => PA.out dp3 a c F u (G5.out.1.trans (hb.mono G5.out.1.size)) h1 h2 (by rw [hdp3]; exact Nat.zero_le _)
  have PC3 : Hid (∀ (u : World), Below V5.heap.size V5 u → Calls Tryz.prog 23 #[.slice ax nx cx, .pointer (some ⟨v1.heap.size, 0, none⟩)] u (ToldN dp3 u)) := fun u hb => by
    have hq := G5.out.1.trans (hb.mono G5.out.1.size)
    have := P23.out xs ax cx Fx u hq (RD.out u (HV2.out u hq).1).2.1 NL.out.1
    rw [← HNX.out.1, ← hdp3] at this
    exact this
  generalize hr3 : parseF E dp3 = r3 at PP3
  rw [hdp3] at hr3
  have HR3 := hidd hr3
  clear hr3 hdp3
  go_cut [18, 19] from 45 to 54 (fun s18 s19 wx => ∃ N ea3 ne3 ec3 ia3 ni3 ic3 ba3 nb3 bc3, s18 = .pointer (some ⟨N, 0, none⟩) ∧ s19 = .int .i64 (errOf r3) ∧ wx.heap[N]? = some (.cells #[.string (libOf r3).name, .slice ea3 ne3 ec3, .slice ia3 ni3 ic3, .slice ba3 nb3 bc3] 30 (0, 0)) ∧ LibM (fun k => k < wx.heap.size) (libOf r3) (.slice ea3 ne3 ec3) (.slice ia3 ni3 ic3) (.slice ba3 nb3 bc3) wx ∧ Below V5.heap.size V5 wx ∧ V5.heap.size ≤ N)
  case first =>
    refine wp_region_held_drew (S := fun u => Below V5.heap.size V5 u) (by kernel_rfl) (Below.drew (Below.refl _ _)) (fun hS => ?_)
    refine wpAnyH_take (i := 0) (oi := { dst := some 46, op := Op.load 23 (Operand.tmp 5), type := 23, pos := _, after := _, guard := none }) (v := .slice a1 n1 c1) rfl (by kernel_rfl) (by kernel_rfl) (by kernel_rfl) (fun _ _ _ h => h) (Or.inl ⟨by rfl, fun u hu => by (have z0 := (show u.cell? ⟨w.heap.size, 0, none⟩ = some (.slice a1 n1 c1) from (cellO (HV2.out u (G5.out.1.trans (hu.mono G5.out.1.size))).2.1).trans rfl); go_simp)⟩) hS ?_
    simp only [Act.put, List.setIfInBounds_toArray, List.set_cons_zero, List.set_cons_succ]
    refine wpAnyH_take (i := 1) (oi := { dst := some 47, op := Op.load 23 (Operand.tmp 6), type := 23, pos := _, after := _, guard := none }) (v := .slice a2 n2 c2) rfl (by kernel_rfl) (by kernel_rfl) (by kernel_rfl) (fun _ _ _ h => h) (Or.inl ⟨by rfl, fun u hu => by (have z0 := (show u.cell? ⟨w.heap.size + 1, 0, none⟩ = some (.slice a2 n2 c2) from (cellO (HV2.out u (G5.out.1.trans (hu.mono G5.out.1.size))).2.2.1).trans rfl); go_simp)⟩) hS ?_
    simp only [Act.put, List.setIfInBounds_toArray, List.set_cons_zero, List.set_cons_succ]
    refine wpAnyH_take (i := 2) (oi := { dst := some 48, op := Op.load 45 (Operand.tmp 12), type := 45, pos := _, after := _, guard := none }) (v := .func (.func 23) #[] #[.pointer (some ⟨v1.heap.size, 0, none⟩)]) rfl (by kernel_rfl) (by kernel_rfl) (by kernel_rfl) (fun _ _ _ h => h) (Or.inl ⟨by rfl, fun u hu => by (have z0 := (show u.cell? ⟨v1.heap.size + 1, 0, none⟩ = some (.func (.func 23) #[] #[.pointer (some ⟨v1.heap.size, 0, none⟩)]) from (cellO (HV2.out u (G5.out.1.trans (hu.mono G5.out.1.size))).2.2.2.2.2).trans rfl); go_simp)⟩) hS ?_
    simp only [Act.put, List.setIfInBounds_toArray, List.set_cons_zero, List.set_cons_succ]
    refine wpAnyH_take (i := 3) (oi := { dst := some 49, op := Op.move (Operand.tmp 3), type := 24, pos := _, after := _, guard := none }) (v := .slice ax nx cx) rfl (by kernel_rfl) (by kernel_rfl) (by kernel_rfl) (fun _ _ _ h => h) (Or.inl ⟨by rfl, fun u hu => by go_simp⟩) hS ?_
    simp only [Act.put, List.setIfInBounds_toArray, List.set_cons_zero, List.set_cons_succ]
    refine wpAnyH_ready (rs := [4, 9]) (by kernel_rfl) (by simp) (AllReadyH.cons (o := { dst := some 50, op := Op.call { callee := Callee.value (Operand.tmp 48), args := #[Operand.tmp 49], argTypes := #[24] }, type := 26, pos := _, after := _, guard := none }) rfl (fun K hK => ?_) (AllReadyH.cons (o := { dst := some 18, op := Op.alloc 30, type := 0, pos := _, after := _, guard := none }) rfl (fun K hK => ?_) AllReadyH.nil))
    · go_simp
      have QC := PC3.out V5.drew hS
      refine Calls.mono QC ?_
      clear QC
      rintro e U1 ⟨hb1, qa1, qc1, qf1, rfl, hqc1, hqd1⟩
      have PD_1 : Hid (∃ f, Dn U1 f qa1 (dp3).kids) := ⟨qf1, hqd1⟩
      have PDL : Hid ((dp3).kids.length ≤ qc1) := hqc1
      have hS1 := hS.trans (hb1.mono hS.size)
      clear hb1 hqc1 hqd1
      try unfold dv
      show K _ U1
      refine hK.out _ _ hS1 (fun hS => ?_)
      clear hK K
      refine wpAnyH_ready (rs := [5, 9]) (by kernel_rfl) (by simp) (AllReadyH.cons (o := { dst := some 51, op := Op.call { callee := Callee.value (Operand.func 9), args := #[Operand.const (Value.slice none 0 0), Operand.tmp 46, Operand.tmp 47, Operand.tmp 50], argTypes := #[22, 23, 23, 26] }, type := 32, pos := _, after := _, guard := none }) rfl (fun K hK => ?_) (AllReadyH.cons (o := { dst := some 18, op := Op.alloc 30, type := 0, pos := _, after := _, guard := none }) rfl (fun K hK => ?_) AllReadyH.nil))
      · go_simp
        obtain ⟨uf, huf⟩ := PD_1.out
        have QC := PP3.out U1 uf qa1 qc1 hS huf PDL.out
        refine Calls.mono QC ?_
        clear QC
        rintro e U2 ⟨hb2, ea3, ne3, ec3, ia3, ni3, ic3, ba3, nb3, bc3, rfl, hlm⟩
        have LM_2 : Hid (LibM (fun k => U1.heap.size ≤ k ∧ k < U2.heap.size) (libOf r3) (.slice ea3 ne3 ec3) (.slice ia3 ni3 ic3) (.slice ba3 nb3 bc3) U2) := hlm
        have PD_2 : Hid (∃ f, Dn U2 f qa1 (dp3).kids) := (by obtain ⟨f, hf⟩ := PD_1.out; exact ⟨f, hf.lift hb2⟩)
        have LB_2 : Hid (LibM (fun k => k < U2.heap.size) (libOf r3) (.slice ea3 ne3 ec3) (.slice ia3 ni3 ic3) (.slice ba3 nb3 bc3) U2) := hlm.stay (fun _ _ => rfl) (fun k hk => hk.2)
        have hS2 := hS.trans (hb2.mono hS.size)
        clear hb2 hlm huf LM_2
        show K _ U2
        refine hK.out _ _ hS2 (fun hS => ?_)
        clear hK K
        refine wpAnyH_take (i := 6) (oi := { dst := some 45, op := Op.move (Operand.tmp 51), type := 32, pos := _, after := _, guard := none }) (v := .tuple #[.agg #[.string (libOf r3).name, .slice ea3 ne3 ec3, .slice ia3 ni3 ic3, .slice ba3 nb3 bc3], .int .i64 (errOf r3)]) rfl (by kernel_rfl) (by kernel_rfl) (by kernel_rfl) (fun _ _ _ h => h) (Or.inl ⟨by rfl, fun u hu => by go_simp⟩) hS ?_
        simp only [Act.put, List.setIfInBounds_toArray, List.set_cons_zero, List.set_cons_succ]
        refine wpAnyH_take (i := 7) (oi := { dst := some 52, op := Op.extract (Operand.tmp 45) 0, type := 30, pos := _, after := _, guard := none }) (v := .agg #[.string (libOf r3).name, .slice ea3 ne3 ec3, .slice ia3 ni3 ic3, .slice ba3 nb3 bc3]) rfl (by kernel_rfl) (by kernel_rfl) (by kernel_rfl) (fun _ _ _ h => h) (Or.inl ⟨by rfl, fun u hu => by go_simp⟩) hS ?_
        simp only [Act.put, List.setIfInBounds_toArray, List.set_cons_zero, List.set_cons_succ]
        refine wpAnyH_take (i := 8) (oi := { dst := some 53, op := Op.extract (Operand.tmp 45) 1, type := 31, pos := _, after := _, guard := none }) (v := .int .i64 (errOf r3)) rfl (by kernel_rfl) (by kernel_rfl) (by kernel_rfl) (fun _ _ _ h => h) (Or.inl ⟨by rfl, fun u hu => by go_simp⟩) hS ?_
        simp only [Act.put, List.setIfInBounds_toArray, List.set_cons_zero, List.set_cons_succ]
        refine wpAnyH_ready (rs := [9]) (by kernel_rfl) (by simp) (AllReadyH.cons (o := { dst := some 18, op := Op.alloc 30, type := 0, pos := _, after := _, guard := none }) rfl (fun K hK => ?_) AllReadyH.nil)
        go_simp
        have hb3 : Below U2.heap.size U2 (U2.alloc (.cells #[.string ⟨#[]⟩, .slice none 0 0, .slice none 0 0, .slice none 0 0] 30)) := (Below.refl _ _).alloc (Nat.le_refl _) _
        have hN3 : (U2.alloc (.cells #[.string ⟨#[]⟩, .slice none 0 0, .slice none 0 0, .slice none 0 0] 30)).heap[U2.heap.size]? = some (.cells #[.string ⟨#[]⟩, .slice none 0 0, .slice none 0 0, .slice none 0 0] 30 (0, 0)) := World.alloc_heap_new U2 _
        have hnb3 : V5.heap.size ≤ U2.heap.size := hS.size
        have hS3 := hS.trans (hb3.mono hS.size)
        change K _ (U2.alloc (.cells #[.string ⟨#[]⟩, .slice none 0 0, .slice none 0 0, .slice none 0 0] 30))
        generalize U2.alloc (.cells #[.string ⟨#[]⟩, .slice none 0 0, .slice none 0 0, .slice none 0 0] 30) = U3 at hb3 hN3 hS3 ⊢
        have LN_3 : Hid (LibM (fun k => k ≠ U2.heap.size ∧ k < U3.heap.size) (libOf r3) (.slice ea3 ne3 ec3) (.slice ia3 ni3 ic3) (.slice ba3 nb3 bc3) U3) := LB_2.out.stay (fun k hk => hb3.block k hk) (fun k hk => ⟨Nat.ne_of_lt hk, Nat.lt_of_lt_of_le hk hb3.size⟩)
        have PD_3 : Hid (∃ f, Dn U3 f qa1 (dp3).kids) := (by obtain ⟨f, hf⟩ := PD_2.out; exact ⟨f, hf.lift hb3⟩)
        have NO_3 : Hid (U3.heap[U2.heap.size]? = some (.cells #[.string ⟨#[]⟩, .slice none 0 0, .slice none 0 0, .slice none 0 0] 30 (0, 0)) ∧ V5.heap.size ≤ U2.heap.size) := ⟨hN3, hnb3⟩
        clear hb3 hN3 hnb3
        refine hK.out _ _ hS3 (fun hS => ?_)
        clear hK K
        refine wpAnyH_ready (rs := [10]) (by kernel_rfl) (by simp) (AllReadyH.cons (o := { dst := none, op := Op.store 30 (Operand.tmp 18) (Operand.tmp 52), type := 0, pos := _, after := _, guard := none }) rfl (fun K hK => ?_) AllReadyH.nil)
        have bxx := NO_3.out.1
        have q0 : U3.cell? ⟨U2.heap.size, 0, none⟩ = some _ := (cellO bxx).trans rfl
        have q1 : U3.cell? ⟨U2.heap.size, 1, none⟩ = some _ := (cellO bxx).trans rfl
        have q2 : U3.cell? ⟨U2.heap.size, 2, none⟩ = some _ := (cellO bxx).trans rfl
        have q3 : U3.cell? ⟨U2.heap.size, 3, none⟩ = some _ := (cellO bxx).trans rfl
        have z0 : U3.frozen? ⟨U2.heap.size, 0, none⟩ = false := by simp [World.frozen?, bxx]
        have z1 : U3.frozen? ⟨U2.heap.size, 1, none⟩ = false := by simp [World.frozen?, bxx]
        have z2 : U3.frozen? ⟨U2.heap.size, 2, none⟩ = false := by simp [World.frozen?, bxx]
        have z3 : U3.frozen? ⟨U2.heap.size, 3, none⟩ = false := by simp [World.frozen?, bxx]
        go_simp
        refine hK.out _ _ ((((hS.setCell (p := ⟨U2.heap.size, 0, none⟩) NO_3.out.2 _).setCell (p := ⟨U2.heap.size, 1, none⟩) NO_3.out.2 _).setCell (p := ⟨U2.heap.size, 2, none⟩) NO_3.out.2 _).setCell (p := ⟨U2.heap.size, 3, none⟩) NO_3.out.2 _) (fun hS => ?_)
        clear hK K
        refine wpAnyH_take (i := 11) (oi := { dst := some 19, op := Op.assign (Operand.tmp 53), type := 31, pos := _, after := _, guard := none }) (v := .int .i64 (errOf r3)) rfl (by kernel_rfl) (by kernel_rfl) (by kernel_rfl) (fun _ _ _ h => h) (Or.inl ⟨by rfl, fun u hu => by go_simp⟩) hS ?_
        simp only [Act.put, List.setIfInBounds_toArray, List.set_cons_zero, List.set_cons_succ]
        refine wpAnyH_done (by kernel_rfl) ?_ _
        clear q0 q1 q2 q3 z0 z1 z2 z3 bxx
        go_wp2_with fail
        go_meet
        case rel =>
          refine ⟨_, _, _, _, _, _, _, _, _, _, rfl, rfl, set4 NO_3.out.1 _ _ _ _, ?_, hS, NO_3.out.2⟩
          exact LN_3.out.stay (fun k hk => (((((Keep.refl U2.heap.size U3).setCell ⟨U2.heap.size, 0, none⟩ rfl _).setCell ⟨U2.heap.size, 1, none⟩ rfl _).setCell ⟨U2.heap.size, 2, none⟩ rfl _).setCell ⟨U2.heap.size, 3, none⟩ rfl _).block k hk.2 (fun e => hk.1 (Option.some.inj e))) (fun k hk => by simpa using hk.2)
      · go_simp
        have hb2 : Below U1.heap.size U1 (U1.alloc (.cells #[.string ⟨#[]⟩, .slice none 0 0, .slice none 0 0, .slice none 0 0] 30)) := (Below.refl _ _).alloc (Nat.le_refl _) _
        have hN2 : (U1.alloc (.cells #[.string ⟨#[]⟩, .slice none 0 0, .slice none 0 0, .slice none 0 0] 30)).heap[U1.heap.size]? = some (.cells #[.string ⟨#[]⟩, .slice none 0 0, .slice none 0 0, .slice none 0 0] 30 (0, 0)) := World.alloc_heap_new U1 _
        have hnb2 : V5.heap.size ≤ U1.heap.size := hS.size
        have hS2 := hS.trans (hb2.mono hS.size)
        change K _ (U1.alloc (.cells #[.string ⟨#[]⟩, .slice none 0 0, .slice none 0 0, .slice none 0 0] 30))
        generalize U1.alloc (.cells #[.string ⟨#[]⟩, .slice none 0 0, .slice none 0 0, .slice none 0 0] 30) = U2 at hb2 hN2 hS2 ⊢
        have PD_2 : Hid (∃ f, Dn U2 f qa1 (dp3).kids) := (by obtain ⟨f, hf⟩ := PD_1.out; exact ⟨f, hf.lift hb2⟩)
        have NO_2 : Hid (U2.heap[U1.heap.size]? = some (.cells #[.string ⟨#[]⟩, .slice none 0 0, .slice none 0 0, .slice none 0 0] 30 (0, 0)) ∧ V5.heap.size ≤ U1.heap.size) := ⟨hN2, hnb2⟩
        clear hb2 hN2 hnb2
        refine hK.out _ _ hS2 (fun hS => ?_)
        clear hK K
        refine wpAnyH_ready (rs := [5]) (by kernel_rfl) (by simp) (AllReadyH.cons (o := { dst := some 51, op := Op.call { callee := Callee.value (Operand.func 9), args := #[Operand.const (Value.slice none 0 0), Operand.tmp 46, Operand.tmp 47, Operand.tmp 50], argTypes := #[22, 23, 23, 26] }, type := 32, pos := _, after := _, guard := none }) rfl (fun K hK => ?_) AllReadyH.nil)
        go_simp
        obtain ⟨uf, huf⟩ := PD_2.out
        have QC := PP3.out U2 uf qa1 qc1 hS huf PDL.out
        refine Calls.mono QC ?_
        clear QC
        rintro e U3 ⟨hb3, ea3, ne3, ec3, ia3, ni3, ic3, ba3, nb3, bc3, rfl, hlm⟩
        have LM_3 : Hid (LibM (fun k => U2.heap.size ≤ k ∧ k < U3.heap.size) (libOf r3) (.slice ea3 ne3 ec3) (.slice ia3 ni3 ic3) (.slice ba3 nb3 bc3) U3) := hlm
        have hlt3 := (Array.getElem?_eq_some_iff.1 NO_2.out.1).1
        have LN_3 : Hid (LibM (fun k => k ≠ U1.heap.size ∧ k < U3.heap.size) (libOf r3) (.slice ea3 ne3 ec3) (.slice ia3 ni3 ic3) (.slice ba3 nb3 bc3) U3) := hlm.stay (fun _ _ => rfl) (fun k hk => ⟨fun e => by have := hk.1; omega, hk.2⟩)
        clear hlt3
        have PD_3 : Hid (∃ f, Dn U3 f qa1 (dp3).kids) := (by obtain ⟨f, hf⟩ := PD_2.out; exact ⟨f, hf.lift hb3⟩)
        have NO_3 : Hid (U3.heap[U1.heap.size]? = some (.cells #[.string ⟨#[]⟩, .slice none 0 0, .slice none 0 0, .slice none 0 0] 30 (0, 0)) ∧ V5.heap.size ≤ U1.heap.size) := ⟨(hb3.block _ (Array.getElem?_eq_some_iff.1 NO_2.out.1).1).trans NO_2.out.1, NO_2.out.2⟩
        have hS3 := hS.trans (hb3.mono hS.size)
        clear hb3 hlm huf LM_3
        show K _ U3
        refine hK.out _ _ hS3 (fun hS => ?_)
        clear hK K
        refine wpAnyH_take (i := 6) (oi := { dst := some 45, op := Op.move (Operand.tmp 51), type := 32, pos := _, after := _, guard := none }) (v := .tuple #[.agg #[.string (libOf r3).name, .slice ea3 ne3 ec3, .slice ia3 ni3 ic3, .slice ba3 nb3 bc3], .int .i64 (errOf r3)]) rfl (by kernel_rfl) (by kernel_rfl) (by kernel_rfl) (fun _ _ _ h => h) (Or.inl ⟨by rfl, fun u hu => by go_simp⟩) hS ?_
        simp only [Act.put, List.setIfInBounds_toArray, List.set_cons_zero, List.set_cons_succ]
        refine wpAnyH_take (i := 7) (oi := { dst := some 52, op := Op.extract (Operand.tmp 45) 0, type := 30, pos := _, after := _, guard := none }) (v := .agg #[.string (libOf r3).name, .slice ea3 ne3 ec3, .slice ia3 ni3 ic3, .slice ba3 nb3 bc3]) rfl (by kernel_rfl) (by kernel_rfl) (by kernel_rfl) (fun _ _ _ h => h) (Or.inl ⟨by rfl, fun u hu => by go_simp⟩) hS ?_
        simp only [Act.put, List.setIfInBounds_toArray, List.set_cons_zero, List.set_cons_succ]
        refine wpAnyH_take (i := 8) (oi := { dst := some 53, op := Op.extract (Operand.tmp 45) 1, type := 31, pos := _, after := _, guard := none }) (v := .int .i64 (errOf r3)) rfl (by kernel_rfl) (by kernel_rfl) (by kernel_rfl) (fun _ _ _ h => h) (Or.inl ⟨by rfl, fun u hu => by go_simp⟩) hS ?_
        simp only [Act.put, List.setIfInBounds_toArray, List.set_cons_zero, List.set_cons_succ]
        refine wpAnyH_ready (rs := [10]) (by kernel_rfl) (by simp) (AllReadyH.cons (o := { dst := none, op := Op.store 30 (Operand.tmp 18) (Operand.tmp 52), type := 0, pos := _, after := _, guard := none }) rfl (fun K hK => ?_) AllReadyH.nil)
        have bxx := NO_3.out.1
        have q0 : U3.cell? ⟨U1.heap.size, 0, none⟩ = some _ := (cellO bxx).trans rfl
        have q1 : U3.cell? ⟨U1.heap.size, 1, none⟩ = some _ := (cellO bxx).trans rfl
        have q2 : U3.cell? ⟨U1.heap.size, 2, none⟩ = some _ := (cellO bxx).trans rfl
        have q3 : U3.cell? ⟨U1.heap.size, 3, none⟩ = some _ := (cellO bxx).trans rfl
        have z0 : U3.frozen? ⟨U1.heap.size, 0, none⟩ = false := by simp [World.frozen?, bxx]
        have z1 : U3.frozen? ⟨U1.heap.size, 1, none⟩ = false := by simp [World.frozen?, bxx]
        have z2 : U3.frozen? ⟨U1.heap.size, 2, none⟩ = false := by simp [World.frozen?, bxx]
        have z3 : U3.frozen? ⟨U1.heap.size, 3, none⟩ = false := by simp [World.frozen?, bxx]
        go_simp
        refine hK.out _ _ ((((hS.setCell (p := ⟨U1.heap.size, 0, none⟩) NO_3.out.2 _).setCell (p := ⟨U1.heap.size, 1, none⟩) NO_3.out.2 _).setCell (p := ⟨U1.heap.size, 2, none⟩) NO_3.out.2 _).setCell (p := ⟨U1.heap.size, 3, none⟩) NO_3.out.2 _) (fun hS => ?_)
        clear hK K
        refine wpAnyH_take (i := 11) (oi := { dst := some 19, op := Op.assign (Operand.tmp 53), type := 31, pos := _, after := _, guard := none }) (v := .int .i64 (errOf r3)) rfl (by kernel_rfl) (by kernel_rfl) (by kernel_rfl) (fun _ _ _ h => h) (Or.inl ⟨by rfl, fun u hu => by go_simp⟩) hS ?_
        simp only [Act.put, List.setIfInBounds_toArray, List.set_cons_zero, List.set_cons_succ]
        refine wpAnyH_done (by kernel_rfl) ?_ _
        clear q0 q1 q2 q3 z0 z1 z2 z3 bxx
        go_wp2_with fail
        go_meet
        case rel =>
          refine ⟨_, _, _, _, _, _, _, _, _, _, rfl, rfl, set4 NO_3.out.1 _ _ _ _, ?_, hS, NO_3.out.2⟩
          exact LN_3.out.stay (fun k hk => (((((Keep.refl U1.heap.size U3).setCell ⟨U1.heap.size, 0, none⟩ rfl _).setCell ⟨U1.heap.size, 1, none⟩ rfl _).setCell ⟨U1.heap.size, 2, none⟩ rfl _).setCell ⟨U1.heap.size, 3, none⟩ rfl _).block k hk.2 (fun e => hk.1 (Option.some.inj e))) (fun k hk => by simpa using hk.2)
    · go_simp
      have hb1 : Below V5.drew.heap.size V5.drew (V5.drew.alloc (.cells #[.string ⟨#[]⟩, .slice none 0 0, .slice none 0 0, .slice none 0 0] 30)) := (Below.refl _ _).alloc (Nat.le_refl _) _
      have hN1 : (V5.drew.alloc (.cells #[.string ⟨#[]⟩, .slice none 0 0, .slice none 0 0, .slice none 0 0] 30)).heap[V5.heap.size]? = some (.cells #[.string ⟨#[]⟩, .slice none 0 0, .slice none 0 0, .slice none 0 0] 30 (0, 0)) := World.alloc_heap_new V5.drew _
      have hnb1 : V5.heap.size ≤ V5.heap.size := hS.size
      have hS1 := hS.trans (hb1.mono hS.size)
      change K _ (V5.drew.alloc (.cells #[.string ⟨#[]⟩, .slice none 0 0, .slice none 0 0, .slice none 0 0] 30))
      generalize V5.drew.alloc (.cells #[.string ⟨#[]⟩, .slice none 0 0, .slice none 0 0, .slice none 0 0] 30) = U1 at hb1 hN1 hS1 ⊢
      have NO_1 : Hid (U1.heap[V5.heap.size]? = some (.cells #[.string ⟨#[]⟩, .slice none 0 0, .slice none 0 0, .slice none 0 0] 30 (0, 0)) ∧ V5.heap.size ≤ V5.heap.size) := ⟨hN1, hnb1⟩
      clear hb1 hN1 hnb1
      refine hK.out _ _ hS1 (fun hS => ?_)
      clear hK K
      refine wpAnyH_ready (rs := [4]) (by kernel_rfl) (by simp) (AllReadyH.cons (o := { dst := some 50, op := Op.call { callee := Callee.value (Operand.tmp 48), args := #[Operand.tmp 49], argTypes := #[24] }, type := 26, pos := _, after := _, guard := none }) rfl (fun K hK => ?_) AllReadyH.nil)
      go_simp
      have QC := PC3.out U1 hS
      refine Calls.mono QC ?_
      clear QC
      rintro e U2 ⟨hb2, qa2, qc2, qf2, rfl, hqc2, hqd2⟩
      have NO_2 : Hid (U2.heap[V5.heap.size]? = some (.cells #[.string ⟨#[]⟩, .slice none 0 0, .slice none 0 0, .slice none 0 0] 30 (0, 0)) ∧ V5.heap.size ≤ V5.heap.size) := ⟨(hb2.block _ (Array.getElem?_eq_some_iff.1 NO_1.out.1).1).trans NO_1.out.1, NO_1.out.2⟩
      have PD_2 : Hid (∃ f, Dn U2 f qa2 (dp3).kids) := ⟨qf2, hqd2⟩
      have PDL : Hid ((dp3).kids.length ≤ qc2) := hqc2
      have hS2 := hS.trans (hb2.mono hS.size)
      clear hb2 hqc2 hqd2
      try unfold dv
      show K _ U2
      refine hK.out _ _ hS2 (fun hS => ?_)
      clear hK K
      refine wpAnyH_ready (rs := [5]) (by kernel_rfl) (by simp) (AllReadyH.cons (o := { dst := some 51, op := Op.call { callee := Callee.value (Operand.func 9), args := #[Operand.const (Value.slice none 0 0), Operand.tmp 46, Operand.tmp 47, Operand.tmp 50], argTypes := #[22, 23, 23, 26] }, type := 32, pos := _, after := _, guard := none }) rfl (fun K hK => ?_) AllReadyH.nil)
      go_simp
      obtain ⟨uf, huf⟩ := PD_2.out
      have QC := PP3.out U2 uf qa2 qc2 hS huf PDL.out
      refine Calls.mono QC ?_
      clear QC
      rintro e U3 ⟨hb3, ea3, ne3, ec3, ia3, ni3, ic3, ba3, nb3, bc3, rfl, hlm⟩
      have LM_3 : Hid (LibM (fun k => U2.heap.size ≤ k ∧ k < U3.heap.size) (libOf r3) (.slice ea3 ne3 ec3) (.slice ia3 ni3 ic3) (.slice ba3 nb3 bc3) U3) := hlm
      have hlt3 := (Array.getElem?_eq_some_iff.1 NO_2.out.1).1
      have LN_3 : Hid (LibM (fun k => k ≠ V5.heap.size ∧ k < U3.heap.size) (libOf r3) (.slice ea3 ne3 ec3) (.slice ia3 ni3 ic3) (.slice ba3 nb3 bc3) U3) := hlm.stay (fun _ _ => rfl) (fun k hk => ⟨fun e => by have := hk.1; omega, hk.2⟩)
      clear hlt3
      have NO_3 : Hid (U3.heap[V5.heap.size]? = some (.cells #[.string ⟨#[]⟩, .slice none 0 0, .slice none 0 0, .slice none 0 0] 30 (0, 0)) ∧ V5.heap.size ≤ V5.heap.size) := ⟨(hb3.block _ (Array.getElem?_eq_some_iff.1 NO_2.out.1).1).trans NO_2.out.1, NO_2.out.2⟩
      have PD_3 : Hid (∃ f, Dn U3 f qa2 (dp3).kids) := (by obtain ⟨f, hf⟩ := PD_2.out; exact ⟨f, hf.lift hb3⟩)
      have hS3 := hS.trans (hb3.mono hS.size)
      clear hb3 hlm huf LM_3
      show K _ U3
      refine hK.out _ _ hS3 (fun hS => ?_)
      clear hK K
      refine wpAnyH_take (i := 6) (oi := { dst := some 45, op := Op.move (Operand.tmp 51), type := 32, pos := _, after := _, guard := none }) (v := .tuple #[.agg #[.string (libOf r3).name, .slice ea3 ne3 ec3, .slice ia3 ni3 ic3, .slice ba3 nb3 bc3], .int .i64 (errOf r3)]) rfl (by kernel_rfl) (by kernel_rfl) (by kernel_rfl) (fun _ _ _ h => h) (Or.inl ⟨by rfl, fun u hu => by go_simp⟩) hS ?_
      simp only [Act.put, List.setIfInBounds_toArray, List.set_cons_zero, List.set_cons_succ]
      refine wpAnyH_take (i := 7) (oi := { dst := some 52, op := Op.extract (Operand.tmp 45) 0, type := 30, pos := _, after := _, guard := none }) (v := .agg #[.string (libOf r3).name, .slice ea3 ne3 ec3, .slice ia3 ni3 ic3, .slice ba3 nb3 bc3]) rfl (by kernel_rfl) (by kernel_rfl) (by kernel_rfl) (fun _ _ _ h => h) (Or.inl ⟨by rfl, fun u hu => by go_simp⟩) hS ?_
      simp only [Act.put, List.setIfInBounds_toArray, List.set_cons_zero, List.set_cons_succ]
      refine wpAnyH_take (i := 8) (oi := { dst := some 53, op := Op.extract (Operand.tmp 45) 1, type := 31, pos := _, after := _, guard := none }) (v := .int .i64 (errOf r3)) rfl (by kernel_rfl) (by kernel_rfl) (by kernel_rfl) (fun _ _ _ h => h) (Or.inl ⟨by rfl, fun u hu => by go_simp⟩) hS ?_
      simp only [Act.put, List.setIfInBounds_toArray, List.set_cons_zero, List.set_cons_succ]
      refine wpAnyH_ready (rs := [10]) (by kernel_rfl) (by simp) (AllReadyH.cons (o := { dst := none, op := Op.store 30 (Operand.tmp 18) (Operand.tmp 52), type := 0, pos := _, after := _, guard := none }) rfl (fun K hK => ?_) AllReadyH.nil)
      have bxx := NO_3.out.1
      have q0 : U3.cell? ⟨V5.heap.size, 0, none⟩ = some _ := (cellO bxx).trans rfl
      have q1 : U3.cell? ⟨V5.heap.size, 1, none⟩ = some _ := (cellO bxx).trans rfl
      have q2 : U3.cell? ⟨V5.heap.size, 2, none⟩ = some _ := (cellO bxx).trans rfl
      have q3 : U3.cell? ⟨V5.heap.size, 3, none⟩ = some _ := (cellO bxx).trans rfl
      have z0 : U3.frozen? ⟨V5.heap.size, 0, none⟩ = false := by simp [World.frozen?, bxx]
      have z1 : U3.frozen? ⟨V5.heap.size, 1, none⟩ = false := by simp [World.frozen?, bxx]
      have z2 : U3.frozen? ⟨V5.heap.size, 2, none⟩ = false := by simp [World.frozen?, bxx]
      have z3 : U3.frozen? ⟨V5.heap.size, 3, none⟩ = false := by simp [World.frozen?, bxx]
      go_simp
      refine hK.out _ _ ((((hS.setCell (p := ⟨V5.heap.size, 0, none⟩) NO_3.out.2 _).setCell (p := ⟨V5.heap.size, 1, none⟩) NO_3.out.2 _).setCell (p := ⟨V5.heap.size, 2, none⟩) NO_3.out.2 _).setCell (p := ⟨V5.heap.size, 3, none⟩) NO_3.out.2 _) (fun hS => ?_)
      clear hK K
      refine wpAnyH_take (i := 11) (oi := { dst := some 19, op := Op.assign (Operand.tmp 53), type := 31, pos := _, after := _, guard := none }) (v := .int .i64 (errOf r3)) rfl (by kernel_rfl) (by kernel_rfl) (by kernel_rfl) (fun _ _ _ h => h) (Or.inl ⟨by rfl, fun u hu => by go_simp⟩) hS ?_
      simp only [Act.put, List.setIfInBounds_toArray, List.set_cons_zero, List.set_cons_succ]
      refine wpAnyH_done (by kernel_rfl) ?_ _
      clear q0 q1 q2 q3 z0 z1 z2 z3 bxx
      go_wp2_with fail
      go_meet
      case rel =>
        refine ⟨_, _, _, _, _, _, _, _, _, _, rfl, rfl, set4 NO_3.out.1 _ _ _ _, ?_, hS, NO_3.out.2⟩
        exact LN_3.out.stay (fun k hk => (((((Keep.refl V5.heap.size U3).setCell ⟨V5.heap.size, 0, none⟩ rfl _).setCell ⟨V5.heap.size, 1, none⟩ rfl _).setCell ⟨V5.heap.size, 2, none⟩ rfl _).setCell ⟨V5.heap.size, 3, none⟩ rfl _).block k hk.2 (fun e => hk.1 (Option.some.inj e))) (fun k hk => by simpa using hk.2)
  case rest =>
    obtain ⟨N3, ea3, ne3, ec3, ia3, ni3, ic3, ba3, nb3, bc3, rfl, rfl, hx3, hl3, hb3, hn3⟩ := hcut
    have G6 : Hid (Below V2.heap.size V2 wc ∧ wc.heap[w3.heap.size]? = some (.cells #[.string (libOf r1).name, .slice ea1 ne1 ec1, .slice ia1 ni1 ic1, .slice ba1 nb1 bc1] 30 (0, 0)) ∧ LibM (fun k => k < wc.heap.size) (libOf r1) (.slice ea1 ne1 ec1) (.slice ia1 ni1 ic1) (.slice ba1 nb1 bc1) wc ∧ wc.heap[w5.heap.size]? = some (.cells #[.string (libOf r2).name, .slice ea2 ne2 ec2, .slice ia2 ni2 ic2, .slice ba2 nb2 bc2] 30 (0, 0)) ∧ LibM (fun k => k < wc.heap.size) (libOf r2) (.slice ea2 ne2 ec2) (.slice ia2 ni2 ic2) (.slice ba2 nb2 bc2) wc ∧ wc.heap[N3]? = some (.cells #[.string (libOf r3).name, .slice ea3 ne3 ec3, .slice ia3 ni3 ic3, .slice ba3 nb3 bc3] 30 (0, 0)) ∧ LibM (fun k => k < wc.heap.size) (libOf r3) (.slice ea3 ne3 ec3) (.slice ia3 ni3 ic3) (.slice ba3 nb3 bc3) wc) := ⟨G5.out.1.trans (hb3.mono G5.out.1.size), (hb3.block _ (Array.getElem?_eq_some_iff.1 G5.out.2.1).1).trans G5.out.2.1, G5.out.2.2.1.stay (fun k hk => hb3.block k hk) (fun k hk => Nat.lt_of_lt_of_le hk hb3.size), (hb3.block _ (Array.getElem?_eq_some_iff.1 G5.out.2.2.2.1).1).trans G5.out.2.2.2.1, G5.out.2.2.2.2.stay (fun k hk => hb3.block k hk) (fun k hk => Nat.lt_of_lt_of_le hk hb3.size), hx3, hl3⟩
    clear hx3 hl3 hb3 hn3 G5 PP3 PC3
    obtain ⟨V6, hV6⟩ : ∃ V6, V6 = wc := ⟨wc, rfl⟩
    subst hV6
    go_upto_region 9 with fail
    obtain ⟨dp4, hdp4⟩ : ∃ d, d = progD ys := ⟨_, rfl⟩
    have PP4 : Hid (∀ (u : World) (F : Nat) (a : Option Addr) (c : Nat), Below V6.heap.size V6 u → Dn u F a (dp4).kids → (dp4).kids.length ≤ c → Calls Tryz.prog 9 #[.slice none 0 0, .slice a1 n1 c1, .slice a2 n2 c2, dv dp4 a c] u (ToldQ (parseF E dp4) u)) := fun u F a c hb h1 h2 => PA.out dp4 a c F u (G6.out.1.trans (hb.mono G6.out.1.size)) h1 h2 (by rw [hdp4]; exact Nat.zero_le _)
    have PC4 : Hid (∀ (u : World), Below V6.heap.size V6 u → Calls Tryz.prog 23 #[.slice ay ny cy, .pointer (some ⟨v1.heap.size, 0, none⟩)] u (ToldN dp4 u)) := fun u hb => by
      have hq := G6.out.1.trans (hb.mono G6.out.1.size)
      have := P23.out ys ay cy Fy u hq (RD.out u (HV2.out u hq).1).2.2.1 NL.out.2
      rw [← HNX.out.2, ← hdp4] at this
      exact this
    generalize hr4 : parseF E dp4 = r4 at PP4
    rw [hdp4] at hr4
    have HR4 := hidd hr4
    clear hr4 hdp4
    go_cut [20, 21] from 54 to 63 (fun s18 s19 wx => ∃ N ea4 ne4 ec4 ia4 ni4 ic4 ba4 nb4 bc4, s18 = .pointer (some ⟨N, 0, none⟩) ∧ s19 = .int .i64 (errOf r4) ∧ wx.heap[N]? = some (.cells #[.string (libOf r4).name, .slice ea4 ne4 ec4, .slice ia4 ni4 ic4, .slice ba4 nb4 bc4] 30 (0, 0)) ∧ LibM (fun k => k < wx.heap.size) (libOf r4) (.slice ea4 ne4 ec4) (.slice ia4 ni4 ic4) (.slice ba4 nb4 bc4) wx ∧ Below V6.heap.size V6 wx ∧ V6.heap.size ≤ N)
    case first =>
      refine wp_region_held_drew (S := fun u => Below V6.heap.size V6 u) (by kernel_rfl) (Below.drew (Below.refl _ _)) (fun hS => ?_)
      refine wpAnyH_take (i := 0) (oi := { dst := some 55, op := Op.load 23 (Operand.tmp 5), type := 23, pos := _, after := _, guard := none }) (v := .slice a1 n1 c1) rfl (by kernel_rfl) (by kernel_rfl) (by kernel_rfl) (fun _ _ _ h => h) (Or.inl ⟨by rfl, fun u hu => by (have z0 := (show u.cell? ⟨w.heap.size, 0, none⟩ = some (.slice a1 n1 c1) from (cellO (HV2.out u (G6.out.1.trans (hu.mono G6.out.1.size))).2.1).trans rfl); go_simp)⟩) hS ?_
      simp only [Act.put, List.setIfInBounds_toArray, List.set_cons_zero, List.set_cons_succ]
      refine wpAnyH_take (i := 1) (oi := { dst := some 56, op := Op.load 23 (Operand.tmp 6), type := 23, pos := _, after := _, guard := none }) (v := .slice a2 n2 c2) rfl (by kernel_rfl) (by kernel_rfl) (by kernel_rfl) (fun _ _ _ h => h) (Or.inl ⟨by rfl, fun u hu => by (have z0 := (show u.cell? ⟨w.heap.size + 1, 0, none⟩ = some (.slice a2 n2 c2) from (cellO (HV2.out u (G6.out.1.trans (hu.mono G6.out.1.size))).2.2.1).trans rfl); go_simp)⟩) hS ?_
      simp only [Act.put, List.setIfInBounds_toArray, List.set_cons_zero, List.set_cons_succ]
      refine wpAnyH_take (i := 2) (oi := { dst := some 57, op := Op.load 45 (Operand.tmp 12), type := 45, pos := _, after := _, guard := none }) (v := .func (.func 23) #[] #[.pointer (some ⟨v1.heap.size, 0, none⟩)]) rfl (by kernel_rfl) (by kernel_rfl) (by kernel_rfl) (fun _ _ _ h => h) (Or.inl ⟨by rfl, fun u hu => by (have z0 := (show u.cell? ⟨v1.heap.size + 1, 0, none⟩ = some (.func (.func 23) #[] #[.pointer (some ⟨v1.heap.size, 0, none⟩)]) from (cellO (HV2.out u (G6.out.1.trans (hu.mono G6.out.1.size))).2.2.2.2.2).trans rfl); go_simp)⟩) hS ?_
      simp only [Act.put, List.setIfInBounds_toArray, List.set_cons_zero, List.set_cons_succ]
      refine wpAnyH_take (i := 3) (oi := { dst := some 58, op := Op.move (Operand.tmp 4), type := 24, pos := _, after := _, guard := none }) (v := .slice ay ny cy) rfl (by kernel_rfl) (by kernel_rfl) (by kernel_rfl) (fun _ _ _ h => h) (Or.inl ⟨by rfl, fun u hu => by go_simp⟩) hS ?_
      simp only [Act.put, List.setIfInBounds_toArray, List.set_cons_zero, List.set_cons_succ]
      refine wpAnyH_ready (rs := [4, 9]) (by kernel_rfl) (by simp) (AllReadyH.cons (o := { dst := some 59, op := Op.call { callee := Callee.value (Operand.tmp 57), args := #[Operand.tmp 58], argTypes := #[24] }, type := 26, pos := _, after := _, guard := none }) rfl (fun K hK => ?_) (AllReadyH.cons (o := { dst := some 20, op := Op.alloc 30, type := 0, pos := _, after := _, guard := none }) rfl (fun K hK => ?_) AllReadyH.nil))
      · go_simp
        have QC := PC4.out V6.drew hS
        refine Calls.mono QC ?_
        clear QC
        rintro e U1 ⟨hb1, qa1, qc1, qf1, rfl, hqc1, hqd1⟩
        have PD_1 : Hid (∃ f, Dn U1 f qa1 (dp4).kids) := ⟨qf1, hqd1⟩
        have PDL : Hid ((dp4).kids.length ≤ qc1) := hqc1
        have hS1 := hS.trans (hb1.mono hS.size)
        clear hb1 hqc1 hqd1
        try unfold dv
        show K _ U1
        refine hK.out _ _ hS1 (fun hS => ?_)
        clear hK K
        refine wpAnyH_ready (rs := [5, 9]) (by kernel_rfl) (by simp) (AllReadyH.cons (o := { dst := some 60, op := Op.call { callee := Callee.value (Operand.func 9), args := #[Operand.const (Value.slice none 0 0), Operand.tmp 55, Operand.tmp 56, Operand.tmp 59], argTypes := #[22, 23, 23, 26] }, type := 32, pos := _, after := _, guard := none }) rfl (fun K hK => ?_) (AllReadyH.cons (o := { dst := some 20, op := Op.alloc 30, type := 0, pos := _, after := _, guard := none }) rfl (fun K hK => ?_) AllReadyH.nil))
        · go_simp
          obtain ⟨uf, huf⟩ := PD_1.out
          have QC := PP4.out U1 uf qa1 qc1 hS huf PDL.out
          refine Calls.mono QC ?_
          clear QC
          rintro e U2 ⟨hb2, ea4, ne4, ec4, ia4, ni4, ic4, ba4, nb4, bc4, rfl, hlm⟩
          have LM_2 : Hid (LibM (fun k => U1.heap.size ≤ k ∧ k < U2.heap.size) (libOf r4) (.slice ea4 ne4 ec4) (.slice ia4 ni4 ic4) (.slice ba4 nb4 bc4) U2) := hlm
          have PD_2 : Hid (∃ f, Dn U2 f qa1 (dp4).kids) := (by obtain ⟨f, hf⟩ := PD_1.out; exact ⟨f, hf.lift hb2⟩)
          have LB_2 : Hid (LibM (fun k => k < U2.heap.size) (libOf r4) (.slice ea4 ne4 ec4) (.slice ia4 ni4 ic4) (.slice ba4 nb4 bc4) U2) := hlm.stay (fun _ _ => rfl) (fun k hk => hk.2)
          have hS2 := hS.trans (hb2.mono hS.size)
          clear hb2 hlm huf LM_2
          show K _ U2
          refine hK.out _ _ hS2 (fun hS => ?_)
          clear hK K
          refine wpAnyH_take (i := 6) (oi := { dst := some 54, op := Op.move (Operand.tmp 60), type := 32, pos := _, after := _, guard := none }) (v := .tuple #[.agg #[.string (libOf r4).name, .slice ea4 ne4 ec4, .slice ia4 ni4 ic4, .slice ba4 nb4 bc4], .int .i64 (errOf r4)]) rfl (by kernel_rfl) (by kernel_rfl) (by kernel_rfl) (fun _ _ _ h => h) (Or.inl ⟨by rfl, fun u hu => by go_simp⟩) hS ?_
          simp only [Act.put, List.setIfInBounds_toArray, List.set_cons_zero, List.set_cons_succ]
          refine wpAnyH_take (i := 7) (oi := { dst := some 61, op := Op.extract (Operand.tmp 54) 0, type := 30, pos := _, after := _, guard := none }) (v := .agg #[.string (libOf r4).name, .slice ea4 ne4 ec4, .slice ia4 ni4 ic4, .slice ba4 nb4 bc4]) rfl (by kernel_rfl) (by kernel_rfl) (by kernel_rfl) (fun _ _ _ h => h) (Or.inl ⟨by rfl, fun u hu => by go_simp⟩) hS ?_
          simp only [Act.put, List.setIfInBounds_toArray, List.set_cons_zero, List.set_cons_succ]
          refine wpAnyH_take (i := 8) (oi := { dst := some 62, op := Op.extract (Operand.tmp 54) 1, type := 31, pos := _, after := _, guard := none }) (v := .int .i64 (errOf r4)) rfl (by kernel_rfl) (by kernel_rfl) (by kernel_rfl) (fun _ _ _ h => h) (Or.inl ⟨by rfl, fun u hu => by go_simp⟩) hS ?_
          simp only [Act.put, List.setIfInBounds_toArray, List.set_cons_zero, List.set_cons_succ]
          refine wpAnyH_ready (rs := [9]) (by kernel_rfl) (by simp) (AllReadyH.cons (o := { dst := some 20, op := Op.alloc 30, type := 0, pos := _, after := _, guard := none }) rfl (fun K hK => ?_) AllReadyH.nil)
          go_simp
          have hb3 : Below U2.heap.size U2 (U2.alloc (.cells #[.string ⟨#[]⟩, .slice none 0 0, .slice none 0 0, .slice none 0 0] 30)) := (Below.refl _ _).alloc (Nat.le_refl _) _
          have hN3 : (U2.alloc (.cells #[.string ⟨#[]⟩, .slice none 0 0, .slice none 0 0, .slice none 0 0] 30)).heap[U2.heap.size]? = some (.cells #[.string ⟨#[]⟩, .slice none 0 0, .slice none 0 0, .slice none 0 0] 30 (0, 0)) := World.alloc_heap_new U2 _
          have hnb3 : V6.heap.size ≤ U2.heap.size := hS.size
          have hS3 := hS.trans (hb3.mono hS.size)
          change K _ (U2.alloc (.cells #[.string ⟨#[]⟩, .slice none 0 0, .slice none 0 0, .slice none 0 0] 30))
          generalize U2.alloc (.cells #[.string ⟨#[]⟩, .slice none 0 0, .slice none 0 0, .slice none 0 0] 30) = U3 at hb3 hN3 hS3 ⊢
          have LN_3 : Hid (LibM (fun k => k ≠ U2.heap.size ∧ k < U3.heap.size) (libOf r4) (.slice ea4 ne4 ec4) (.slice ia4 ni4 ic4) (.slice ba4 nb4 bc4) U3) := LB_2.out.stay (fun k hk => hb3.block k hk) (fun k hk => ⟨Nat.ne_of_lt hk, Nat.lt_of_lt_of_le hk hb3.size⟩)
          have PD_3 : Hid (∃ f, Dn U3 f qa1 (dp4).kids) := (by obtain ⟨f, hf⟩ := PD_2.out; exact ⟨f, hf.lift hb3⟩)
          have NO_3 : Hid (U3.heap[U2.heap.size]? = some (.cells #[.string ⟨#[]⟩, .slice none 0 0, .slice none 0 0, .slice none 0 0] 30 (0, 0)) ∧ V6.heap.size ≤ U2.heap.size) := ⟨hN3, hnb3⟩
          clear hb3 hN3 hnb3
          refine hK.out _ _ hS3 (fun hS => ?_)
          clear hK K
          refine wpAnyH_ready (rs := [10]) (by kernel_rfl) (by simp) (AllReadyH.cons (o := { dst := none, op := Op.store 30 (Operand.tmp 20) (Operand.tmp 61), type := 0, pos := _, after := _, guard := none }) rfl (fun K hK => ?_) AllReadyH.nil)
          have bxx := NO_3.out.1
          have q0 : U3.cell? ⟨U2.heap.size, 0, none⟩ = some _ := (cellO bxx).trans rfl
          have q1 : U3.cell? ⟨U2.heap.size, 1, none⟩ = some _ := (cellO bxx).trans rfl
          have q2 : U3.cell? ⟨U2.heap.size, 2, none⟩ = some _ := (cellO bxx).trans rfl
          have q3 : U3.cell? ⟨U2.heap.size, 3, none⟩ = some _ := (cellO bxx).trans rfl
          have z0 : U3.frozen? ⟨U2.heap.size, 0, none⟩ = false := by simp [World.frozen?, bxx]
          have z1 : U3.frozen? ⟨U2.heap.size, 1, none⟩ = false := by simp [World.frozen?, bxx]
          have z2 : U3.frozen? ⟨U2.heap.size, 2, none⟩ = false := by simp [World.frozen?, bxx]
          have z3 : U3.frozen? ⟨U2.heap.size, 3, none⟩ = false := by simp [World.frozen?, bxx]
          go_simp
          refine hK.out _ _ ((((hS.setCell (p := ⟨U2.heap.size, 0, none⟩) NO_3.out.2 _).setCell (p := ⟨U2.heap.size, 1, none⟩) NO_3.out.2 _).setCell (p := ⟨U2.heap.size, 2, none⟩) NO_3.out.2 _).setCell (p := ⟨U2.heap.size, 3, none⟩) NO_3.out.2 _) (fun hS => ?_)
          clear hK K
          refine wpAnyH_take (i := 11) (oi := { dst := some 21, op := Op.assign (Operand.tmp 62), type := 31, pos := _, after := _, guard := none }) (v := .int .i64 (errOf r4)) rfl (by kernel_rfl) (by kernel_rfl) (by kernel_rfl) (fun _ _ _ h => h) (Or.inl ⟨by rfl, fun u hu => by go_simp⟩) hS ?_
          simp only [Act.put, List.setIfInBounds_toArray, List.set_cons_zero, List.set_cons_succ]
          refine wpAnyH_done (by kernel_rfl) ?_ _
          clear q0 q1 q2 q3 z0 z1 z2 z3 bxx
          go_wp2_with fail
          go_meet
          case rel =>
            refine ⟨_, _, _, _, _, _, _, _, _, _, rfl, rfl, set4 NO_3.out.1 _ _ _ _, ?_, hS, NO_3.out.2⟩
            exact LN_3.out.stay (fun k hk => (((((Keep.refl U2.heap.size U3).setCell ⟨U2.heap.size, 0, none⟩ rfl _).setCell ⟨U2.heap.size, 1, none⟩ rfl _).setCell ⟨U2.heap.size, 2, none⟩ rfl _).setCell ⟨U2.heap.size, 3, none⟩ rfl _).block k hk.2 (fun e => hk.1 (Option.some.inj e))) (fun k hk => by simpa using hk.2)
        · go_simp
          have hb2 : Below U1.heap.size U1 (U1.alloc (.cells #[.string ⟨#[]⟩, .slice none 0 0, .slice none 0 0, .slice none 0 0] 30)) := (Below.refl _ _).alloc (Nat.le_refl _) _
          have hN2 : (U1.alloc (.cells #[.string ⟨#[]⟩, .slice none 0 0, .slice none 0 0, .slice none 0 0] 30)).heap[U1.heap.size]? = some (.cells #[.string ⟨#[]⟩, .slice none 0 0, .slice none 0 0, .slice none 0 0] 30 (0, 0)) := World.alloc_heap_new U1 _
          have hnb2 : V6.heap.size ≤ U1.heap.size := hS.size
          have hS2 := hS.trans (hb2.mono hS.size)
          change K _ (U1.alloc (.cells #[.string ⟨#[]⟩, .slice none 0 0, .slice none 0 0, .slice none 0 0] 30))
          generalize U1.alloc (.cells #[.string ⟨#[]⟩, .slice none 0 0, .slice none 0 0, .slice none 0 0] 30) = U2 at hb2 hN2 hS2 ⊢
          have PD_2 : Hid (∃ f, Dn U2 f qa1 (dp4).kids) := (by obtain ⟨f, hf⟩ := PD_1.out; exact ⟨f, hf.lift hb2⟩)
          have NO_2 : Hid (U2.heap[U1.heap.size]? = some (.cells #[.string ⟨#[]⟩, .slice none 0 0, .slice none 0 0, .slice none 0 0] 30 (0, 0)) ∧ V6.heap.size ≤ U1.heap.size) := ⟨hN2, hnb2⟩
          clear hb2 hN2 hnb2
          refine hK.out _ _ hS2 (fun hS => ?_)
          clear hK K
          refine wpAnyH_ready (rs := [5]) (by kernel_rfl) (by simp) (AllReadyH.cons (o := { dst := some 60, op := Op.call { callee := Callee.value (Operand.func 9), args := #[Operand.const (Value.slice none 0 0), Operand.tmp 55, Operand.tmp 56, Operand.tmp 59], argTypes := #[22, 23, 23, 26] }, type := 32, pos := _, after := _, guard := none }) rfl (fun K hK => ?_) AllReadyH.nil)
          go_simp
          obtain ⟨uf, huf⟩ := PD_2.out
          have QC := PP4.out U2 uf qa1 qc1 hS huf PDL.out
          refine Calls.mono QC ?_
          clear QC
          rintro e U3 ⟨hb3, ea4, ne4, ec4, ia4, ni4, ic4, ba4, nb4, bc4, rfl, hlm⟩
          have LM_3 : Hid (LibM (fun k => U2.heap.size ≤ k ∧ k < U3.heap.size) (libOf r4) (.slice ea4 ne4 ec4) (.slice ia4 ni4 ic4) (.slice ba4 nb4 bc4) U3) := hlm
          have hlt3 := (Array.getElem?_eq_some_iff.1 NO_2.out.1).1
          have LN_3 : Hid (LibM (fun k => k ≠ U1.heap.size ∧ k < U3.heap.size) (libOf r4) (.slice ea4 ne4 ec4) (.slice ia4 ni4 ic4) (.slice ba4 nb4 bc4) U3) := hlm.stay (fun _ _ => rfl) (fun k hk => ⟨fun e => by have := hk.1; omega, hk.2⟩)
          clear hlt3
          have PD_3 : Hid (∃ f, Dn U3 f qa1 (dp4).kids) := (by obtain ⟨f, hf⟩ := PD_2.out; exact ⟨f, hf.lift hb3⟩)
          have NO_3 : Hid (U3.heap[U1.heap.size]? = some (.cells #[.string ⟨#[]⟩, .slice none 0 0, .slice none 0 0, .slice none 0 0] 30 (0, 0)) ∧ V6.heap.size ≤ U1.heap.size) := ⟨(hb3.block _ (Array.getElem?_eq_some_iff.1 NO_2.out.1).1).trans NO_2.out.1, NO_2.out.2⟩
          have hS3 := hS.trans (hb3.mono hS.size)
          clear hb3 hlm huf LM_3
          show K _ U3
          refine hK.out _ _ hS3 (fun hS => ?_)
          clear hK K
          refine wpAnyH_take (i := 6) (oi := { dst := some 54, op := Op.move (Operand.tmp 60), type := 32, pos := _, after := _, guard := none }) (v := .tuple #[.agg #[.string (libOf r4).name, .slice ea4 ne4 ec4, .slice ia4 ni4 ic4, .slice ba4 nb4 bc4], .int .i64 (errOf r4)]) rfl (by kernel_rfl) (by kernel_rfl) (by kernel_rfl) (fun _ _ _ h => h) (Or.inl ⟨by rfl, fun u hu => by go_simp⟩) hS ?_
          simp only [Act.put, List.setIfInBounds_toArray, List.set_cons_zero, List.set_cons_succ]
          refine wpAnyH_take (i := 7) (oi := { dst := some 61, op := Op.extract (Operand.tmp 54) 0, type := 30, pos := _, after := _, guard := none }) (v := .agg #[.string (libOf r4).name, .slice ea4 ne4 ec4, .slice ia4 ni4 ic4, .slice ba4 nb4 bc4]) rfl (by kernel_rfl) (by kernel_rfl) (by kernel_rfl) (fun _ _ _ h => h) (Or.inl ⟨by rfl, fun u hu => by go_simp⟩) hS ?_
          simp only [Act.put, List.setIfInBounds_toArray, List.set_cons_zero, List.set_cons_succ]
          refine wpAnyH_take (i := 8) (oi := { dst := some 62, op := Op.extract (Operand.tmp 54) 1, type := 31, pos := _, after := _, guard := none }) (v := .int .i64 (errOf r4)) rfl (by kernel_rfl) (by kernel_rfl) (by kernel_rfl) (fun _ _ _ h => h) (Or.inl ⟨by rfl, fun u hu => by go_simp⟩) hS ?_
          simp only [Act.put, List.setIfInBounds_toArray, List.set_cons_zero, List.set_cons_succ]
          refine wpAnyH_ready (rs := [10]) (by kernel_rfl) (by simp) (AllReadyH.cons (o := { dst := none, op := Op.store 30 (Operand.tmp 20) (Operand.tmp 61), type := 0, pos := _, after := _, guard := none }) rfl (fun K hK => ?_) AllReadyH.nil)
          have bxx := NO_3.out.1
          have q0 : U3.cell? ⟨U1.heap.size, 0, none⟩ = some _ := (cellO bxx).trans rfl
          have q1 : U3.cell? ⟨U1.heap.size, 1, none⟩ = some _ := (cellO bxx).trans rfl
          have q2 : U3.cell? ⟨U1.heap.size, 2, none⟩ = some _ := (cellO bxx).trans rfl
          have q3 : U3.cell? ⟨U1.heap.size, 3, none⟩ = some _ := (cellO bxx).trans rfl
          have z0 : U3.frozen? ⟨U1.heap.size, 0, none⟩ = false := by simp [World.frozen?, bxx]
          have z1 : U3.frozen? ⟨U1.heap.size, 1, none⟩ = false := by simp [World.frozen?, bxx]
          have z2 : U3.frozen? ⟨U1.heap.size, 2, none⟩ = false := by simp [World.frozen?, bxx]
          have z3 : U3.frozen? ⟨U1.heap.size, 3, none⟩ = false := by simp [World.frozen?, bxx]
          go_simp
          refine hK.out _ _ ((((hS.setCell (p := ⟨U1.heap.size, 0, none⟩) NO_3.out.2 _).setCell (p := ⟨U1.heap.size, 1, none⟩) NO_3.out.2 _).setCell (p := ⟨U1.heap.size, 2, none⟩) NO_3.out.2 _).setCell (p := ⟨U1.heap.size, 3, none⟩) NO_3.out.2 _) (fun hS => ?_)
          clear hK K
          refine wpAnyH_take (i := 11) (oi := { dst := some 21, op := Op.assign (Operand.tmp 62), type := 31, pos := _, after := _, guard := none }) (v := .int .i64 (errOf r4)) rfl (by kernel_rfl) (by kernel_rfl) (by kernel_rfl) (fun _ _ _ h => h) (Or.inl ⟨by rfl, fun u hu => by go_simp⟩) hS ?_
          simp only [Act.put, List.setIfInBounds_toArray, List.set_cons_zero, List.set_cons_succ]
          refine wpAnyH_done (by kernel_rfl) ?_ _
          clear q0 q1 q2 q3 z0 z1 z2 z3 bxx
          go_wp2_with fail
          go_meet
          case rel =>
            refine ⟨_, _, _, _, _, _, _, _, _, _, rfl, rfl, set4 NO_3.out.1 _ _ _ _, ?_, hS, NO_3.out.2⟩
            exact LN_3.out.stay (fun k hk => (((((Keep.refl U1.heap.size U3).setCell ⟨U1.heap.size, 0, none⟩ rfl _).setCell ⟨U1.heap.size, 1, none⟩ rfl _).setCell ⟨U1.heap.size, 2, none⟩ rfl _).setCell ⟨U1.heap.size, 3, none⟩ rfl _).block k hk.2 (fun e => hk.1 (Option.some.inj e))) (fun k hk => by simpa using hk.2)
      · go_simp
        have hb1 : Below V6.drew.heap.size V6.drew (V6.drew.alloc (.cells #[.string ⟨#[]⟩, .slice none 0 0, .slice none 0 0, .slice none 0 0] 30)) := (Below.refl _ _).alloc (Nat.le_refl _) _
        have hN1 : (V6.drew.alloc (.cells #[.string ⟨#[]⟩, .slice none 0 0, .slice none 0 0, .slice none 0 0] 30)).heap[V6.heap.size]? = some (.cells #[.string ⟨#[]⟩, .slice none 0 0, .slice none 0 0, .slice none 0 0] 30 (0, 0)) := World.alloc_heap_new V6.drew _
        have hnb1 : V6.heap.size ≤ V6.heap.size := hS.size
        have hS1 := hS.trans (hb1.mono hS.size)
        change K _ (V6.drew.alloc (.cells #[.string ⟨#[]⟩, .slice none 0 0, .slice none 0 0, .slice none 0 0] 30))
        generalize V6.drew.alloc (.cells #[.string ⟨#[]⟩, .slice none 0 0, .slice none 0 0, .slice none 0 0] 30) = U1 at hb1 hN1 hS1 ⊢
        have NO_1 : Hid (U1.heap[V6.heap.size]? = some (.cells #[.string ⟨#[]⟩, .slice none 0 0, .slice none 0 0, .slice none 0 0] 30 (0, 0)) ∧ V6.heap.size ≤ V6.heap.size) := ⟨hN1, hnb1⟩
        clear hb1 hN1 hnb1
        refine hK.out _ _ hS1 (fun hS => ?_)
        clear hK K
        refine wpAnyH_ready (rs := [4]) (by kernel_rfl) (by simp) (AllReadyH.cons (o := { dst := some 59, op := Op.call { callee := Callee.value (Operand.tmp 57), args := #[Operand.tmp 58], argTypes := #[24] }, type := 26, pos := _, after := _, guard := none }) rfl (fun K hK => ?_) AllReadyH.nil)
        go_simp
        have QC := PC4.out U1 hS
        refine Calls.mono QC ?_
        clear QC
        rintro e U2 ⟨hb2, qa2, qc2, qf2, rfl, hqc2, hqd2⟩
        have NO_2 : Hid (U2.heap[V6.heap.size]? = some (.cells #[.string ⟨#[]⟩, .slice none 0 0, .slice none 0 0, .slice none 0 0] 30 (0, 0)) ∧ V6.heap.size ≤ V6.heap.size) := ⟨(hb2.block _ (Array.getElem?_eq_some_iff.1 NO_1.out.1).1).trans NO_1.out.1, NO_1.out.2⟩
        have PD_2 : Hid (∃ f, Dn U2 f qa2 (dp4).kids) := ⟨qf2, hqd2⟩
        have PDL : Hid ((dp4).kids.length ≤ qc2) := hqc2
        have hS2 := hS.trans (hb2.mono hS.size)
        clear hb2 hqc2 hqd2
        try unfold dv
        show K _ U2
        refine hK.out _ _ hS2 (fun hS => ?_)
        clear hK K
        refine wpAnyH_ready (rs := [5]) (by kernel_rfl) (by simp) (AllReadyH.cons (o := { dst := some 60, op := Op.call { callee := Callee.value (Operand.func 9), args := #[Operand.const (Value.slice none 0 0), Operand.tmp 55, Operand.tmp 56, Operand.tmp 59], argTypes := #[22, 23, 23, 26] }, type := 32, pos := _, after := _, guard := none }) rfl (fun K hK => ?_) AllReadyH.nil)
        go_simp
        obtain ⟨uf, huf⟩ := PD_2.out
        have QC := PP4.out U2 uf qa2 qc2 hS huf PDL.out
        refine Calls.mono QC ?_
        clear QC
        rintro e U3 ⟨hb3, ea4, ne4, ec4, ia4, ni4, ic4, ba4, nb4, bc4, rfl, hlm⟩
        have LM_3 : Hid (LibM (fun k => U2.heap.size ≤ k ∧ k < U3.heap.size) (libOf r4) (.slice ea4 ne4 ec4) (.slice ia4 ni4 ic4) (.slice ba4 nb4 bc4) U3) := hlm
        have hlt3 := (Array.getElem?_eq_some_iff.1 NO_2.out.1).1
        have LN_3 : Hid (LibM (fun k => k ≠ V6.heap.size ∧ k < U3.heap.size) (libOf r4) (.slice ea4 ne4 ec4) (.slice ia4 ni4 ic4) (.slice ba4 nb4 bc4) U3) := hlm.stay (fun _ _ => rfl) (fun k hk => ⟨fun e => by have := hk.1; omega, hk.2⟩)
        clear hlt3
        have NO_3 : Hid (U3.heap[V6.heap.size]? = some (.cells #[.string ⟨#[]⟩, .slice none 0 0, .slice none 0 0, .slice none 0 0] 30 (0, 0)) ∧ V6.heap.size ≤ V6.heap.size) := ⟨(hb3.block _ (Array.getElem?_eq_some_iff.1 NO_2.out.1).1).trans NO_2.out.1, NO_2.out.2⟩
        have PD_3 : Hid (∃ f, Dn U3 f qa2 (dp4).kids) := (by obtain ⟨f, hf⟩ := PD_2.out; exact ⟨f, hf.lift hb3⟩)
        have hS3 := hS.trans (hb3.mono hS.size)
        clear hb3 hlm huf LM_3
        show K _ U3
        refine hK.out _ _ hS3 (fun hS => ?_)
        clear hK K
        refine wpAnyH_take (i := 6) (oi := { dst := some 54, op := Op.move (Operand.tmp 60), type := 32, pos := _, after := _, guard := none }) (v := .tuple #[.agg #[.string (libOf r4).name, .slice ea4 ne4 ec4, .slice ia4 ni4 ic4, .slice ba4 nb4 bc4], .int .i64 (errOf r4)]) rfl (by kernel_rfl) (by kernel_rfl) (by kernel_rfl) (fun _ _ _ h => h) (Or.inl ⟨by rfl, fun u hu => by go_simp⟩) hS ?_
        simp only [Act.put, List.setIfInBounds_toArray, List.set_cons_zero, List.set_cons_succ]
        refine wpAnyH_take (i := 7) (oi := { dst := some 61, op := Op.extract (Operand.tmp 54) 0, type := 30, pos := _, after := _, guard := none }) (v := .agg #[.string (libOf r4).name, .slice ea4 ne4 ec4, .slice ia4 ni4 ic4, .slice ba4 nb4 bc4]) rfl (by kernel_rfl) (by kernel_rfl) (by kernel_rfl) (fun _ _ _ h => h) (Or.inl ⟨by rfl, fun u hu => by go_simp⟩) hS ?_
        simp only [Act.put, List.setIfInBounds_toArray, List.set_cons_zero, List.set_cons_succ]
        refine wpAnyH_take (i := 8) (oi := { dst := some 62, op := Op.extract (Operand.tmp 54) 1, type := 31, pos := _, after := _, guard := none }) (v := .int .i64 (errOf r4)) rfl (by kernel_rfl) (by kernel_rfl) (by kernel_rfl) (fun _ _ _ h => h) (Or.inl ⟨by rfl, fun u hu => by go_simp⟩) hS ?_
        simp only [Act.put, List.setIfInBounds_toArray, List.set_cons_zero, List.set_cons_succ]
        refine wpAnyH_ready (rs := [10]) (by kernel_rfl) (by simp) (AllReadyH.cons (o := { dst := none, op := Op.store 30 (Operand.tmp 20) (Operand.tmp 61), type := 0, pos := _, after := _, guard := none }) rfl (fun K hK => ?_) AllReadyH.nil)
        have bxx := NO_3.out.1
        have q0 : U3.cell? ⟨V6.heap.size, 0, none⟩ = some _ := (cellO bxx).trans rfl
        have q1 : U3.cell? ⟨V6.heap.size, 1, none⟩ = some _ := (cellO bxx).trans rfl
        have q2 : U3.cell? ⟨V6.heap.size, 2, none⟩ = some _ := (cellO bxx).trans rfl
        have q3 : U3.cell? ⟨V6.heap.size, 3, none⟩ = some _ := (cellO bxx).trans rfl
        have z0 : U3.frozen? ⟨V6.heap.size, 0, none⟩ = false := by simp [World.frozen?, bxx]
        have z1 : U3.frozen? ⟨V6.heap.size, 1, none⟩ = false := by simp [World.frozen?, bxx]
        have z2 : U3.frozen? ⟨V6.heap.size, 2, none⟩ = false := by simp [World.frozen?, bxx]
        have z3 : U3.frozen? ⟨V6.heap.size, 3, none⟩ = false := by simp [World.frozen?, bxx]
        go_simp
        refine hK.out _ _ ((((hS.setCell (p := ⟨V6.heap.size, 0, none⟩) NO_3.out.2 _).setCell (p := ⟨V6.heap.size, 1, none⟩) NO_3.out.2 _).setCell (p := ⟨V6.heap.size, 2, none⟩) NO_3.out.2 _).setCell (p := ⟨V6.heap.size, 3, none⟩) NO_3.out.2 _) (fun hS => ?_)
        clear hK K
        refine wpAnyH_take (i := 11) (oi := { dst := some 21, op := Op.assign (Operand.tmp 62), type := 31, pos := _, after := _, guard := none }) (v := .int .i64 (errOf r4)) rfl (by kernel_rfl) (by kernel_rfl) (by kernel_rfl) (fun _ _ _ h => h) (Or.inl ⟨by rfl, fun u hu => by go_simp⟩) hS ?_
        simp only [Act.put, List.setIfInBounds_toArray, List.set_cons_zero, List.set_cons_succ]
        refine wpAnyH_done (by kernel_rfl) ?_ _
        clear q0 q1 q2 q3 z0 z1 z2 z3 bxx
        go_wp2_with fail
        go_meet
        case rel =>
          refine ⟨_, _, _, _, _, _, _, _, _, _, rfl, rfl, set4 NO_3.out.1 _ _ _ _, ?_, hS, NO_3.out.2⟩
          exact LN_3.out.stay (fun k hk => (((((Keep.refl V6.heap.size U3).setCell ⟨V6.heap.size, 0, none⟩ rfl _).setCell ⟨V6.heap.size, 1, none⟩ rfl _).setCell ⟨V6.heap.size, 2, none⟩ rfl _).setCell ⟨V6.heap.size, 3, none⟩ rfl _).block k hk.2 (fun e => hk.1 (Option.some.inj e))) (fun k hk => by simpa using hk.2)
    case rest =>
      obtain ⟨N4, ea4, ne4, ec4, ia4, ni4, ic4, ba4, nb4, bc4, rfl, rfl, hx4, hl4, hb4, hn4⟩ := hcut
      have hb6 := hb4
      have G7 : Hid (Below V2.heap.size V2 wc ∧ wc.heap[w3.heap.size]? = some (.cells #[.string (libOf r1).name, .slice ea1 ne1 ec1, .slice ia1 ni1 ic1, .slice ba1 nb1 bc1] 30 (0, 0)) ∧ LibM (fun k => k < wc.heap.size) (libOf r1) (.slice ea1 ne1 ec1) (.slice ia1 ni1 ic1) (.slice ba1 nb1 bc1) wc ∧ wc.heap[w5.heap.size]? = some (.cells #[.string (libOf r2).name, .slice ea2 ne2 ec2, .slice ia2 ni2 ic2, .slice ba2 nb2 bc2] 30 (0, 0)) ∧ LibM (fun k => k < wc.heap.size) (libOf r2) (.slice ea2 ne2 ec2) (.slice ia2 ni2 ic2) (.slice ba2 nb2 bc2) wc ∧ wc.heap[N3]? = some (.cells #[.string (libOf r3).name, .slice ea3 ne3 ec3, .slice ia3 ni3 ic3, .slice ba3 nb3 bc3] 30 (0, 0)) ∧ LibM (fun k => k < wc.heap.size) (libOf r3) (.slice ea3 ne3 ec3) (.slice ia3 ni3 ic3) (.slice ba3 nb3 bc3) wc ∧ wc.heap[N4]? = some (.cells #[.string (libOf r4).name, .slice ea4 ne4 ec4, .slice ia4 ni4 ic4, .slice ba4 nb4 bc4] 30 (0, 0)) ∧ LibM (fun k => k < wc.heap.size) (libOf r4) (.slice ea4 ne4 ec4) (.slice ia4 ni4 ic4) (.slice ba4 nb4 bc4) wc) := ⟨G6.out.1.trans (hb4.mono G6.out.1.size), (hb4.block _ (Array.getElem?_eq_some_iff.1 G6.out.2.1).1).trans G6.out.2.1, G6.out.2.2.1.stay (fun k hk => hb4.block k hk) (fun k hk => Nat.lt_of_lt_of_le hk hb4.size), (hb4.block _ (Array.getElem?_eq_some_iff.1 G6.out.2.2.2.1).1).trans G6.out.2.2.2.1, G6.out.2.2.2.2.1.stay (fun k hk => hb4.block k hk) (fun k hk => Nat.lt_of_lt_of_le hk hb4.size), (hb4.block _ (Array.getElem?_eq_some_iff.1 G6.out.2.2.2.2.2.1).1).trans G6.out.2.2.2.2.2.1, G6.out.2.2.2.2.2.2.stay (fun k hk => hb4.block k hk) (fun k hk => Nat.lt_of_lt_of_le hk hb4.size), hx4, hl4⟩
      clear hx4 hl4 hb4 hb6 hn4 G6 PP4 PC4
      have DF : Hid (errOf r1 = 0 → errOf r2 = 0 → errOf r3 = 0 → errOf r4 = 0 → ¬ (r.kind = 3 ∧ r.name = bElse) → r1 = r2 ∧ (r1 = r3 ∨ r1 = r4)) := fun h1 h2 h3 h4 hn => by
        have k : ∀ (q : Er LibS), NZ q → errOf q = 0 → ∃ s, q = .ok s := fun q hq he => by
          cases q with
          | ok s => exact ⟨s, rfl⟩
          | no e => exact absurd he (hq e rfl)
        obtain ⟨s1, q1⟩ := k r1 (by rw [← HR1.out]; exact nz_parse _ _) h1
        obtain ⟨s2, q2⟩ := k r2 (by rw [← HR2.out]; exact nz_parse _ _) h2
        obtain ⟨s3, q3⟩ := k r3 (by rw [← HR3.out]; exact nz_parse _ _) h3
        obtain ⟨s4, q4⟩ := k r4 (by rw [← HR4.out]; exact nz_parse _ _) h4
        have := else_plain E hn xs ys (x := s1) (y := s2) (p := s3) (q := s4) (by rw [HR1.out]; exact q1) (by rw [← HRN.out, HR2.out]; exact q2) (by rw [HR3.out]; exact q3) (by rw [HR4.out]; exact q4)
        rw [q1, q2, q3, q4]
        rcases this with ⟨e1, e2 | e2⟩
        · exact ⟨by rw [e1], Or.inl (by rw [e2])⟩
        · exact ⟨by rw [e1], Or.inr (by rw [e2])⟩
      have MU : Hid ((Inv (libOf r1) ∧ seOkL (libOf r1).imports) ∧ (Inv (libOf r3) ∧ seOkL (libOf r3).imports)) := ⟨by rw [← HR1.out]; exact libOf_much _ _, by rw [← HR3.out]; exact libOf_much _ _⟩
      have SAME : Hid (∀ (q : Er LibS) (ea ia ba : Option Addr) (ne ec ni ic nb bc : Nat) (u : World), r1 = q → Below wc.heap.size wc u → LibM (fun k => k < wc.heap.size) (libOf q) (.slice ea ne ec) (.slice ia ni ic) (.slice ba nb bc) wc → Calls Tryz.prog 11 #[.agg #[.string (libOf r1).name, .slice ea1 ne1 ec1, .slice ia1 ni1 ic1, .slice ba1 nb1 bc1], .agg #[.string (libOf q).name, .slice ea ne ec, .slice ia ni ic, .slice ba nb bc]] u (YesB u)) := fun q ea ia ba ne ec ni ic nb bc u hq hb hl => by
        subst hq
        exact same_any wc.heap.size (libOf r1) _ _ _ _ _ _ u hb.size (G7.out.2.2.1.stay (fun k hk => hb.block k hk) (fun _ h => h)) (hl.stay (fun k hk => hb.block k hk) (fun _ h => h)) MU.out.1.1.e MU.out.1.1.i MU.out.1.2
      have MAY : Hid (∀ u, Below wc.heap.size wc u → Calls Tryz.prog 11 #[.agg #[.string (libOf r1).name, .slice ea1 ne1 ec1, .slice ia1 ni1 ic1, .slice ba1 nb1 bc1], .agg #[.string (libOf r3).name, .slice ea3 ne3 ec3, .slice ia3 ni3 ic3, .slice ba3 nb3 bc3]] u (MayB u)) := fun u hb => may_any wc.heap.size (libOf r1) (libOf r3) _ _ _ _ _ _ u hb.size (G7.out.2.2.1.stay (fun k hk => hb.block k hk) (fun _ h => h)) (G7.out.2.2.2.2.2.2.1.stay (fun k hk => hb.block k hk) (fun _ h => h)) MU.out.1.1.e MU.out.1.1.i MU.out.1.2 MU.out.2.1.e MU.out.2.1.i MU.out.2.2
      have GB : Hid (∀ u, Below wc.heap.size wc u → Below w.heap.size w u ∧ u.heap[w3.heap.size]? = wc.heap[w3.heap.size]? ∧ u.heap[w5.heap.size]? = wc.heap[w5.heap.size]? ∧ u.heap[N3]? = wc.heap[N3]? ∧ u.heap[N4]? = wc.heap[N4]?) := fun u hb => ⟨(HV2.out u (G7.out.1.trans (hb.mono G7.out.1.size))).1, hb.block _ (Array.getElem?_eq_some_iff.1 G7.out.2.1).1, hb.block _ (Array.getElem?_eq_some_iff.1 G7.out.2.2.2.1).1, hb.block _ (Array.getElem?_eq_some_iff.1 G7.out.2.2.2.2.2.1).1, hb.block _ (Array.getElem?_eq_some_iff.1 G7.out.2.2.2.2.2.2.2.1).1⟩
      have hbW := (GB.out wc (Below.refl _ _)).1
      have HBW := hidd hbW
      have S12 := hidd (fun u hb h => SAME.out r2 _ _ _ _ _ _ _ _ _ u h hb G7.out.2.2.2.2.1)
      have S13 := hidd (fun u hb h => SAME.out r3 _ _ _ _ _ _ _ _ _ u h hb G7.out.2.2.2.2.2.2.1)
      have S14 := hidd (fun u hb h => SAME.out r4 _ _ _ _ _ _ _ _ _ u h hb G7.out.2.2.2.2.2.2.2.2)
      have gx := (HV2.out wc G7.out.1).2.2.2.1
      have k0 : wc.cell? ⟨w.heap.size + 2, 0, none⟩ = some _ := (cellO gx).trans rfl
      have k2 : wc.cell? ⟨w.heap.size + 2, 2, none⟩ = some _ := (cellO gx).trans rfl
      have XX : Hid (wc.heap[w3.heap.size]? = some (.cells #[.string (libOf r1).name, .slice ea1 ne1 ec1, .slice ia1 ni1 ic1, .slice ba1 nb1 bc1] 30 (0, 0)) ∧ wc.heap[w5.heap.size]? = some (.cells #[.string (libOf r2).name, .slice ea2 ne2 ec2, .slice ia2 ni2 ic2, .slice ba2 nb2 bc2] 30 (0, 0)) ∧ wc.heap[N3]? = some (.cells #[.string (libOf r3).name, .slice ea3 ne3 ec3, .slice ia3 ni3 ic3, .slice ba3 nb3 bc3] 30 (0, 0)) ∧ wc.heap[N4]? = some (.cells #[.string (libOf r4).name, .slice ea4 ne4 ec4, .slice ia4 ni4 ic4, .slice ba4 nb4 bc4] 30 (0, 0))) := ⟨G7.out.2.1, G7.out.2.2.2.1, G7.out.2.2.2.2.2.1, G7.out.2.2.2.2.2.2.2.1⟩
      clear hbW gx SAME G7 HR1 HR2 HR3 HR4 HRN MU
      generalize errOf r1 = x1 at DF ⊢
      generalize errOf r2 = x2 at DF ⊢
      generalize errOf r3 = x3 at DF ⊢
      generalize errOf r4 = x4 at DF ⊢
      by_cases q1 : ¬ x1 = 0
      · have f1 : decide (x1 = 0) = false := by simp [q1]
        have f2 : (x1 == 0) = false := by simp [q1]
        have f3 : (x1 != 0) = true := by simp [q1]
        clear q1 DF
        go_wp2_with fail
        go_ret
        exact ⟨rfl, HBW.out⟩
      obtain rfl : x1 = 0 := Classical.not_not.1 q1
      clear q1
      by_cases q2 : ¬ x2 = 0
      · have f1 : decide (x2 = 0) = false := by simp [q2]
        have f2 : (x2 == 0) = false := by simp [q2]
        have f3 : (x2 != 0) = true := by simp [q2]
        clear q2 DF
        go_wp2_with fail
        go_ret
        exact ⟨rfl, HBW.out⟩
      obtain rfl : x2 = 0 := Classical.not_not.1 q2
      clear q2
      by_cases q3 : ¬ x3 = 0
      · have f1 : decide (x3 = 0) = false := by simp [q3]
        have f2 : (x3 == 0) = false := by simp [q3]
        have f3 : (x3 != 0) = true := by simp [q3]
        clear q3 DF
        go_wp2_with fail
        go_ret
        exact ⟨rfl, HBW.out⟩
      obtain rfl : x3 = 0 := Classical.not_not.1 q3
      clear q3
      by_cases q4 : ¬ x4 = 0
      · have f1 : decide (x4 = 0) = false := by simp [q4]
        have f2 : (x4 == 0) = false := by simp [q4]
        have f3 : (x4 != 0) = true := by simp [q4]
        clear q4 DF
        go_wp2_with fail
        go_ret
        exact ⟨rfl, HBW.out⟩
      obtain rfl : x4 = 0 := Classical.not_not.1 q4
      clear q4
      have DG : Hid (¬ (r.kind = 3 ∧ r.name = bElse) → r1 = r2 ∧ (r1 = r3 ∨ r1 = r4)) := fun h => DF.out rfl rfl rfl rfl h
      clear DF
      generalize hrk : r.kind = rk at *
      generalize hrm : r.name = rm at *
      clear hrk hrm
      have ST : ∀ (q : Bool), Hid (rk = 3 ∧ rm = bElse) ∨ Hid (¬ (rk = 3 ∧ rm = bElse)) := fun _ => (Classical.em _).imp hidd hidd
      rcases ST true with HE | HE
      · have c1 : decide (rk = 3) = true := by simp [HE.out.1]
        have c2 : (rk == 3) = true := by simp [HE.out.1]
        have eE : bElse.toList = [101, 108, 115, 101] := by unfold bElse; simp
        have c3 : (rm.toList == [101, 108, 115, 101]) = true := by rw [HE.out.2, eE]; decide
        clear ST DG
        go_wp2_with fail
        go_ret
        exact ⟨rfl, HBW.out⟩
      · by_cases ck : rk = 3
        · have c1 : decide (rk = 3) = true := by simp [ck]
          have c2 : (rk == 3) = true := by simp [ck]
          have c3 : (rm.toList == bElse.toList) = false := beqS_ne (fun h => HE.out ⟨ck, h⟩)
          have eE : bElse.toList = [101, 108, 115, 101] := by unfold bElse; simp
          have c4 : (rm.toList == [101, 108, 115, 101]) = false := by rw [← eE]; exact c3
          clear ck
          obtain ⟨hq12, hq3⟩ := DG.out HE.out
          have HQ12 := hidd hq12
          clear hq12 DG ST
          have m0 : wc.cell? ⟨w3.heap.size, 0, none⟩ = some _ := (cellO XX.out.1).trans rfl
          have m1 : wc.cell? ⟨w3.heap.size, 1, none⟩ = some _ := (cellO XX.out.1).trans rfl
          have m2 : wc.cell? ⟨w3.heap.size, 2, none⟩ = some _ := (cellO XX.out.1).trans rfl
          have m3 : wc.cell? ⟨w3.heap.size, 3, none⟩ = some _ := (cellO XX.out.1).trans rfl
          have l0 : wc.cell? ⟨w5.heap.size, 0, none⟩ = some _ := (cellO XX.out.2.1).trans rfl
          have l1 : wc.cell? ⟨w5.heap.size, 1, none⟩ = some _ := (cellO XX.out.2.1).trans rfl
          have l2 : wc.cell? ⟨w5.heap.size, 2, none⟩ = some _ := (cellO XX.out.2.1).trans rfl
          have l3 : wc.cell? ⟨w5.heap.size, 3, none⟩ = some _ := (cellO XX.out.2.1).trans rfl
          go_wp2_with fail
          refine (S12.out wc (Below.refl _ _) HQ12.out).mono ?_
          rintro e u1 ⟨rfl, hu1⟩
          have GU := hidd (GB.out u1 hu1)
          have HU1 := hidd hu1
          have mm0 : u1.cell? ⟨w3.heap.size, 0, none⟩ = some _ := (cellO (GU.out.2.1.trans XX.out.1)).trans rfl
          have mm1 : u1.cell? ⟨w3.heap.size, 1, none⟩ = some _ := (cellO (GU.out.2.1.trans XX.out.1)).trans rfl
          have mm2 : u1.cell? ⟨w3.heap.size, 2, none⟩ = some _ := (cellO (GU.out.2.1.trans XX.out.1)).trans rfl
          have mm3 : u1.cell? ⟨w3.heap.size, 3, none⟩ = some _ := (cellO (GU.out.2.1.trans XX.out.1)).trans rfl
          have pp0 : u1.cell? ⟨N3, 0, none⟩ = some _ := (cellO (GU.out.2.2.2.1.trans XX.out.2.2.1)).trans rfl
          have pp1 : u1.cell? ⟨N3, 1, none⟩ = some _ := (cellO (GU.out.2.2.2.1.trans XX.out.2.2.1)).trans rfl
          have pp2 : u1.cell? ⟨N3, 2, none⟩ = some _ := (cellO (GU.out.2.2.2.1.trans XX.out.2.2.1)).trans rfl
          have pp3 : u1.cell? ⟨N3, 3, none⟩ = some _ := (cellO (GU.out.2.2.2.1.trans XX.out.2.2.1)).trans rfl
          clear hu1 S12 HQ12 m0 m1 m2 m3 l0 l1 l2 l3
          go_wp2_with fail
          rcases hq3 with hq | hq
          · have HQ := hidd hq
            clear hq
            refine (S13.out u1 HU1.out HQ.out).mono ?_
            rintro e u2 ⟨rfl, hu2⟩
            have HBE : Hid (Below w.heap.size w u2) := GU.out.1.trans (hu2.mono GU.out.1.size)
            clear hu2
            go_wp2_with fail
            go_ret
            exact ⟨rfl, HBE.out⟩
          · have HQ := hidd hq
            clear hq
            refine (MAY.out u1 HU1.out).mono ?_
            rintro e u2 ⟨⟨bb, rfl⟩, hu2⟩
            have HU2 : Hid (Below wc.heap.size wc u2) := HU1.out.trans (hu2.mono HU1.out.size)
            have GU2 := hidd (GB.out u2 HU2.out)
            cases bb with
            | true =>
              clear hu2
              go_wp2_with fail
              go_ret
              exact ⟨rfl, GU2.out.1⟩
            | false =>
              have mn0 : u2.cell? ⟨w3.heap.size, 0, none⟩ = some _ := (cellO (GU2.out.2.1.trans XX.out.1)).trans rfl
              have mn1 : u2.cell? ⟨w3.heap.size, 1, none⟩ = some _ := (cellO (GU2.out.2.1.trans XX.out.1)).trans rfl
              have mn2 : u2.cell? ⟨w3.heap.size, 2, none⟩ = some _ := (cellO (GU2.out.2.1.trans XX.out.1)).trans rfl
              have mn3 : u2.cell? ⟨w3.heap.size, 3, none⟩ = some _ := (cellO (GU2.out.2.1.trans XX.out.1)).trans rfl
              have pn0 : u2.cell? ⟨N4, 0, none⟩ = some _ := (cellO (GU2.out.2.2.2.2.trans XX.out.2.2.2)).trans rfl
              have pn1 : u2.cell? ⟨N4, 1, none⟩ = some _ := (cellO (GU2.out.2.2.2.2.trans XX.out.2.2.2)).trans rfl
              have pn2 : u2.cell? ⟨N4, 2, none⟩ = some _ := (cellO (GU2.out.2.2.2.2.trans XX.out.2.2.2)).trans rfl
              have pn3 : u2.cell? ⟨N4, 3, none⟩ = some _ := (cellO (GU2.out.2.2.2.2.trans XX.out.2.2.2)).trans rfl
              clear hu2 mm0 mm1 mm2 mm3 pp0 pp1 pp2 pp3
              go_wp2_with fail
              refine (S14.out u2 HU2.out HQ.out).mono ?_
              rintro e u3 ⟨rfl, hu3⟩
              have HBE : Hid (Below w.heap.size w u3) := GU2.out.1.trans (hu3.mono GU2.out.1.size)
              clear hu3
              go_wp2_with fail
              go_ret
              exact ⟨rfl, HBE.out⟩
        · have c1 : decide (rk = 3) = false := by simp [ck]
          have c2 : (rk == 3) = false := by simp [ck]
          clear ck
          obtain ⟨hq12, hq3⟩ := DG.out HE.out
          have HQ12 := hidd hq12
          clear hq12 DG ST
          have m0 : wc.cell? ⟨w3.heap.size, 0, none⟩ = some _ := (cellO XX.out.1).trans rfl
          have m1 : wc.cell? ⟨w3.heap.size, 1, none⟩ = some _ := (cellO XX.out.1).trans rfl
          have m2 : wc.cell? ⟨w3.heap.size, 2, none⟩ = some _ := (cellO XX.out.1).trans rfl
          have m3 : wc.cell? ⟨w3.heap.size, 3, none⟩ = some _ := (cellO XX.out.1).trans rfl
          have l0 : wc.cell? ⟨w5.heap.size, 0, none⟩ = some _ := (cellO XX.out.2.1).trans rfl
          have l1 : wc.cell? ⟨w5.heap.size, 1, none⟩ = some _ := (cellO XX.out.2.1).trans rfl
          have l2 : wc.cell? ⟨w5.heap.size, 2, none⟩ = some _ := (cellO XX.out.2.1).trans rfl
          have l3 : wc.cell? ⟨w5.heap.size, 3, none⟩ = some _ := (cellO XX.out.2.1).trans rfl
          go_wp2_with fail
          refine (S12.out wc (Below.refl _ _) HQ12.out).mono ?_
          rintro e u1 ⟨rfl, hu1⟩
          have GU := hidd (GB.out u1 hu1)
          have HU1 := hidd hu1
          have mm0 : u1.cell? ⟨w3.heap.size, 0, none⟩ = some _ := (cellO (GU.out.2.1.trans XX.out.1)).trans rfl
          have mm1 : u1.cell? ⟨w3.heap.size, 1, none⟩ = some _ := (cellO (GU.out.2.1.trans XX.out.1)).trans rfl
          have mm2 : u1.cell? ⟨w3.heap.size, 2, none⟩ = some _ := (cellO (GU.out.2.1.trans XX.out.1)).trans rfl
          have mm3 : u1.cell? ⟨w3.heap.size, 3, none⟩ = some _ := (cellO (GU.out.2.1.trans XX.out.1)).trans rfl
          have pp0 : u1.cell? ⟨N3, 0, none⟩ = some _ := (cellO (GU.out.2.2.2.1.trans XX.out.2.2.1)).trans rfl
          have pp1 : u1.cell? ⟨N3, 1, none⟩ = some _ := (cellO (GU.out.2.2.2.1.trans XX.out.2.2.1)).trans rfl
          have pp2 : u1.cell? ⟨N3, 2, none⟩ = some _ := (cellO (GU.out.2.2.2.1.trans XX.out.2.2.1)).trans rfl
          have pp3 : u1.cell? ⟨N3, 3, none⟩ = some _ := (cellO (GU.out.2.2.2.1.trans XX.out.2.2.1)).trans rfl
          clear hu1 S12 HQ12 m0 m1 m2 m3 l0 l1 l2 l3
          go_wp2_with fail
          rcases hq3 with hq | hq
          · have HQ := hidd hq
            clear hq
            refine (S13.out u1 HU1.out HQ.out).mono ?_
            rintro e u2 ⟨rfl, hu2⟩
            have HBE : Hid (Below w.heap.size w u2) := GU.out.1.trans (hu2.mono GU.out.1.size)
            clear hu2
            go_wp2_with fail
            go_ret
            exact ⟨rfl, HBE.out⟩
          · have HQ := hidd hq
            clear hq
            refine (MAY.out u1 HU1.out).mono ?_
            rintro e u2 ⟨⟨bb, rfl⟩, hu2⟩
            have HU2 : Hid (Below wc.heap.size wc u2) := HU1.out.trans (hu2.mono HU1.out.size)
            have GU2 := hidd (GB.out u2 HU2.out)
            cases bb with
            | true =>
              clear hu2
              go_wp2_with fail
              go_ret
              exact ⟨rfl, GU2.out.1⟩
            | false =>
              have mn0 : u2.cell? ⟨w3.heap.size, 0, none⟩ = some _ := (cellO (GU2.out.2.1.trans XX.out.1)).trans rfl
              have mn1 : u2.cell? ⟨w3.heap.size, 1, none⟩ = some _ := (cellO (GU2.out.2.1.trans XX.out.1)).trans rfl
              have mn2 : u2.cell? ⟨w3.heap.size, 2, none⟩ = some _ := (cellO (GU2.out.2.1.trans XX.out.1)).trans rfl
              have mn3 : u2.cell? ⟨w3.heap.size, 3, none⟩ = some _ := (cellO (GU2.out.2.1.trans XX.out.1)).trans rfl
              have pn0 : u2.cell? ⟨N4, 0, none⟩ = some _ := (cellO (GU2.out.2.2.2.2.trans XX.out.2.2.2)).trans rfl
              have pn1 : u2.cell? ⟨N4, 1, none⟩ = some _ := (cellO (GU2.out.2.2.2.2.trans XX.out.2.2.2)).trans rfl
              have pn2 : u2.cell? ⟨N4, 2, none⟩ = some _ := (cellO (GU2.out.2.2.2.2.trans XX.out.2.2.2)).trans rfl
              have pn3 : u2.cell? ⟨N4, 3, none⟩ = some _ := (cellO (GU2.out.2.2.2.2.trans XX.out.2.2.2)).trans rfl
              clear hu2 mm0 mm1 mm2 mm3 pp0 pp1 pp2 pp3
              go_wp2_with fail
              refine (S14.out u2 HU2.out HQ.out).mono ?_
              rintro e u3 ⟨rfl, hu3⟩
              have HBE : Hid (Below w.heap.size w u3) := GU2.out.1.trans (hu3.mono GU2.out.1.size)
              clear hu3
              go_wp2_with fail
              go_ret
              exact ⟨rfl, HBE.out⟩
end Go.Proofs.YtonafbennobgdaaGreatDoor
