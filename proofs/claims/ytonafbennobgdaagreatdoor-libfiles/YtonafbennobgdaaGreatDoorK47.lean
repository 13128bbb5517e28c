/- Chapter 3's laws: LibSplit, walked. -/
import Derived.Test.YtonafbennobgdaaGreatDoorK45
namespace Go.Proofs.YtonafbennobgdaaGreatDoor
set_option linter.unusedVariables false
set_option linter.unusedSimpArgs false
open Go.RowKit

/-- The law's four boxes. -/
structure SB (w : World) (f1 f2 f3 : Value) (word : ByteArray) (W : World) : Prop where
  old : Below w.heap.size w W
  c0 : W.cell? ⟨w.heap.size, 0, none⟩ = some f1
  c1 : W.cell? ⟨w.heap.size + 1, 0, none⟩ = some f2
  c2 : W.cell? ⟨w.heap.size + 2, 0, none⟩ = some f3
  c3 : W.cell? ⟨w.heap.size + 3, 0, none⟩ = some (.string word)
theorem SB.lt {w W : World} {f1 f2 f3 : Value} {word : ByteArray} (h : SB w f1 f2 f3 word W) : w.heap.size + 3 < W.heap.size := World.block_lt_of_cell? W ⟨w.heap.size + 3, 0, none⟩ h.c3
theorem SB.below {w W W' : World} {f1 f2 f3 : Value} {word : ByteArray} (h : SB w f1 f2 f3 word W) (hb : Below W.heap.size W W') : SB w f1 f2 f3 word W' :=
  ⟨h.old.trans (hb.mono h.old.size), (hb.cell (p := ⟨w.heap.size, 0, none⟩) (by have := h.lt; show w.heap.size < W.heap.size; omega)).trans h.c0, (hb.cell (p := ⟨w.heap.size + 1, 0, none⟩) (by have := h.lt; show w.heap.size + 1 < W.heap.size; omega)).trans h.c1, (hb.cell (p := ⟨w.heap.size + 2, 0, none⟩) (by have := h.lt; show w.heap.size + 2 < W.heap.size; omega)).trans h.c2, (hb.cell (p := ⟨w.heap.size + 3, 0, none⟩) h.lt).trans h.c3⟩
theorem SB.start (w : World) (a1 a2 a3 : Option Addr) (n1 n2 n3 c1 c2 c3 : Nat) (word : ByteArray) : SB w (.slice a1 n1 c1) (.slice a2 n2 c2) (.slice a3 n3 c3) word ((((w.alloc (.cells #[.slice a1 n1 c1] 22)).alloc (.cells #[.slice a2 n2 c2] 23)).alloc (.cells #[.slice a3 n3 c3] 23)).alloc (.cells #[.string word] 9)) := by
  refine ⟨((((Below.refl _ _).alloc (Nat.le_refl _) _).alloc (by simp) _).alloc (by simp <;> omega) _).alloc (by simp <;> omega) _, ?_, ?_, ?_, ?_⟩
  all_goals simp [go_sem]
/-- A row of one datum, of two. -/
theorem Dn.made (W : World) (es : List (Dat × Option Addr × Nat)) (hl : es.length ≤ 100) (h : ∀ e ∈ es, e.1.name.size ≤ maxLen ∧ e.1.kids.length ≤ e.2.2 ∧ ∃ f, Dn W f e.2.1 e.1.kids) :
    ∃ f, Dn (W.alloc (.cells (flat es).toArray 26)) f (some ⟨W.heap.size, 0, none⟩) (es.map (·.1)) := by
  have hr := RowD.made W es (by simp [maxLen]; omega) h
  obtain ⟨a, cap, f, hv, hc, hd⟩ := hr.lieN (by omega)
  simp at hv
  rw [hv.1]
  exact ⟨f, hd⟩
theorem lib0_much : Inv lib0 ∧ seOkL lib0.imports := ⟨⟨by simp [lib0], by simp [lib0], by simp [lib0]⟩, by simp [lib0, seOkL]⟩
theorem libOf_much (E : Env) (d : Dat) : Inv (libOf (parseF E d)) ∧ seOkL (libOf (parseF E d)).imports := by
  cases h : parseF E d with
  | ok s => exact parseF_much E d s h
  | no x => exact lib0_much
/-- The empty row of data. -/
theorem RowD.fresh (W : World) : RowD W.heap.size (.slice (some ⟨W.heap.size, 0, none⟩) 0 0) [] (W.alloc (.cells #[] 26)) := by
  have := RowD.made W [] (Nat.zero_le _) (by simp)
  simpa [flat] using this
set_option maxRecDepth 100000 in
set_option maxHeartbeats 12800000 in
theorem LibSplit_walk (E : Env) (a1 a2 a3 : Option Addr) (n1 n2 n3 c1 c2 c3 : Nat) (word : ByteArray) (la lb : List Dat) (aa ab : Option Addr) (ca cb Fa Fb : Nat) (w : World) (h0 : 0 < w.heap.size) (ht : TabW w) (he : EnvW w.heap.size E (.slice a1 n1 c1) (.slice a2 n2 c2) (.slice a3 n3 c3) w)
    (hda : Dn w Fa aa la) (hdb : Dn w Fb ab lb) (hla : la.length ≤ 2000000) (hlb : lb.length ≤ 2000000) :
    Calls Tryz.prog 8 #[.slice a1 n1 c1, .slice a2 n2 c2, .slice a3 n3 c3, .string word, .slice aa la.length ca, .slice ab lb.length cb] w fun e w' => e = .returned (.bool true) ∧ Below w.heap.size w w' := by
  have S0 := hidd (SB.start w a1 a2 a3 n1 n2 n3 c1 c2 c3 word)
  have AL : Hid (∀ W, Below w.heap.size w W → Calls Tryz.prog 12 #[] W fun e w' => e = .returned (.bool true) ∧ Below W.heap.size W w') := fun W hb => alive_any W (ht.below hb h0) (Nat.lt_of_lt_of_le h0 hb.size)
  have WC : Hid (∀ W l a cap F, SB w (.slice a1 n1 c1) (.slice a2 n2 c2) (.slice a3 n3 c3) word W → splitW word → Dn W F a l → l.length ≤ 10000000 → Calls Tryz.prog 25 #[.slice a l.length cap, .pointer (some ⟨w.heap.size + 3, 0, none⟩)] W (ToldN (liD (syD word :: l)) W)) := fun W l a cap F hb hs hd hl =>
    wcl_any word (w.heap.size + 3) l a cap F W (by rcases hs with rfl | rfl | rfl | rfl <;> decide) hb.c3 hd hl
  have PC : Hid (∀ W l a cap F, SB w (.slice a1 n1 c1) (.slice a2 n2 c2) (.slice a3 n3 c3) word W → Dn W F a l → l.length ≤ 10000000 → Calls Tryz.prog 26 #[.slice a l.length cap, .pointer (some ⟨w.heap.size, 0, none⟩), .pointer (some ⟨w.heap.size + 1, 0, none⟩), .pointer (some ⟨w.heap.size + 2, 0, none⟩)] W (ToldQ (parseF E (libM l)) W)) := fun W l a cap F hb hd hl =>
    pcl_any E a1 a2 a3 n1 n2 n3 c1 c2 c3 _ _ _ l a cap F W (Nat.lt_of_lt_of_le h0 hb.old.size) (ht.below hb.old h0) ((he.below hb.old).grow hb.old.size) hb.c0 hb.c1 hb.c2 hd hl
  have DA := hidd hda
  have DB := hidd hdb
  have LA := hidd hla
  have LB := hidd hlb
  obtain ⟨na, hna⟩ : ∃ n, n = la.length := ⟨_, rfl⟩
  obtain ⟨nb, hnb⟩ : ∃ n, n = lb.length := ⟨_, rfl⟩
  rw [← hna, ← hnb]
  have NA := hidd hna
  have NB := hidd hnb
  clear h0 ht he hda hdb hla hlb hna hnb
  go_enter Tryz.func8, Tryz.ntmps8
  go_wp2_with fail
  refine (AL.out _ S0.out.old).mono ?_
  rintro e v0 ⟨rfl, hb⟩
  have F0 := hidd (S0.out.below hb)
  have kc := F0.out.c3
  clear hb S0
  by_cases hw : ¬ splitW word
  · have hn0 : word ≠ bBegin := fun h => hw (Or.inl h)
    have hn1 : word ≠ bImport := fun h => hw (Or.inr (Or.inl h))
    have hn2 : word ≠ bInclude := fun h => hw (Or.inr (Or.inr (Or.inl h)))
    have hn3 : word ≠ bExport := fun h => hw (Or.inr (Or.inr (Or.inr h)))
    have k0 : (word.toList == bBegin.toList) = false := beqS_ne hn0
    have m0 : (word.toList == [98, 101, 103, 105, 110]) = false := by unfold bBegin at k0; simpa using k0
    have k1 : (word.toList == bImport.toList) = false := beqS_ne hn1
    have m1 : (word.toList == [105, 109, 112, 111, 114, 116]) = false := by unfold bImport at k1; simpa using k1
    have k2 : (word.toList == bInclude.toList) = false := beqS_ne hn2
    have m2 : (word.toList == [105, 110, 99, 108, 117, 100, 101]) = false := by unfold bInclude at k2; simpa using k2
    have k3 : (word.toList == bExport.toList) = false := beqS_ne hn3
    have m3 : (word.toList == [101, 120, 112, 111, 114, 116]) = false := by unfold bExport at k3; simpa using k3
    clear hw hn0 hn1 hn2 hn3 k0 k1 k2 k3
    go_wp2_with fail
    go_ret
    exact ⟨rfl, F0.out.old⟩
  have hws := Classical.not_not.1 hw
  have HW := hidd hws
  clear hw
  rcases hws with hw | hw | hw | hw
  · have m0 : (word.toList == [98, 101, 103, 105, 110]) = true := by
      have k : (word.toList == bBegin.toList) = true := by rw [hw]; simp
      unfold bBegin at k
      simpa using k
    clear hw
    have RF := hidd (RowD.fresh v0)
    have G0 : Hid (Below w.heap.size w (v0.alloc (.cells #[] 26)) ∧ SB w (.slice a1 n1 c1) (.slice a2 n2 c2) (.slice a3 n3 c3) word (v0.alloc (.cells #[] 26)) ∧ Below v0.heap.size v0 (v0.alloc (.cells #[] 26))) := ⟨F0.out.old.alloc F0.out.old.size _, F0.out.below ((Below.refl _ _).alloc (Nat.le_refl _) _), (Below.refl _ _).alloc (Nat.le_refl _) _⟩
    go_wp2_with (at_builtin; refine wpList_rowD rfl _ _ rfl (B := v0.heap.size) (v := .slice (some ⟨v0.heap.size, 0, none⟩) 0 0) (es := []) (by exact RF.out) (W0 := w) (F := Fa) (a := aa) (l := la) (cap := ca) rfl (by rw [← NA.out]; rfl) DA.out G0.out.1 F0.out.old.size G0.out.2.2.size (by have := LA.out; simp; omega) ?_)
    intro v1 w1 fs hfs hr1 hb1 hkf1
    have G1 : Hid (Below w.heap.size w w1 ∧ SB w (.slice a1 n1 c1) (.slice a2 n2 c2) (.slice a3 n3 c3) word w1 ∧ Below v0.heap.size v0 w1) := by
      have h2 := G0.out.2.2.trans hb1
      exact ⟨F0.out.old.trans (h2.mono F0.out.old.size), F0.out.below h2, h2⟩
    have R1 : Hid (RowD v0.heap.size v1 fs w1 ∧ fs.map (·.1) = la) := ⟨hr1, hfs⟩
    clear hr1 hb1 hkf1 hfs RF G0
    go_wp2_with (at_builtin; refine wpList_rowD rfl _ _ rfl (B := v0.heap.size) (v := v1) (es := fs) (by exact R1.out.1) (W0 := w) (F := Fb) (a := ab) (l := lb) (cap := cb) rfl (by rw [← NB.out]; rfl) DB.out G1.out.1 F0.out.old.size G1.out.2.2.size (by have h1 := congrArg List.length R1.out.2; have h2 := LA.out; have h3 := LB.out; rw [List.length_map] at h1; omega) ?_)
    intro v2 w2 gs hgs hr2 hb2 hkf2
    obtain ⟨va, vc, vf, hva, hvc, hdd⟩ := hr2.lieN (by have h1 := congrArg List.length R1.out.2; have h4 := congrArg List.length hgs; have h2 := LA.out; have h3 := LB.out; rw [List.length_map] at h1 h4; rw [List.length_append]; omega)
    have hmp : List.map (fun x : Dat × Option Addr × Nat => x.1) (fs ++ gs) = la ++ lb := by rw [List.map_append, R1.out.2, hgs]
    rw [hmp] at hva hvc hdd
    subst hva
    have G2 : Hid (Below w.heap.size w w2 ∧ SB w (.slice a1 n1 c1) (.slice a2 n2 c2) (.slice a3 n3 c3) word w2) := by
      have h2 := G1.out.2.2.trans hb2
      exact ⟨F0.out.old.trans (h2.mono F0.out.old.size), F0.out.below h2⟩
    have W25 := hidd (WC.out w2 (la ++ lb) va vc vf G2.out.2 HW.out hdd (by have h2 := LA.out; have h3 := LB.out; rw [List.length_append]; omega))
    obtain ⟨D1, hD1⟩ : ∃ D1, D1 = liD (syD word :: (la ++ lb)) := ⟨_, rfl⟩
    obtain ⟨m, hm⟩ : ∃ m, m = (la ++ lb).length := ⟨_, rfl⟩
    rw [← hD1, ← hm] at W25
    rw [← hm]
    have N1 : Hid (D1.name.size ≤ maxLen) := by rw [hD1]; exact Nat.zero_le _
    have HD1 := hidd hD1
    clear hD1 hm hr2 hb2 hkf2 hgs hvc hdd hmp R1 G1
    go_wp2_with fail
    refine W25.out.mono ?_
    rintro e w3 ⟨hb3, da1, dc1, df1, rfl, hdc1, hdd1⟩
    have G3 : Hid (SB w (.slice a1 n1 c1) (.slice a2 n2 c2) (.slice a3 n3 c3) word w3 ∧ SB w (.slice a1 n1 c1) (.slice a2 n2 c2) (.slice a3 n3 c3) word (w3.alloc (.cells #[.int .i64 D1.kind, .int .i64 D1.n, .string D1.name, .int .i64 D1.stamp, .int .i64 D1.lib, .slice da1 D1.kids.length dc1] 26))) := ⟨G2.out.2.below hb3, (G2.out.2.below hb3).below ((Below.refl _ _).alloc (Nat.le_refl _) _)⟩
    have P26 : Hid (Calls Tryz.prog 26 #[.slice (some ⟨w3.heap.size, 0, none⟩) 1 1, .pointer (some ⟨w.heap.size, 0, none⟩), .pointer (some ⟨w.heap.size + 1, 0, none⟩), .pointer (some ⟨w.heap.size + 1 + 1, 0, none⟩)] (w3.alloc (.cells #[.int .i64 D1.kind, .int .i64 D1.n, .string D1.name, .int .i64 D1.stamp, .int .i64 D1.lib, .slice da1 D1.kids.length dc1] 26)) (ToldQ (parseF E (libM [D1])) (w3.alloc (.cells #[.int .i64 D1.kind, .int .i64 D1.n, .string D1.name, .int .i64 D1.stamp, .int .i64 D1.lib, .slice da1 D1.kids.length dc1] 26)))) := by
      obtain ⟨f, hf⟩ := Dn.made w3 [(D1, da1, dc1)] (by simp) (by intro e he; simp at he; subst he; exact ⟨N1.out, hdc1, df1, hdd1⟩)
      exact PC.out _ [D1] _ 1 f G3.out.2 hf (by simp)
    obtain ⟨r1, hr1⟩ : ∃ r1, r1 = parseF E (libM [D1]) := ⟨_, rfl⟩
    rw [← hr1] at P26
    have HR1 : Hid (r1 = parseF E (libM [liD (syD word :: (la ++ lb))])) := by rw [← HD1.out]; exact hr1
    have MU1 : Hid (Inv (libOf r1) ∧ seOkL (libOf r1).imports) := by rw [hr1]; exact libOf_much E _
    clear hr1 hb3 hdc1 hdd1 W25 G2
    unfold dv
    go_wp2_with fail
    refine P26.out.mono ?_
    rintro e w4 ⟨hb4, ea1, nx1, ec1, ia1, ni1, ic1, ba1, nb1, bc1, rfl, hlm1⟩
    obtain ⟨W4, hW4⟩ : ∃ W4, W4 = w4.alloc (.cells #[.string (libOf r1).name, .slice ea1 nx1 ec1, .slice ia1 ni1 ic1, .slice ba1 nb1 bc1] 30) := ⟨_, rfl⟩
    have b4 : Below w4.heap.size w4 W4 := by rw [hW4]; exact (Below.refl _ _).alloc (Nat.le_refl _) _
    have G4 : Hid (SB w (.slice a1 n1 c1) (.slice a2 n2 c2) (.slice a3 n3 c3) word W4) := (G3.out.2.below hb4).below b4
    have x4 : W4.heap[w4.heap.size]? = some (.cells #[.string (libOf r1).name, .slice ea1 nx1 ec1, .slice ia1 ni1 ic1, .slice ba1 nb1 bc1] 30 (0, 0)) := by rw [hW4]; exact World.alloc_heap_new w4 _
    have L4 : Hid (LibM (fun k => k < W4.heap.size) (libOf r1) (.slice ea1 nx1 ec1) (.slice ia1 ni1 ic1) (.slice ba1 nb1 bc1) W4) := hlm1.stay (fun k hk => b4.block k hk.2) (fun k hk => Nat.lt_of_lt_of_le hk.2 b4.size)
    have XX4 := hidd x4
    have Q4 := hidd hW4.symm
    have W25a := hidd (WC.out W4 la aa ca Fa G4.out HW.out (DA.out.lift G4.out.old) (by have := LA.out; omega))
    obtain ⟨D2, hD2⟩ : ∃ D2, D2 = liD (syD word :: la) := ⟨_, rfl⟩
    rw [← hD2, ← NA.out] at W25a
    have N2 : Hid (D2.name.size ≤ maxLen) := by rw [hD2]; exact Nat.zero_le _
    have HD2 := hidd hD2
    clear hD2 hb4 hlm1 hW4 b4 x4 P26 G3
    go_wp2_with fail
    show Calls Tryz.prog 25 _ (w4.alloc (.cells #[.string (libOf r1).name, .slice ea1 nx1 ec1, .slice ia1 ni1 ic1, .slice ba1 nb1 bc1] 30)) _
    rw [Q4.out]
    refine W25a.out.mono ?_
    rintro e w5 ⟨hb5, da2, dc2, df2, rfl, hdc2, hdd2⟩
    have G5 : Hid (SB w (.slice a1 n1 c1) (.slice a2 n2 c2) (.slice a3 n3 c3) word w5 ∧ Below W4.heap.size W4 w5 ∧ D2.kids.length ≤ dc2 ∧ Dn w5 df2 da2 D2.kids) := ⟨G4.out.below hb5, hb5, hdc2, hdd2⟩
    have W25b := hidd (WC.out w5 lb ab cb Fb G5.out.1 HW.out (DB.out.lift G5.out.1.old) (by have := LB.out; omega))
    obtain ⟨D3, hD3⟩ : ∃ D3, D3 = liD (syD word :: lb) := ⟨_, rfl⟩
    rw [← hD3, ← NB.out] at W25b
    have N3 : Hid (D3.name.size ≤ maxLen) := by rw [hD3]; exact Nat.zero_le _
    have HD3 := hidd hD3
    clear hD3 hb5 hdc2 hdd2 Q4 W25a
    unfold dv
    go_wp2_with fail
    refine W25b.out.mono ?_
    rintro e w6 ⟨hb6, da3, dc3, df3, rfl, hdc3, hdd3⟩
    have b6 : Below w6.heap.size w6 (w6.alloc (.cells #[.int .i64 D2.kind, .int .i64 D2.n, .string D2.name, .int .i64 D2.stamp, .int .i64 D2.lib, .slice da2 D2.kids.length dc2, .int .i64 D3.kind, .int .i64 D3.n, .string D3.name, .int .i64 D3.stamp, .int .i64 D3.lib, .slice da3 D3.kids.length dc3] 26)) := (Below.refl _ _).alloc (Nat.le_refl _) _
    have G6 : Hid (SB w (.slice a1 n1 c1) (.slice a2 n2 c2) (.slice a3 n3 c3) word (w6.alloc (.cells #[.int .i64 D2.kind, .int .i64 D2.n, .string D2.name, .int .i64 D2.stamp, .int .i64 D2.lib, .slice da2 D2.kids.length dc2, .int .i64 D3.kind, .int .i64 D3.n, .string D3.name, .int .i64 D3.stamp, .int .i64 D3.lib, .slice da3 D3.kids.length dc3] 26)) ∧ Below W4.heap.size W4 (w6.alloc (.cells #[.int .i64 D2.kind, .int .i64 D2.n, .string D2.name, .int .i64 D2.stamp, .int .i64 D2.lib, .slice da2 D2.kids.length dc2, .int .i64 D3.kind, .int .i64 D3.n, .string D3.name, .int .i64 D3.stamp, .int .i64 D3.lib, .slice da3 D3.kids.length dc3] 26))) := ⟨(G5.out.1.below hb6).below b6, (G5.out.2.1.trans (hb6.mono G5.out.2.1.size)).trans (b6.mono (Nat.le_trans G5.out.2.1.size hb6.size))⟩
    have P26 : Hid (Calls Tryz.prog 26 #[.slice (some ⟨w6.heap.size, 0, none⟩) 2 2, .pointer (some ⟨w.heap.size, 0, none⟩), .pointer (some ⟨w.heap.size + 1, 0, none⟩), .pointer (some ⟨w.heap.size + 1 + 1, 0, none⟩)] (w6.alloc (.cells #[.int .i64 D2.kind, .int .i64 D2.n, .string D2.name, .int .i64 D2.stamp, .int .i64 D2.lib, .slice da2 D2.kids.length dc2, .int .i64 D3.kind, .int .i64 D3.n, .string D3.name, .int .i64 D3.stamp, .int .i64 D3.lib, .slice da3 D3.kids.length dc3] 26)) (ToldQ (parseF E (libM [D2, D3])) (w6.alloc (.cells #[.int .i64 D2.kind, .int .i64 D2.n, .string D2.name, .int .i64 D2.stamp, .int .i64 D2.lib, .slice da2 D2.kids.length dc2, .int .i64 D3.kind, .int .i64 D3.n, .string D3.name, .int .i64 D3.stamp, .int .i64 D3.lib, .slice da3 D3.kids.length dc3] 26)))) := by
      obtain ⟨f, hf⟩ := Dn.made w6 [(D2, da2, dc2), (D3, da3, dc3)] (by simp) (by
        intro e he
        simp at he
        rcases he with rfl | rfl
        · exact ⟨N2.out, G5.out.2.2.1, df2, G5.out.2.2.2.lift hb6⟩
        · exact ⟨N3.out, hdc3, df3, hdd3⟩)
      exact PC.out _ [D2, D3] _ 2 f G6.out.1 hf (by simp)
    obtain ⟨r2, hr2⟩ : ∃ r2, r2 = parseF E (libM [D2, D3]) := ⟨_, rfl⟩
    rw [← hr2] at P26
    have SP : Hid (r1 = .no 4 ∨ r2 = .no 4 ∨ r1 = r2) := by
      have := split_plain E HW.out la lb
      rw [HR1.out, hr2, HD2.out, HD3.out]
      exact this
    clear hr2 hb6 hdc3 hdd3 b6 W25b G5
    unfold dv
    go_wp2_with fail
    refine P26.out.mono ?_
    rintro e w7 ⟨hb7, ea2, nx2, ec2, ia2, ni2, ic2, ba2, nb2, bc2, rfl, hlm2⟩
    obtain ⟨W7, hW7⟩ : ∃ W7, W7 = w7.alloc (.cells #[.string (libOf r2).name, .slice ea2 nx2 ec2, .slice ia2 ni2 ic2, .slice ba2 nb2 bc2] 30) := ⟨_, rfl⟩
    have b7 : Below w7.heap.size w7 W7 := by rw [hW7]; exact (Below.refl _ _).alloc (Nat.le_refl _) _
    have h47 : Below W4.heap.size W4 W7 := (G6.out.2.trans (hb7.mono G6.out.2.size)).trans (b7.mono (Nat.le_trans G6.out.2.size hb7.size))
    have G7 : Hid (SB w (.slice a1 n1 c1) (.slice a2 n2 c2) (.slice a3 n3 c3) word W7) := (G6.out.1.below hb7).below b7
    have x7 : W7.heap[w7.heap.size]? = some (.cells #[.string (libOf r2).name, .slice ea2 nx2 ec2, .slice ia2 ni2 ic2, .slice ba2 nb2 bc2] 30 (0, 0)) := by rw [hW7]; exact World.alloc_heap_new w7 _
    have x4 : W7.heap[w4.heap.size]? = some (.cells #[.string (libOf r1).name, .slice ea1 nx1 ec1, .slice ia1 ni1 ic1, .slice ba1 nb1 bc1] 30 (0, 0)) := (h47.block _ (Array.getElem?_eq_some_iff.1 XX4.out).1).trans XX4.out
    have L7 : Hid (LibM (fun k => k < W7.heap.size) (libOf r2) (.slice ea2 nx2 ec2) (.slice ia2 ni2 ic2) (.slice ba2 nb2 bc2) W7) := hlm2.stay (fun k hk => b7.block k hk.2) (fun k hk => Nat.lt_of_lt_of_le hk.2 b7.size)
    have L47 : Hid (LibM (fun k => k < W7.heap.size) (libOf r1) (.slice ea1 nx1 ec1) (.slice ia1 ni1 ic1) (.slice ba1 nb1 bc1) W7) := L4.out.stay (fun k hk => h47.block k hk) (fun k hk => Nat.lt_of_lt_of_le hk h47.size)
    have Q7 := hidd hW7.symm
    have y0 : W7.cell? ⟨w4.heap.size, 0, none⟩ = some _ := (cellO x4).trans rfl
    have y1 : W7.cell? ⟨w4.heap.size, 1, none⟩ = some _ := (cellO x4).trans rfl
    have y2 : W7.cell? ⟨w4.heap.size, 2, none⟩ = some _ := (cellO x4).trans rfl
    have y3 : W7.cell? ⟨w4.heap.size, 3, none⟩ = some _ := (cellO x4).trans rfl
    have z0 : W7.cell? ⟨w7.heap.size, 0, none⟩ = some _ := (cellO x7).trans rfl
    have z1 : W7.cell? ⟨w7.heap.size, 1, none⟩ = some _ := (cellO x7).trans rfl
    have z2 : W7.cell? ⟨w7.heap.size, 2, none⟩ = some _ := (cellO x7).trans rfl
    have z3 : W7.cell? ⟨w7.heap.size, 3, none⟩ = some _ := (cellO x7).trans rfl
    clear hb7 hlm2 hW7 b7 h47 x7 x4 P26 G6 XX4 L4 G4
    go_upto_region 9 with fail
    rw [Q7.out]
    clear Q7
    have SAME : Hid (r1 = r2 → Calls Tryz.prog 11 #[.agg #[.string (libOf r1).name, .slice ea1 nx1 ec1, .slice ia1 ni1 ic1, .slice ba1 nb1 bc1], .agg #[.string (libOf r2).name, .slice ea2 nx2 ec2, .slice ia2 ni2 ic2, .slice ba2 nb2 bc2]] W7 (YesB W7)) := fun hq => by
      have h7 := L7.out
      rw [← hq] at h7 ⊢
      exact same_any W7.heap.size (libOf r1) _ _ _ _ _ _ W7 (Nat.le_refl _) L47.out h7 MU1.out.1.e MU1.out.1.i MU1.out.2
    have EQ : Hid (¬ errOf r1 = 4 → ¬ errOf r2 = 4 → r1 = r2) := fun h1 h2 => by
      rcases SP.out with h | h | h
      · exact absurd (by rw [h]; rfl) h1
      · exact absurd (by rw [h]; rfl) h2
      · exact h
    have EE : Hid (r1 = r2 → errOf r1 = errOf r2) := fun h => by rw [h]
    generalize errOf r1 = x1 at EQ EE ⊢
    generalize errOf r2 = x2 at EQ EE ⊢
    clear SP L7 L47 MU1 HR1
    by_cases q1 : x1 = 4
    · subst q1
      go_wp2_with fail
      go_ret
      exact ⟨rfl, G7.out.old⟩
    · have g1 : decide (x1 = 4) = false := by simp [q1]
      have g2 : (x1 == 4) = false := by simp [q1]
      by_cases q2 : x2 = 4
      · subst q2
        go_wp2_with fail
        go_ret
        exact ⟨rfl, G7.out.old⟩
      · have g3 : decide (x2 = 4) = false := by simp [q2]
        have g4 : (x2 == 4) = false := by simp [q2]
        have hq := EQ.out q1 q2
        have SA := hidd (SAME.out hq)
        obtain rfl : x1 = x2 := EE.out hq
        clear hq SAME EQ EE
        go_wp2_with fail
        refine SA.out.mono ?_
        rintro e w8 ⟨rfl, hb8⟩
        have G8 : Hid (Below w.heap.size w w8) := G7.out.old.trans (hb8.mono G7.out.old.size)
        clear hb8 SA
        go_wp2_with fail
        go_ret
        exact ⟨rfl, G8.out⟩
  · have m0 : (word.toList == [98, 101, 103, 105, 110]) = false := by
      have k : (word.toList == bBegin.toList) = false := beqS_ne (by rw [hw]; decide)
      unfold bBegin at k
      simpa using k
    have m1 : (word.toList == [105, 109, 112, 111, 114, 116]) = true := by
      have k : (word.toList == bImport.toList) = true := by rw [hw]; simp
      unfold bImport at k
      simpa using k
    clear hw
    have RF := hidd (RowD.fresh v0)
    have G0 : Hid (Below w.heap.size w (v0.alloc (.cells #[] 26)) ∧ SB w (.slice a1 n1 c1) (.slice a2 n2 c2) (.slice a3 n3 c3) word (v0.alloc (.cells #[] 26)) ∧ Below v0.heap.size v0 (v0.alloc (.cells #[] 26))) := ⟨F0.out.old.alloc F0.out.old.size _, F0.out.below ((Below.refl _ _).alloc (Nat.le_refl _) _), (Below.refl _ _).alloc (Nat.le_refl _) _⟩
    go_wp2_with (at_builtin; refine wpList_rowD rfl _ _ rfl (B := v0.heap.size) (v := .slice (some ⟨v0.heap.size, 0, none⟩) 0 0) (es := []) (by exact RF.out) (W0 := w) (F := Fa) (a := aa) (l := la) (cap := ca) rfl (by rw [← NA.out]; rfl) DA.out G0.out.1 F0.out.old.size G0.out.2.2.size (by have := LA.out; simp; omega) ?_)
    intro v1 w1 fs hfs hr1 hb1 hkf1
    have G1 : Hid (Below w.heap.size w w1 ∧ SB w (.slice a1 n1 c1) (.slice a2 n2 c2) (.slice a3 n3 c3) word w1 ∧ Below v0.heap.size v0 w1) := by
      have h2 := G0.out.2.2.trans hb1
      exact ⟨F0.out.old.trans (h2.mono F0.out.old.size), F0.out.below h2, h2⟩
    have R1 : Hid (RowD v0.heap.size v1 fs w1 ∧ fs.map (·.1) = la) := ⟨hr1, hfs⟩
    clear hr1 hb1 hkf1 hfs RF G0
    go_wp2_with (at_builtin; refine wpList_rowD rfl _ _ rfl (B := v0.heap.size) (v := v1) (es := fs) (by exact R1.out.1) (W0 := w) (F := Fb) (a := ab) (l := lb) (cap := cb) rfl (by rw [← NB.out]; rfl) DB.out G1.out.1 F0.out.old.size G1.out.2.2.size (by have h1 := congrArg List.length R1.out.2; have h2 := LA.out; have h3 := LB.out; rw [List.length_map] at h1; omega) ?_)
    intro v2 w2 gs hgs hr2 hb2 hkf2
    obtain ⟨va, vc, vf, hva, hvc, hdd⟩ := hr2.lieN (by have h1 := congrArg List.length R1.out.2; have h4 := congrArg List.length hgs; have h2 := LA.out; have h3 := LB.out; rw [List.length_map] at h1 h4; rw [List.length_append]; omega)
    have hmp : List.map (fun x : Dat × Option Addr × Nat => x.1) (fs ++ gs) = la ++ lb := by rw [List.map_append, R1.out.2, hgs]
    rw [hmp] at hva hvc hdd
    subst hva
    have G2 : Hid (Below w.heap.size w w2 ∧ SB w (.slice a1 n1 c1) (.slice a2 n2 c2) (.slice a3 n3 c3) word w2) := by
      have h2 := G1.out.2.2.trans hb2
      exact ⟨F0.out.old.trans (h2.mono F0.out.old.size), F0.out.below h2⟩
    have W25 := hidd (WC.out w2 (la ++ lb) va vc vf G2.out.2 HW.out hdd (by have h2 := LA.out; have h3 := LB.out; rw [List.length_append]; omega))
    obtain ⟨D1, hD1⟩ : ∃ D1, D1 = liD (syD word :: (la ++ lb)) := ⟨_, rfl⟩
    obtain ⟨m, hm⟩ : ∃ m, m = (la ++ lb).length := ⟨_, rfl⟩
    rw [← hD1, ← hm] at W25
    rw [← hm]
    have N1 : Hid (D1.name.size ≤ maxLen) := by rw [hD1]; exact Nat.zero_le _
    have HD1 := hidd hD1
    clear hD1 hm hr2 hb2 hkf2 hgs hvc hdd hmp R1 G1
    go_wp2_with fail
    refine W25.out.mono ?_
    rintro e w3 ⟨hb3, da1, dc1, df1, rfl, hdc1, hdd1⟩
    have G3 : Hid (SB w (.slice a1 n1 c1) (.slice a2 n2 c2) (.slice a3 n3 c3) word w3 ∧ SB w (.slice a1 n1 c1) (.slice a2 n2 c2) (.slice a3 n3 c3) word (w3.alloc (.cells #[.int .i64 D1.kind, .int .i64 D1.n, .string D1.name, .int .i64 D1.stamp, .int .i64 D1.lib, .slice da1 D1.kids.length dc1] 26))) := ⟨G2.out.2.below hb3, (G2.out.2.below hb3).below ((Below.refl _ _).alloc (Nat.le_refl _) _)⟩
    have P26 : Hid (Calls Tryz.prog 26 #[.slice (some ⟨w3.heap.size, 0, none⟩) 1 1, .pointer (some ⟨w.heap.size, 0, none⟩), .pointer (some ⟨w.heap.size + 1, 0, none⟩), .pointer (some ⟨w.heap.size + 1 + 1, 0, none⟩)] (w3.alloc (.cells #[.int .i64 D1.kind, .int .i64 D1.n, .string D1.name, .int .i64 D1.stamp, .int .i64 D1.lib, .slice da1 D1.kids.length dc1] 26)) (ToldQ (parseF E (libM [D1])) (w3.alloc (.cells #[.int .i64 D1.kind, .int .i64 D1.n, .string D1.name, .int .i64 D1.stamp, .int .i64 D1.lib, .slice da1 D1.kids.length dc1] 26)))) := by
      obtain ⟨f, hf⟩ := Dn.made w3 [(D1, da1, dc1)] (by simp) (by intro e he; simp at he; subst he; exact ⟨N1.out, hdc1, df1, hdd1⟩)
      exact PC.out _ [D1] _ 1 f G3.out.2 hf (by simp)
    obtain ⟨r1, hr1⟩ : ∃ r1, r1 = parseF E (libM [D1]) := ⟨_, rfl⟩
    rw [← hr1] at P26
    have HR1 : Hid (r1 = parseF E (libM [liD (syD word :: (la ++ lb))])) := by rw [← HD1.out]; exact hr1
    have MU1 : Hid (Inv (libOf r1) ∧ seOkL (libOf r1).imports) := by rw [hr1]; exact libOf_much E _
    clear hr1 hb3 hdc1 hdd1 W25 G2
    unfold dv
    go_wp2_with fail
    refine P26.out.mono ?_
    rintro e w4 ⟨hb4, ea1, nx1, ec1, ia1, ni1, ic1, ba1, nb1, bc1, rfl, hlm1⟩
    obtain ⟨W4, hW4⟩ : ∃ W4, W4 = w4.alloc (.cells #[.string (libOf r1).name, .slice ea1 nx1 ec1, .slice ia1 ni1 ic1, .slice ba1 nb1 bc1] 30) := ⟨_, rfl⟩
    have b4 : Below w4.heap.size w4 W4 := by rw [hW4]; exact (Below.refl _ _).alloc (Nat.le_refl _) _
    have G4 : Hid (SB w (.slice a1 n1 c1) (.slice a2 n2 c2) (.slice a3 n3 c3) word W4) := (G3.out.2.below hb4).below b4
    have x4 : W4.heap[w4.heap.size]? = some (.cells #[.string (libOf r1).name, .slice ea1 nx1 ec1, .slice ia1 ni1 ic1, .slice ba1 nb1 bc1] 30 (0, 0)) := by rw [hW4]; exact World.alloc_heap_new w4 _
    have L4 : Hid (LibM (fun k => k < W4.heap.size) (libOf r1) (.slice ea1 nx1 ec1) (.slice ia1 ni1 ic1) (.slice ba1 nb1 bc1) W4) := hlm1.stay (fun k hk => b4.block k hk.2) (fun k hk => Nat.lt_of_lt_of_le hk.2 b4.size)
    have XX4 := hidd x4
    have Q4 := hidd hW4.symm
    have W25a := hidd (WC.out W4 la aa ca Fa G4.out HW.out (DA.out.lift G4.out.old) (by have := LA.out; omega))
    obtain ⟨D2, hD2⟩ : ∃ D2, D2 = liD (syD word :: la) := ⟨_, rfl⟩
    rw [← hD2, ← NA.out] at W25a
    have N2 : Hid (D2.name.size ≤ maxLen) := by rw [hD2]; exact Nat.zero_le _
    have HD2 := hidd hD2
    clear hD2 hb4 hlm1 hW4 b4 x4 P26 G3
    go_wp2_with fail
    show Calls Tryz.prog 25 _ (w4.alloc (.cells #[.string (libOf r1).name, .slice ea1 nx1 ec1, .slice ia1 ni1 ic1, .slice ba1 nb1 bc1] 30)) _
    rw [Q4.out]
    refine W25a.out.mono ?_
    rintro e w5 ⟨hb5, da2, dc2, df2, rfl, hdc2, hdd2⟩
    have G5 : Hid (SB w (.slice a1 n1 c1) (.slice a2 n2 c2) (.slice a3 n3 c3) word w5 ∧ Below W4.heap.size W4 w5 ∧ D2.kids.length ≤ dc2 ∧ Dn w5 df2 da2 D2.kids) := ⟨G4.out.below hb5, hb5, hdc2, hdd2⟩
    have W25b := hidd (WC.out w5 lb ab cb Fb G5.out.1 HW.out (DB.out.lift G5.out.1.old) (by have := LB.out; omega))
    obtain ⟨D3, hD3⟩ : ∃ D3, D3 = liD (syD word :: lb) := ⟨_, rfl⟩
    rw [← hD3, ← NB.out] at W25b
    have N3 : Hid (D3.name.size ≤ maxLen) := by rw [hD3]; exact Nat.zero_le _
    have HD3 := hidd hD3
    clear hD3 hb5 hdc2 hdd2 Q4 W25a
    unfold dv
    go_wp2_with fail
    refine W25b.out.mono ?_
    rintro e w6 ⟨hb6, da3, dc3, df3, rfl, hdc3, hdd3⟩
    have b6 : Below w6.heap.size w6 (w6.alloc (.cells #[.int .i64 D2.kind, .int .i64 D2.n, .string D2.name, .int .i64 D2.stamp, .int .i64 D2.lib, .slice da2 D2.kids.length dc2, .int .i64 D3.kind, .int .i64 D3.n, .string D3.name, .int .i64 D3.stamp, .int .i64 D3.lib, .slice da3 D3.kids.length dc3] 26)) := (Below.refl _ _).alloc (Nat.le_refl _) _
    have G6 : Hid (SB w (.slice a1 n1 c1) (.slice a2 n2 c2) (.slice a3 n3 c3) word (w6.alloc (.cells #[.int .i64 D2.kind, .int .i64 D2.n, .string D2.name, .int .i64 D2.stamp, .int .i64 D2.lib, .slice da2 D2.kids.length dc2, .int .i64 D3.kind, .int .i64 D3.n, .string D3.name, .int .i64 D3.stamp, .int .i64 D3.lib, .slice da3 D3.kids.length dc3] 26)) ∧ Below W4.heap.size W4 (w6.alloc (.cells #[.int .i64 D2.kind, .int .i64 D2.n, .string D2.name, .int .i64 D2.stamp, .int .i64 D2.lib, .slice da2 D2.kids.length dc2, .int .i64 D3.kind, .int .i64 D3.n, .string D3.name, .int .i64 D3.stamp, .int .i64 D3.lib, .slice da3 D3.kids.length dc3] 26))) := ⟨(G5.out.1.below hb6).below b6, (G5.out.2.1.trans (hb6.mono G5.out.2.1.size)).trans (b6.mono (Nat.le_trans G5.out.2.1.size hb6.size))⟩
    have P26 : Hid (Calls Tryz.prog 26 #[.slice (some ⟨w6.heap.size, 0, none⟩) 2 2, .pointer (some ⟨w.heap.size, 0, none⟩), .pointer (some ⟨w.heap.size + 1, 0, none⟩), .pointer (some ⟨w.heap.size + 1 + 1, 0, none⟩)] (w6.alloc (.cells #[.int .i64 D2.kind, .int .i64 D2.n, .string D2.name, .int .i64 D2.stamp, .int .i64 D2.lib, .slice da2 D2.kids.length dc2, .int .i64 D3.kind, .int .i64 D3.n, .string D3.name, .int .i64 D3.stamp, .int .i64 D3.lib, .slice da3 D3.kids.length dc3] 26)) (ToldQ (parseF E (libM [D2, D3])) (w6.alloc (.cells #[.int .i64 D2.kind, .int .i64 D2.n, .string D2.name, .int .i64 D2.stamp, .int .i64 D2.lib, .slice da2 D2.kids.length dc2, .int .i64 D3.kind, .int .i64 D3.n, .string D3.name, .int .i64 D3.stamp, .int .i64 D3.lib, .slice da3 D3.kids.length dc3] 26)))) := by
      obtain ⟨f, hf⟩ := Dn.made w6 [(D2, da2, dc2), (D3, da3, dc3)] (by simp) (by
        intro e he
        simp at he
        rcases he with rfl | rfl
        · exact ⟨N2.out, G5.out.2.2.1, df2, G5.out.2.2.2.lift hb6⟩
        · exact ⟨N3.out, hdc3, df3, hdd3⟩)
      exact PC.out _ [D2, D3] _ 2 f G6.out.1 hf (by simp)
    obtain ⟨r2, hr2⟩ : ∃ r2, r2 = parseF E (libM [D2, D3]) := ⟨_, rfl⟩
    rw [← hr2] at P26
    have SP : Hid (r1 = .no 4 ∨ r2 = .no 4 ∨ r1 = r2) := by
      have := split_plain E HW.out la lb
      rw [HR1.out, hr2, HD2.out, HD3.out]
      exact this
    clear hr2 hb6 hdc3 hdd3 b6 W25b G5
    unfold dv
    go_wp2_with fail
    refine P26.out.mono ?_
    rintro e w7 ⟨hb7, ea2, nx2, ec2, ia2, ni2, ic2, ba2, nb2, bc2, rfl, hlm2⟩
    obtain ⟨W7, hW7⟩ : ∃ W7, W7 = w7.alloc (.cells #[.string (libOf r2).name, .slice ea2 nx2 ec2, .slice ia2 ni2 ic2, .slice ba2 nb2 bc2] 30) := ⟨_, rfl⟩
    have b7 : Below w7.heap.size w7 W7 := by rw [hW7]; exact (Below.refl _ _).alloc (Nat.le_refl _) _
    have h47 : Below W4.heap.size W4 W7 := (G6.out.2.trans (hb7.mono G6.out.2.size)).trans (b7.mono (Nat.le_trans G6.out.2.size hb7.size))
    have G7 : Hid (SB w (.slice a1 n1 c1) (.slice a2 n2 c2) (.slice a3 n3 c3) word W7) := (G6.out.1.below hb7).below b7
    have x7 : W7.heap[w7.heap.size]? = some (.cells #[.string (libOf r2).name, .slice ea2 nx2 ec2, .slice ia2 ni2 ic2, .slice ba2 nb2 bc2] 30 (0, 0)) := by rw [hW7]; exact World.alloc_heap_new w7 _
    have x4 : W7.heap[w4.heap.size]? = some (.cells #[.string (libOf r1).name, .slice ea1 nx1 ec1, .slice ia1 ni1 ic1, .slice ba1 nb1 bc1] 30 (0, 0)) := (h47.block _ (Array.getElem?_eq_some_iff.1 XX4.out).1).trans XX4.out
    have L7 : Hid (LibM (fun k => k < W7.heap.size) (libOf r2) (.slice ea2 nx2 ec2) (.slice ia2 ni2 ic2) (.slice ba2 nb2 bc2) W7) := hlm2.stay (fun k hk => b7.block k hk.2) (fun k hk => Nat.lt_of_lt_of_le hk.2 b7.size)
    have L47 : Hid (LibM (fun k => k < W7.heap.size) (libOf r1) (.slice ea1 nx1 ec1) (.slice ia1 ni1 ic1) (.slice ba1 nb1 bc1) W7) := L4.out.stay (fun k hk => h47.block k hk) (fun k hk => Nat.lt_of_lt_of_le hk h47.size)
    have Q7 := hidd hW7.symm
    have y0 : W7.cell? ⟨w4.heap.size, 0, none⟩ = some _ := (cellO x4).trans rfl
    have y1 : W7.cell? ⟨w4.heap.size, 1, none⟩ = some _ := (cellO x4).trans rfl
    have y2 : W7.cell? ⟨w4.heap.size, 2, none⟩ = some _ := (cellO x4).trans rfl
    have y3 : W7.cell? ⟨w4.heap.size, 3, none⟩ = some _ := (cellO x4).trans rfl
    have z0 : W7.cell? ⟨w7.heap.size, 0, none⟩ = some _ := (cellO x7).trans rfl
    have z1 : W7.cell? ⟨w7.heap.size, 1, none⟩ = some _ := (cellO x7).trans rfl
    have z2 : W7.cell? ⟨w7.heap.size, 2, none⟩ = some _ := (cellO x7).trans rfl
    have z3 : W7.cell? ⟨w7.heap.size, 3, none⟩ = some _ := (cellO x7).trans rfl
    clear hb7 hlm2 hW7 b7 h47 x7 x4 P26 G6 XX4 L4 G4
    go_upto_region 9 with fail
    rw [Q7.out]
    clear Q7
    have SAME : Hid (r1 = r2 → Calls Tryz.prog 11 #[.agg #[.string (libOf r1).name, .slice ea1 nx1 ec1, .slice ia1 ni1 ic1, .slice ba1 nb1 bc1], .agg #[.string (libOf r2).name, .slice ea2 nx2 ec2, .slice ia2 ni2 ic2, .slice ba2 nb2 bc2]] W7 (YesB W7)) := fun hq => by
      have h7 := L7.out
      rw [← hq] at h7 ⊢
      exact same_any W7.heap.size (libOf r1) _ _ _ _ _ _ W7 (Nat.le_refl _) L47.out h7 MU1.out.1.e MU1.out.1.i MU1.out.2
    have EQ : Hid (¬ errOf r1 = 4 → ¬ errOf r2 = 4 → r1 = r2) := fun h1 h2 => by
      rcases SP.out with h | h | h
      · exact absurd (by rw [h]; rfl) h1
      · exact absurd (by rw [h]; rfl) h2
      · exact h
    have EE : Hid (r1 = r2 → errOf r1 = errOf r2) := fun h => by rw [h]
    generalize errOf r1 = x1 at EQ EE ⊢
    generalize errOf r2 = x2 at EQ EE ⊢
    clear SP L7 L47 MU1 HR1
    by_cases q1 : x1 = 4
    · subst q1
      go_wp2_with fail
      go_ret
      exact ⟨rfl, G7.out.old⟩
    · have g1 : decide (x1 = 4) = false := by simp [q1]
      have g2 : (x1 == 4) = false := by simp [q1]
      by_cases q2 : x2 = 4
      · subst q2
        go_wp2_with fail
        go_ret
        exact ⟨rfl, G7.out.old⟩
      · have g3 : decide (x2 = 4) = false := by simp [q2]
        have g4 : (x2 == 4) = false := by simp [q2]
        have hq := EQ.out q1 q2
        have SA := hidd (SAME.out hq)
        obtain rfl : x1 = x2 := EE.out hq
        clear hq SAME EQ EE
        go_wp2_with fail
        refine SA.out.mono ?_
        rintro e w8 ⟨rfl, hb8⟩
        have G8 : Hid (Below w.heap.size w w8) := G7.out.old.trans (hb8.mono G7.out.old.size)
        clear hb8 SA
        go_wp2_with fail
        go_ret
        exact ⟨rfl, G8.out⟩
  · have m0 : (word.toList == [98, 101, 103, 105, 110]) = false := by
      have k : (word.toList == bBegin.toList) = false := beqS_ne (by rw [hw]; decide)
      unfold bBegin at k
      simpa using k
    have m1 : (word.toList == [105, 109, 112, 111, 114, 116]) = false := by
      have k : (word.toList == bImport.toList) = false := beqS_ne (by rw [hw]; decide)
      unfold bImport at k
      simpa using k
    have m2 : (word.toList == [105, 110, 99, 108, 117, 100, 101]) = true := by
      have k : (word.toList == bInclude.toList) = true := by rw [hw]; simp
      unfold bInclude at k
      simpa using k
    clear hw
    have RF := hidd (RowD.fresh v0)
    have G0 : Hid (Below w.heap.size w (v0.alloc (.cells #[] 26)) ∧ SB w (.slice a1 n1 c1) (.slice a2 n2 c2) (.slice a3 n3 c3) word (v0.alloc (.cells #[] 26)) ∧ Below v0.heap.size v0 (v0.alloc (.cells #[] 26))) := ⟨F0.out.old.alloc F0.out.old.size _, F0.out.below ((Below.refl _ _).alloc (Nat.le_refl _) _), (Below.refl _ _).alloc (Nat.le_refl _) _⟩
    go_wp2_with (at_builtin; refine wpList_rowD rfl _ _ rfl (B := v0.heap.size) (v := .slice (some ⟨v0.heap.size, 0, none⟩) 0 0) (es := []) (by exact RF.out) (W0 := w) (F := Fa) (a := aa) (l := la) (cap := ca) rfl (by rw [← NA.out]; rfl) DA.out G0.out.1 F0.out.old.size G0.out.2.2.size (by have := LA.out; simp; omega) ?_)
    intro v1 w1 fs hfs hr1 hb1 hkf1
    have G1 : Hid (Below w.heap.size w w1 ∧ SB w (.slice a1 n1 c1) (.slice a2 n2 c2) (.slice a3 n3 c3) word w1 ∧ Below v0.heap.size v0 w1) := by
      have h2 := G0.out.2.2.trans hb1
      exact ⟨F0.out.old.trans (h2.mono F0.out.old.size), F0.out.below h2, h2⟩
    have R1 : Hid (RowD v0.heap.size v1 fs w1 ∧ fs.map (·.1) = la) := ⟨hr1, hfs⟩
    clear hr1 hb1 hkf1 hfs RF G0
    go_wp2_with (at_builtin; refine wpList_rowD rfl _ _ rfl (B := v0.heap.size) (v := v1) (es := fs) (by exact R1.out.1) (W0 := w) (F := Fb) (a := ab) (l := lb) (cap := cb) rfl (by rw [← NB.out]; rfl) DB.out G1.out.1 F0.out.old.size G1.out.2.2.size (by have h1 := congrArg List.length R1.out.2; have h2 := LA.out; have h3 := LB.out; rw [List.length_map] at h1; omega) ?_)
    intro v2 w2 gs hgs hr2 hb2 hkf2
    obtain ⟨va, vc, vf, hva, hvc, hdd⟩ := hr2.lieN (by have h1 := congrArg List.length R1.out.2; have h4 := congrArg List.length hgs; have h2 := LA.out; have h3 := LB.out; rw [List.length_map] at h1 h4; rw [List.length_append]; omega)
    have hmp : List.map (fun x : Dat × Option Addr × Nat => x.1) (fs ++ gs) = la ++ lb := by rw [List.map_append, R1.out.2, hgs]
    rw [hmp] at hva hvc hdd
    subst hva
    have G2 : Hid (Below w.heap.size w w2 ∧ SB w (.slice a1 n1 c1) (.slice a2 n2 c2) (.slice a3 n3 c3) word w2) := by
      have h2 := G1.out.2.2.trans hb2
      exact ⟨F0.out.old.trans (h2.mono F0.out.old.size), F0.out.below h2⟩
    have W25 := hidd (WC.out w2 (la ++ lb) va vc vf G2.out.2 HW.out hdd (by have h2 := LA.out; have h3 := LB.out; rw [List.length_append]; omega))
    obtain ⟨D1, hD1⟩ : ∃ D1, D1 = liD (syD word :: (la ++ lb)) := ⟨_, rfl⟩
    obtain ⟨m, hm⟩ : ∃ m, m = (la ++ lb).length := ⟨_, rfl⟩
    rw [← hD1, ← hm] at W25
    rw [← hm]
    have N1 : Hid (D1.name.size ≤ maxLen) := by rw [hD1]; exact Nat.zero_le _
    have HD1 := hidd hD1
    clear hD1 hm hr2 hb2 hkf2 hgs hvc hdd hmp R1 G1
    go_wp2_with fail
    refine W25.out.mono ?_
    rintro e w3 ⟨hb3, da1, dc1, df1, rfl, hdc1, hdd1⟩
    have G3 : Hid (SB w (.slice a1 n1 c1) (.slice a2 n2 c2) (.slice a3 n3 c3) word w3 ∧ SB w (.slice a1 n1 c1) (.slice a2 n2 c2) (.slice a3 n3 c3) word (w3.alloc (.cells #[.int .i64 D1.kind, .int .i64 D1.n, .string D1.name, .int .i64 D1.stamp, .int .i64 D1.lib, .slice da1 D1.kids.length dc1] 26))) := ⟨G2.out.2.below hb3, (G2.out.2.below hb3).below ((Below.refl _ _).alloc (Nat.le_refl _) _)⟩
    have P26 : Hid (Calls Tryz.prog 26 #[.slice (some ⟨w3.heap.size, 0, none⟩) 1 1, .pointer (some ⟨w.heap.size, 0, none⟩), .pointer (some ⟨w.heap.size + 1, 0, none⟩), .pointer (some ⟨w.heap.size + 1 + 1, 0, none⟩)] (w3.alloc (.cells #[.int .i64 D1.kind, .int .i64 D1.n, .string D1.name, .int .i64 D1.stamp, .int .i64 D1.lib, .slice da1 D1.kids.length dc1] 26)) (ToldQ (parseF E (libM [D1])) (w3.alloc (.cells #[.int .i64 D1.kind, .int .i64 D1.n, .string D1.name, .int .i64 D1.stamp, .int .i64 D1.lib, .slice da1 D1.kids.length dc1] 26)))) := by
      obtain ⟨f, hf⟩ := Dn.made w3 [(D1, da1, dc1)] (by simp) (by intro e he; simp at he; subst he; exact ⟨N1.out, hdc1, df1, hdd1⟩)
      exact PC.out _ [D1] _ 1 f G3.out.2 hf (by simp)
    obtain ⟨r1, hr1⟩ : ∃ r1, r1 = parseF E (libM [D1]) := ⟨_, rfl⟩
    rw [← hr1] at P26
    have HR1 : Hid (r1 = parseF E (libM [liD (syD word :: (la ++ lb))])) := by rw [← HD1.out]; exact hr1
    have MU1 : Hid (Inv (libOf r1) ∧ seOkL (libOf r1).imports) := by rw [hr1]; exact libOf_much E _
    clear hr1 hb3 hdc1 hdd1 W25 G2
    unfold dv
    go_wp2_with fail
    refine P26.out.mono ?_
    rintro e w4 ⟨hb4, ea1, nx1, ec1, ia1, ni1, ic1, ba1, nb1, bc1, rfl, hlm1⟩
    obtain ⟨W4, hW4⟩ : ∃ W4, W4 = w4.alloc (.cells #[.string (libOf r1).name, .slice ea1 nx1 ec1, .slice ia1 ni1 ic1, .slice ba1 nb1 bc1] 30) := ⟨_, rfl⟩
    have b4 : Below w4.heap.size w4 W4 := by rw [hW4]; exact (Below.refl _ _).alloc (Nat.le_refl _) _
    have G4 : Hid (SB w (.slice a1 n1 c1) (.slice a2 n2 c2) (.slice a3 n3 c3) word W4) := (G3.out.2.below hb4).below b4
    have x4 : W4.heap[w4.heap.size]? = some (.cells #[.string (libOf r1).name, .slice ea1 nx1 ec1, .slice ia1 ni1 ic1, .slice ba1 nb1 bc1] 30 (0, 0)) := by rw [hW4]; exact World.alloc_heap_new w4 _
    have L4 : Hid (LibM (fun k => k < W4.heap.size) (libOf r1) (.slice ea1 nx1 ec1) (.slice ia1 ni1 ic1) (.slice ba1 nb1 bc1) W4) := hlm1.stay (fun k hk => b4.block k hk.2) (fun k hk => Nat.lt_of_lt_of_le hk.2 b4.size)
    have XX4 := hidd x4
    have Q4 := hidd hW4.symm
    have W25a := hidd (WC.out W4 la aa ca Fa G4.out HW.out (DA.out.lift G4.out.old) (by have := LA.out; omega))
    obtain ⟨D2, hD2⟩ : ∃ D2, D2 = liD (syD word :: la) := ⟨_, rfl⟩
    rw [← hD2, ← NA.out] at W25a
    have N2 : Hid (D2.name.size ≤ maxLen) := by rw [hD2]; exact Nat.zero_le _
    have HD2 := hidd hD2
    clear hD2 hb4 hlm1 hW4 b4 x4 P26 G3
    go_wp2_with fail
    show Calls Tryz.prog 25 _ (w4.alloc (.cells #[.string (libOf r1).name, .slice ea1 nx1 ec1, .slice ia1 ni1 ic1, .slice ba1 nb1 bc1] 30)) _
    rw [Q4.out]
    refine W25a.out.mono ?_
    rintro e w5 ⟨hb5, da2, dc2, df2, rfl, hdc2, hdd2⟩
    have G5 : Hid (SB w (.slice a1 n1 c1) (.slice a2 n2 c2) (.slice a3 n3 c3) word w5 ∧ Below W4.heap.size W4 w5 ∧ D2.kids.length ≤ dc2 ∧ Dn w5 df2 da2 D2.kids) := ⟨G4.out.below hb5, hb5, hdc2, hdd2⟩
    have W25b := hidd (WC.out w5 lb ab cb Fb G5.out.1 HW.out (DB.out.lift G5.out.1.old) (by have := LB.out; omega))
    obtain ⟨D3, hD3⟩ : ∃ D3, D3 = liD (syD word :: lb) := ⟨_, rfl⟩
    rw [← hD3, ← NB.out] at W25b
    have N3 : Hid (D3.name.size ≤ maxLen) := by rw [hD3]; exact Nat.zero_le _
    have HD3 := hidd hD3
    clear hD3 hb5 hdc2 hdd2 Q4 W25a
    unfold dv
    go_wp2_with fail
    refine W25b.out.mono ?_
    rintro e w6 ⟨hb6, da3, dc3, df3, rfl, hdc3, hdd3⟩
    have b6 : Below w6.heap.size w6 (w6.alloc (.cells #[.int .i64 D2.kind, .int .i64 D2.n, .string D2.name, .int .i64 D2.stamp, .int .i64 D2.lib, .slice da2 D2.kids.length dc2, .int .i64 D3.kind, .int .i64 D3.n, .string D3.name, .int .i64 D3.stamp, .int .i64 D3.lib, .slice da3 D3.kids.length dc3] 26)) := (Below.refl _ _).alloc (Nat.le_refl _) _
    have G6 : Hid (SB w (.slice a1 n1 c1) (.slice a2 n2 c2) (.slice a3 n3 c3) word (w6.alloc (.cells #[.int .i64 D2.kind, .int .i64 D2.n, .string D2.name, .int .i64 D2.stamp, .int .i64 D2.lib, .slice da2 D2.kids.length dc2, .int .i64 D3.kind, .int .i64 D3.n, .string D3.name, .int .i64 D3.stamp, .int .i64 D3.lib, .slice da3 D3.kids.length dc3] 26)) ∧ Below W4.heap.size W4 (w6.alloc (.cells #[.int .i64 D2.kind, .int .i64 D2.n, .string D2.name, .int .i64 D2.stamp, .int .i64 D2.lib, .slice da2 D2.kids.length dc2, .int .i64 D3.kind, .int .i64 D3.n, .string D3.name, .int .i64 D3.stamp, .int .i64 D3.lib, .slice da3 D3.kids.length dc3] 26))) := ⟨(G5.out.1.below hb6).below b6, (G5.out.2.1.trans (hb6.mono G5.out.2.1.size)).trans (b6.mono (Nat.le_trans G5.out.2.1.size hb6.size))⟩
    have P26 : Hid (Calls Tryz.prog 26 #[.slice (some ⟨w6.heap.size, 0, none⟩) 2 2, .pointer (some ⟨w.heap.size, 0, none⟩), .pointer (some ⟨w.heap.size + 1, 0, none⟩), .pointer (some ⟨w.heap.size + 1 + 1, 0, none⟩)] (w6.alloc (.cells #[.int .i64 D2.kind, .int .i64 D2.n, .string D2.name, .int .i64 D2.stamp, .int .i64 D2.lib, .slice da2 D2.kids.length dc2, .int .i64 D3.kind, .int .i64 D3.n, .string D3.name, .int .i64 D3.stamp, .int .i64 D3.lib, .slice da3 D3.kids.length dc3] 26)) (ToldQ (parseF E (libM [D2, D3])) (w6.alloc (.cells #[.int .i64 D2.kind, .int .i64 D2.n, .string D2.name, .int .i64 D2.stamp, .int .i64 D2.lib, .slice da2 D2.kids.length dc2, .int .i64 D3.kind, .int .i64 D3.n, .string D3.name, .int .i64 D3.stamp, .int .i64 D3.lib, .slice da3 D3.kids.length dc3] 26)))) := by
      obtain ⟨f, hf⟩ := Dn.made w6 [(D2, da2, dc2), (D3, da3, dc3)] (by simp) (by
        intro e he
        simp at he
        rcases he with rfl | rfl
        · exact ⟨N2.out, G5.out.2.2.1, df2, G5.out.2.2.2.lift hb6⟩
        · exact ⟨N3.out, hdc3, df3, hdd3⟩)
      exact PC.out _ [D2, D3] _ 2 f G6.out.1 hf (by simp)
    obtain ⟨r2, hr2⟩ : ∃ r2, r2 = parseF E (libM [D2, D3]) := ⟨_, rfl⟩
    rw [← hr2] at P26
    have SP : Hid (r1 = .no 4 ∨ r2 = .no 4 ∨ r1 = r2) := by
      have := split_plain E HW.out la lb
      rw [HR1.out, hr2, HD2.out, HD3.out]
      exact this
    clear hr2 hb6 hdc3 hdd3 b6 W25b G5
    unfold dv
    go_wp2_with fail
    refine P26.out.mono ?_
    rintro e w7 ⟨hb7, ea2, nx2, ec2, ia2, ni2, ic2, ba2, nb2, bc2, rfl, hlm2⟩
    obtain ⟨W7, hW7⟩ : ∃ W7, W7 = w7.alloc (.cells #[.string (libOf r2).name, .slice ea2 nx2 ec2, .slice ia2 ni2 ic2, .slice ba2 nb2 bc2] 30) := ⟨_, rfl⟩
    have b7 : Below w7.heap.size w7 W7 := by rw [hW7]; exact (Below.refl _ _).alloc (Nat.le_refl _) _
    have h47 : Below W4.heap.size W4 W7 := (G6.out.2.trans (hb7.mono G6.out.2.size)).trans (b7.mono (Nat.le_trans G6.out.2.size hb7.size))
    have G7 : Hid (SB w (.slice a1 n1 c1) (.slice a2 n2 c2) (.slice a3 n3 c3) word W7) := (G6.out.1.below hb7).below b7
    have x7 : W7.heap[w7.heap.size]? = some (.cells #[.string (libOf r2).name, .slice ea2 nx2 ec2, .slice ia2 ni2 ic2, .slice ba2 nb2 bc2] 30 (0, 0)) := by rw [hW7]; exact World.alloc_heap_new w7 _
    have x4 : W7.heap[w4.heap.size]? = some (.cells #[.string (libOf r1).name, .slice ea1 nx1 ec1, .slice ia1 ni1 ic1, .slice ba1 nb1 bc1] 30 (0, 0)) := (h47.block _ (Array.getElem?_eq_some_iff.1 XX4.out).1).trans XX4.out
    have L7 : Hid (LibM (fun k => k < W7.heap.size) (libOf r2) (.slice ea2 nx2 ec2) (.slice ia2 ni2 ic2) (.slice ba2 nb2 bc2) W7) := hlm2.stay (fun k hk => b7.block k hk.2) (fun k hk => Nat.lt_of_lt_of_le hk.2 b7.size)
    have L47 : Hid (LibM (fun k => k < W7.heap.size) (libOf r1) (.slice ea1 nx1 ec1) (.slice ia1 ni1 ic1) (.slice ba1 nb1 bc1) W7) := L4.out.stay (fun k hk => h47.block k hk) (fun k hk => Nat.lt_of_lt_of_le hk h47.size)
    have Q7 := hidd hW7.symm
    have y0 : W7.cell? ⟨w4.heap.size, 0, none⟩ = some _ := (cellO x4).trans rfl
    have y1 : W7.cell? ⟨w4.heap.size, 1, none⟩ = some _ := (cellO x4).trans rfl
    have y2 : W7.cell? ⟨w4.heap.size, 2, none⟩ = some _ := (cellO x4).trans rfl
    have y3 : W7.cell? ⟨w4.heap.size, 3, none⟩ = some _ := (cellO x4).trans rfl
    have z0 : W7.cell? ⟨w7.heap.size, 0, none⟩ = some _ := (cellO x7).trans rfl
    have z1 : W7.cell? ⟨w7.heap.size, 1, none⟩ = some _ := (cellO x7).trans rfl
    have z2 : W7.cell? ⟨w7.heap.size, 2, none⟩ = some _ := (cellO x7).trans rfl
    have z3 : W7.cell? ⟨w7.heap.size, 3, none⟩ = some _ := (cellO x7).trans rfl
    clear hb7 hlm2 hW7 b7 h47 x7 x4 P26 G6 XX4 L4 G4
    go_upto_region 9 with fail
    rw [Q7.out]
    clear Q7
    have SAME : Hid (r1 = r2 → Calls Tryz.prog 11 #[.agg #[.string (libOf r1).name, .slice ea1 nx1 ec1, .slice ia1 ni1 ic1, .slice ba1 nb1 bc1], .agg #[.string (libOf r2).name, .slice ea2 nx2 ec2, .slice ia2 ni2 ic2, .slice ba2 nb2 bc2]] W7 (YesB W7)) := fun hq => by
      have h7 := L7.out
      rw [← hq] at h7 ⊢
      exact same_any W7.heap.size (libOf r1) _ _ _ _ _ _ W7 (Nat.le_refl _) L47.out h7 MU1.out.1.e MU1.out.1.i MU1.out.2
    have EQ : Hid (¬ errOf r1 = 4 → ¬ errOf r2 = 4 → r1 = r2) := fun h1 h2 => by
      rcases SP.out with h | h | h
      · exact absurd (by rw [h]; rfl) h1
      · exact absurd (by rw [h]; rfl) h2
      · exact h
    have EE : Hid (r1 = r2 → errOf r1 = errOf r2) := fun h => by rw [h]
    generalize errOf r1 = x1 at EQ EE ⊢
    generalize errOf r2 = x2 at EQ EE ⊢
    clear SP L7 L47 MU1 HR1
    by_cases q1 : x1 = 4
    · subst q1
      go_wp2_with fail
      go_ret
      exact ⟨rfl, G7.out.old⟩
    · have g1 : decide (x1 = 4) = false := by simp [q1]
      have g2 : (x1 == 4) = false := by simp [q1]
      by_cases q2 : x2 = 4
      · subst q2
        go_wp2_with fail
        go_ret
        exact ⟨rfl, G7.out.old⟩
      · have g3 : decide (x2 = 4) = false := by simp [q2]
        have g4 : (x2 == 4) = false := by simp [q2]
        have hq := EQ.out q1 q2
        have SA := hidd (SAME.out hq)
        obtain rfl : x1 = x2 := EE.out hq
        clear hq SAME EQ EE
        go_wp2_with fail
        refine SA.out.mono ?_
        rintro e w8 ⟨rfl, hb8⟩
        have G8 : Hid (Below w.heap.size w w8) := G7.out.old.trans (hb8.mono G7.out.old.size)
        clear hb8 SA
        go_wp2_with fail
        go_ret
        exact ⟨rfl, G8.out⟩
  · have m0 : (word.toList == [98, 101, 103, 105, 110]) = false := by
      have k : (word.toList == bBegin.toList) = false := beqS_ne (by rw [hw]; decide)
      unfold bBegin at k
      simpa using k
    have m1 : (word.toList == [105, 109, 112, 111, 114, 116]) = false := by
      have k : (word.toList == bImport.toList) = false := beqS_ne (by rw [hw]; decide)
      unfold bImport at k
      simpa using k
    have m2 : (word.toList == [105, 110, 99, 108, 117, 100, 101]) = false := by
      have k : (word.toList == bInclude.toList) = false := beqS_ne (by rw [hw]; decide)
      unfold bInclude at k
      simpa using k
    have m3 : (word.toList == [101, 120, 112, 111, 114, 116]) = true := by
      have k : (word.toList == bExport.toList) = true := by rw [hw]; simp
      unfold bExport at k
      simpa using k
    clear hw
    have RF := hidd (RowD.fresh v0)
    have G0 : Hid (Below w.heap.size w (v0.alloc (.cells #[] 26)) ∧ SB w (.slice a1 n1 c1) (.slice a2 n2 c2) (.slice a3 n3 c3) word (v0.alloc (.cells #[] 26)) ∧ Below v0.heap.size v0 (v0.alloc (.cells #[] 26))) := ⟨F0.out.old.alloc F0.out.old.size _, F0.out.below ((Below.refl _ _).alloc (Nat.le_refl _) _), (Below.refl _ _).alloc (Nat.le_refl _) _⟩
    go_wp2_with (at_builtin; refine wpList_rowD rfl _ _ rfl (B := v0.heap.size) (v := .slice (some ⟨v0.heap.size, 0, none⟩) 0 0) (es := []) (by exact RF.out) (W0 := w) (F := Fa) (a := aa) (l := la) (cap := ca) rfl (by rw [← NA.out]; rfl) DA.out G0.out.1 F0.out.old.size G0.out.2.2.size (by have := LA.out; simp; omega) ?_)
    intro v1 w1 fs hfs hr1 hb1 hkf1
    have G1 : Hid (Below w.heap.size w w1 ∧ SB w (.slice a1 n1 c1) (.slice a2 n2 c2) (.slice a3 n3 c3) word w1 ∧ Below v0.heap.size v0 w1) := by
      have h2 := G0.out.2.2.trans hb1
      exact ⟨F0.out.old.trans (h2.mono F0.out.old.size), F0.out.below h2, h2⟩
    have R1 : Hid (RowD v0.heap.size v1 fs w1 ∧ fs.map (·.1) = la) := ⟨hr1, hfs⟩
    clear hr1 hb1 hkf1 hfs RF G0
    go_wp2_with (at_builtin; refine wpList_rowD rfl _ _ rfl (B := v0.heap.size) (v := v1) (es := fs) (by exact R1.out.1) (W0 := w) (F := Fb) (a := ab) (l := lb) (cap := cb) rfl (by rw [← NB.out]; rfl) DB.out G1.out.1 F0.out.old.size G1.out.2.2.size (by have h1 := congrArg List.length R1.out.2; have h2 := LA.out; have h3 := LB.out; rw [List.length_map] at h1; omega) ?_)
    intro v2 w2 gs hgs hr2 hb2 hkf2
    obtain ⟨va, vc, vf, hva, hvc, hdd⟩ := hr2.lieN (by have h1 := congrArg List.length R1.out.2; have h4 := congrArg List.length hgs; have h2 := LA.out; have h3 := LB.out; rw [List.length_map] at h1 h4; rw [List.length_append]; omega)
    have hmp : List.map (fun x : Dat × Option Addr × Nat => x.1) (fs ++ gs) = la ++ lb := by rw [List.map_append, R1.out.2, hgs]
    rw [hmp] at hva hvc hdd
    subst hva
    have G2 : Hid (Below w.heap.size w w2 ∧ SB w (.slice a1 n1 c1) (.slice a2 n2 c2) (.slice a3 n3 c3) word w2) := by
      have h2 := G1.out.2.2.trans hb2
      exact ⟨F0.out.old.trans (h2.mono F0.out.old.size), F0.out.below h2⟩
    have W25 := hidd (WC.out w2 (la ++ lb) va vc vf G2.out.2 HW.out hdd (by have h2 := LA.out; have h3 := LB.out; rw [List.length_append]; omega))
    obtain ⟨D1, hD1⟩ : ∃ D1, D1 = liD (syD word :: (la ++ lb)) := ⟨_, rfl⟩
    obtain ⟨m, hm⟩ : ∃ m, m = (la ++ lb).length := ⟨_, rfl⟩
    rw [← hD1, ← hm] at W25
    rw [← hm]
    have N1 : Hid (D1.name.size ≤ maxLen) := by rw [hD1]; exact Nat.zero_le _
    have HD1 := hidd hD1
    clear hD1 hm hr2 hb2 hkf2 hgs hvc hdd hmp R1 G1
    go_wp2_with fail
    refine W25.out.mono ?_
    rintro e w3 ⟨hb3, da1, dc1, df1, rfl, hdc1, hdd1⟩
    have G3 : Hid (SB w (.slice a1 n1 c1) (.slice a2 n2 c2) (.slice a3 n3 c3) word w3 ∧ SB w (.slice a1 n1 c1) (.slice a2 n2 c2) (.slice a3 n3 c3) word (w3.alloc (.cells #[.int .i64 D1.kind, .int .i64 D1.n, .string D1.name, .int .i64 D1.stamp, .int .i64 D1.lib, .slice da1 D1.kids.length dc1] 26))) := ⟨G2.out.2.below hb3, (G2.out.2.below hb3).below ((Below.refl _ _).alloc (Nat.le_refl _) _)⟩
    have P26 : Hid (Calls Tryz.prog 26 #[.slice (some ⟨w3.heap.size, 0, none⟩) 1 1, .pointer (some ⟨w.heap.size, 0, none⟩), .pointer (some ⟨w.heap.size + 1, 0, none⟩), .pointer (some ⟨w.heap.size + 1 + 1, 0, none⟩)] (w3.alloc (.cells #[.int .i64 D1.kind, .int .i64 D1.n, .string D1.name, .int .i64 D1.stamp, .int .i64 D1.lib, .slice da1 D1.kids.length dc1] 26)) (ToldQ (parseF E (libM [D1])) (w3.alloc (.cells #[.int .i64 D1.kind, .int .i64 D1.n, .string D1.name, .int .i64 D1.stamp, .int .i64 D1.lib, .slice da1 D1.kids.length dc1] 26)))) := by
      obtain ⟨f, hf⟩ := Dn.made w3 [(D1, da1, dc1)] (by simp) (by intro e he; simp at he; subst he; exact ⟨N1.out, hdc1, df1, hdd1⟩)
      exact PC.out _ [D1] _ 1 f G3.out.2 hf (by simp)
    obtain ⟨r1, hr1⟩ : ∃ r1, r1 = parseF E (libM [D1]) := ⟨_, rfl⟩
    rw [← hr1] at P26
    have HR1 : Hid (r1 = parseF E (libM [liD (syD word :: (la ++ lb))])) := by rw [← HD1.out]; exact hr1
    have MU1 : Hid (Inv (libOf r1) ∧ seOkL (libOf r1).imports) := by rw [hr1]; exact libOf_much E _
    clear hr1 hb3 hdc1 hdd1 W25 G2
    unfold dv
    go_wp2_with fail
    refine P26.out.mono ?_
    rintro e w4 ⟨hb4, ea1, nx1, ec1, ia1, ni1, ic1, ba1, nb1, bc1, rfl, hlm1⟩
    obtain ⟨W4, hW4⟩ : ∃ W4, W4 = w4.alloc (.cells #[.string (libOf r1).name, .slice ea1 nx1 ec1, .slice ia1 ni1 ic1, .slice ba1 nb1 bc1] 30) := ⟨_, rfl⟩
    have b4 : Below w4.heap.size w4 W4 := by rw [hW4]; exact (Below.refl _ _).alloc (Nat.le_refl _) _
    have G4 : Hid (SB w (.slice a1 n1 c1) (.slice a2 n2 c2) (.slice a3 n3 c3) word W4) := (G3.out.2.below hb4).below b4
    have x4 : W4.heap[w4.heap.size]? = some (.cells #[.string (libOf r1).name, .slice ea1 nx1 ec1, .slice ia1 ni1 ic1, .slice ba1 nb1 bc1] 30 (0, 0)) := by rw [hW4]; exact World.alloc_heap_new w4 _
    have L4 : Hid (LibM (fun k => k < W4.heap.size) (libOf r1) (.slice ea1 nx1 ec1) (.slice ia1 ni1 ic1) (.slice ba1 nb1 bc1) W4) := hlm1.stay (fun k hk => b4.block k hk.2) (fun k hk => Nat.lt_of_lt_of_le hk.2 b4.size)
    have XX4 := hidd x4
    have Q4 := hidd hW4.symm
    have W25a := hidd (WC.out W4 la aa ca Fa G4.out HW.out (DA.out.lift G4.out.old) (by have := LA.out; omega))
    obtain ⟨D2, hD2⟩ : ∃ D2, D2 = liD (syD word :: la) := ⟨_, rfl⟩
    rw [← hD2, ← NA.out] at W25a
    have N2 : Hid (D2.name.size ≤ maxLen) := by rw [hD2]; exact Nat.zero_le _
    have HD2 := hidd hD2
    clear hD2 hb4 hlm1 hW4 b4 x4 P26 G3
    go_wp2_with fail
    show Calls Tryz.prog 25 _ (w4.alloc (.cells #[.string (libOf r1).name, .slice ea1 nx1 ec1, .slice ia1 ni1 ic1, .slice ba1 nb1 bc1] 30)) _
    rw [Q4.out]
    refine W25a.out.mono ?_
    rintro e w5 ⟨hb5, da2, dc2, df2, rfl, hdc2, hdd2⟩
    have G5 : Hid (SB w (.slice a1 n1 c1) (.slice a2 n2 c2) (.slice a3 n3 c3) word w5 ∧ Below W4.heap.size W4 w5 ∧ D2.kids.length ≤ dc2 ∧ Dn w5 df2 da2 D2.kids) := ⟨G4.out.below hb5, hb5, hdc2, hdd2⟩
    have W25b := hidd (WC.out w5 lb ab cb Fb G5.out.1 HW.out (DB.out.lift G5.out.1.old) (by have := LB.out; omega))
    obtain ⟨D3, hD3⟩ : ∃ D3, D3 = liD (syD word :: lb) := ⟨_, rfl⟩
    rw [← hD3, ← NB.out] at W25b
    have N3 : Hid (D3.name.size ≤ maxLen) := by rw [hD3]; exact Nat.zero_le _
    have HD3 := hidd hD3
    clear hD3 hb5 hdc2 hdd2 Q4 W25a
    unfold dv
    go_wp2_with fail
    refine W25b.out.mono ?_
    rintro e w6 ⟨hb6, da3, dc3, df3, rfl, hdc3, hdd3⟩
    have b6 : Below w6.heap.size w6 (w6.alloc (.cells #[.int .i64 D2.kind, .int .i64 D2.n, .string D2.name, .int .i64 D2.stamp, .int .i64 D2.lib, .slice da2 D2.kids.length dc2, .int .i64 D3.kind, .int .i64 D3.n, .string D3.name, .int .i64 D3.stamp, .int .i64 D3.lib, .slice da3 D3.kids.length dc3] 26)) := (Below.refl _ _).alloc (Nat.le_refl _) _
    have G6 : Hid (SB w (.slice a1 n1 c1) (.slice a2 n2 c2) (.slice a3 n3 c3) word (w6.alloc (.cells #[.int .i64 D2.kind, .int .i64 D2.n, .string D2.name, .int .i64 D2.stamp, .int .i64 D2.lib, .slice da2 D2.kids.length dc2, .int .i64 D3.kind, .int .i64 D3.n, .string D3.name, .int .i64 D3.stamp, .int .i64 D3.lib, .slice da3 D3.kids.length dc3] 26)) ∧ Below W4.heap.size W4 (w6.alloc (.cells #[.int .i64 D2.kind, .int .i64 D2.n, .string D2.name, .int .i64 D2.stamp, .int .i64 D2.lib, .slice da2 D2.kids.length dc2, .int .i64 D3.kind, .int .i64 D3.n, .string D3.name, .int .i64 D3.stamp, .int .i64 D3.lib, .slice da3 D3.kids.length dc3] 26))) := ⟨(G5.out.1.below hb6).below b6, (G5.out.2.1.trans (hb6.mono G5.out.2.1.size)).trans (b6.mono (Nat.le_trans G5.out.2.1.size hb6.size))⟩
    have P26 : Hid (Calls Tryz.prog 26 #[.slice (some ⟨w6.heap.size, 0, none⟩) 2 2, .pointer (some ⟨w.heap.size, 0, none⟩), .pointer (some ⟨w.heap.size + 1, 0, none⟩), .pointer (some ⟨w.heap.size + 1 + 1, 0, none⟩)] (w6.alloc (.cells #[.int .i64 D2.kind, .int .i64 D2.n, .string D2.name, .int .i64 D2.stamp, .int .i64 D2.lib, .slice da2 D2.kids.length dc2, .int .i64 D3.kind, .int .i64 D3.n, .string D3.name, .int .i64 D3.stamp, .int .i64 D3.lib, .slice da3 D3.kids.length dc3] 26)) (ToldQ (parseF E (libM [D2, D3])) (w6.alloc (.cells #[.int .i64 D2.kind, .int .i64 D2.n, .string D2.name, .int .i64 D2.stamp, .int .i64 D2.lib, .slice da2 D2.kids.length dc2, .int .i64 D3.kind, .int .i64 D3.n, .string D3.name, .int .i64 D3.stamp, .int .i64 D3.lib, .slice da3 D3.kids.length dc3] 26)))) := by
      obtain ⟨f, hf⟩ := Dn.made w6 [(D2, da2, dc2), (D3, da3, dc3)] (by simp) (by
        intro e he
        simp at he
        rcases he with rfl | rfl
        · exact ⟨N2.out, G5.out.2.2.1, df2, G5.out.2.2.2.lift hb6⟩
        · exact ⟨N3.out, hdc3, df3, hdd3⟩)
      exact PC.out _ [D2, D3] _ 2 f G6.out.1 hf (by simp)
    obtain ⟨r2, hr2⟩ : ∃ r2, r2 = parseF E (libM [D2, D3]) := ⟨_, rfl⟩
    rw [← hr2] at P26
    have SP : Hid (r1 = .no 4 ∨ r2 = .no 4 ∨ r1 = r2) := by
      have := split_plain E HW.out la lb
      rw [HR1.out, hr2, HD2.out, HD3.out]
      exact this
    clear hr2 hb6 hdc3 hdd3 b6 W25b G5
    unfold dv
    go_wp2_with fail
    refine P26.out.mono ?_
    rintro e w7 ⟨hb7, ea2, nx2, ec2, ia2, ni2, ic2, ba2, nb2, bc2, rfl, hlm2⟩
    obtain ⟨W7, hW7⟩ : ∃ W7, W7 = w7.alloc (.cells #[.string (libOf r2).name, .slice ea2 nx2 ec2, .slice ia2 ni2 ic2, .slice ba2 nb2 bc2] 30) := ⟨_, rfl⟩
    have b7 : Below w7.heap.size w7 W7 := by rw [hW7]; exact (Below.refl _ _).alloc (Nat.le_refl _) _
    have h47 : Below W4.heap.size W4 W7 := (G6.out.2.trans (hb7.mono G6.out.2.size)).trans (b7.mono (Nat.le_trans G6.out.2.size hb7.size))
    have G7 : Hid (SB w (.slice a1 n1 c1) (.slice a2 n2 c2) (.slice a3 n3 c3) word W7) := (G6.out.1.below hb7).below b7
    have x7 : W7.heap[w7.heap.size]? = some (.cells #[.string (libOf r2).name, .slice ea2 nx2 ec2, .slice ia2 ni2 ic2, .slice ba2 nb2 bc2] 30 (0, 0)) := by rw [hW7]; exact World.alloc_heap_new w7 _
    have x4 : W7.heap[w4.heap.size]? = some (.cells #[.string (libOf r1).name, .slice ea1 nx1 ec1, .slice ia1 ni1 ic1, .slice ba1 nb1 bc1] 30 (0, 0)) := (h47.block _ (Array.getElem?_eq_some_iff.1 XX4.out).1).trans XX4.out
    have L7 : Hid (LibM (fun k => k < W7.heap.size) (libOf r2) (.slice ea2 nx2 ec2) (.slice ia2 ni2 ic2) (.slice ba2 nb2 bc2) W7) := hlm2.stay (fun k hk => b7.block k hk.2) (fun k hk => Nat.lt_of_lt_of_le hk.2 b7.size)
    have L47 : Hid (LibM (fun k => k < W7.heap.size) (libOf r1) (.slice ea1 nx1 ec1) (.slice ia1 ni1 ic1) (.slice ba1 nb1 bc1) W7) := L4.out.stay (fun k hk => h47.block k hk) (fun k hk => Nat.lt_of_lt_of_le hk h47.size)
    have Q7 := hidd hW7.symm
    have y0 : W7.cell? ⟨w4.heap.size, 0, none⟩ = some _ := (cellO x4).trans rfl
    have y1 : W7.cell? ⟨w4.heap.size, 1, none⟩ = some _ := (cellO x4).trans rfl
    have y2 : W7.cell? ⟨w4.heap.size, 2, none⟩ = some _ := (cellO x4).trans rfl
    have y3 : W7.cell? ⟨w4.heap.size, 3, none⟩ = some _ := (cellO x4).trans rfl
    have z0 : W7.cell? ⟨w7.heap.size, 0, none⟩ = some _ := (cellO x7).trans rfl
    have z1 : W7.cell? ⟨w7.heap.size, 1, none⟩ = some _ := (cellO x7).trans rfl
    have z2 : W7.cell? ⟨w7.heap.size, 2, none⟩ = some _ := (cellO x7).trans rfl
    have z3 : W7.cell? ⟨w7.heap.size, 3, none⟩ = some _ := (cellO x7).trans rfl
    clear hb7 hlm2 hW7 b7 h47 x7 x4 P26 G6 XX4 L4 G4
    go_upto_region 9 with fail
    rw [Q7.out]
    clear Q7
    have SAME : Hid (r1 = r2 → Calls Tryz.prog 11 #[.agg #[.string (libOf r1).name, .slice ea1 nx1 ec1, .slice ia1 ni1 ic1, .slice ba1 nb1 bc1], .agg #[.string (libOf r2).name, .slice ea2 nx2 ec2, .slice ia2 ni2 ic2, .slice ba2 nb2 bc2]] W7 (YesB W7)) := fun hq => by
      have h7 := L7.out
      rw [← hq] at h7 ⊢
      exact same_any W7.heap.size (libOf r1) _ _ _ _ _ _ W7 (Nat.le_refl _) L47.out h7 MU1.out.1.e MU1.out.1.i MU1.out.2
    have EQ : Hid (¬ errOf r1 = 4 → ¬ errOf r2 = 4 → r1 = r2) := fun h1 h2 => by
      rcases SP.out with h | h | h
      · exact absurd (by rw [h]; rfl) h1
      · exact absurd (by rw [h]; rfl) h2
      · exact h
    have EE : Hid (r1 = r2 → errOf r1 = errOf r2) := fun h => by rw [h]
    generalize errOf r1 = x1 at EQ EE ⊢
    generalize errOf r2 = x2 at EQ EE ⊢
    clear SP L7 L47 MU1 HR1
    by_cases q1 : x1 = 4
    · subst q1
      go_wp2_with fail
      go_ret
      exact ⟨rfl, G7.out.old⟩
    · have g1 : decide (x1 = 4) = false := by simp [q1]
      have g2 : (x1 == 4) = false := by simp [q1]
      by_cases q2 : x2 = 4
      · subst q2
        go_wp2_with fail
        go_ret
        exact ⟨rfl, G7.out.old⟩
      · have g3 : decide (x2 = 4) = false := by simp [q2]
        have g4 : (x2 == 4) = false := by simp [q2]
        have hq := EQ.out q1 q2
        have SA := hidd (SAME.out hq)
        obtain rfl : x1 = x2 := EE.out hq
        clear hq SAME EQ EE
        go_wp2_with fail
        refine SA.out.mono ?_
        rintro e w8 ⟨rfl, hb8⟩
        have G8 : Hid (Below w.heap.size w w8) := G7.out.old.trans (hb8.mono G7.out.old.size)
        clear hb8 SA
        go_wp2_with fail
        go_ret
        exact ⟨rfl, G8.out⟩
end Go.Proofs.YtonafbennobgdaaGreatDoor
