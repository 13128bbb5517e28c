/- Package names: what a set brings: rename; all sets. -/
import Derived.Test.YtckiihbnjfeplaaWj
namespace Go.Proofs.Ytckiihbnjfeplaa
set_option linter.unusedVariables false
set_option linter.unusedSimpArgs false
open Go.RowKit Go.Maps Go.WideMaps

set_option maxRecDepth 100000 in
set_option maxHeartbeats 6400000 in
theorem brought_rename (B : Nat) (na : ByteArray) (nn nas : List ByteArray) (pr : ByteArray) (a0 a1 : Option Addr) (b o c0 c1 c2 n : Nat) (ea : Option Addr) (ex : List ByteArray) (k : Ly) (e0 e1 e2 : Option Addr) (f0 f1 f2 m ec : Nat) (ps : List Pr) (w : World)
    (h : Kid B ⟨5, na, nn, nas, pr⟩ a0 a1 b o n ea ex k e0 e1 e2 f0 f1 f2 m ec (.inr ps) w) (hl : ps.length ≤ 200) (hsz : ∀ p ∈ ps, p.1.size ≤ 20) (hall : allIn nn ps = true) (hlen : nas.length = nn.length) (hfs : ∀ s : ByteArray, s.size ≤ 20 → (callD nn nas s).size ≤ 20) :
    Calls Try.prog 14 #[.agg #[.int .i64 5, .string na, .slice a0 nn.length c0, .slice a1 nas.length c1, .string pr, .slice (some ⟨b, o, none⟩) (n + 1) c2], .slice ea ex.length ec] w (OutP (rena ⟨5, na, nn, nas, pr⟩ ps) w) := by
  have HK : Hid (Kid B ⟨5, na, nn, nas, pr⟩ a0 a1 b o n ea ex k e0 e1 e2 f0 f1 f2 m ec (.inr ps) w) := h
  have hfew := h.few
  have hN : b < w.heap.size := Nat.lt_of_lt_of_le h.lt h.le
  obtain ⟨k0, k1, k2, k3, k4, k5⟩ := h.cells ((Below.refl _ _).alloc (Nat.le_refl _) (.cells #[.int .i64 5, .string na, .slice a0 nn.length c0, .slice a1 nas.length c1, .string pr, .slice (some ⟨b, o, none⟩) (n + 1) c2] 25))
  have HB0 : Hid (Below w.heap.size w (w.alloc (.cells #[.int .i64 5, .string na, .slice a0 nn.length c0, .slice a1 nas.length c1, .string pr, .slice (some ⟨b, o, none⟩) (n + 1) c2] 25)) ∧ Box w.heap.size ⟨5, na, nn, nas, pr⟩ a0 a1 (some ⟨b, o, none⟩) c0 c1 c2 (n + 1) (w.alloc (.cells #[.int .i64 5, .string na, .slice a0 nn.length c0, .slice a1 nas.length c1, .string pr, .slice (some ⟨b, o, none⟩) (n + 1) c2] 25))) := ⟨(Below.refl _ _).alloc (Nat.le_refl _) _, Box.made ⟨5, na, nn, nas, pr⟩ a0 a1 (some ⟨b, o, none⟩) c0 c1 c2 (n + 1) w⟩
  clear h
  have hmf : ∀ (fn : Fn) (first cap : Array Value) (w : World), (Instr.makeFunc fn first cap).run Try.prog w = .ok (.func fn first cap) w := fun _ _ _ _ => rfl
  have HLEN : Hid (nas.length = nn.length) := hlen
  have HFS : Hid (∀ s : ByteArray, s.size ≤ 20 → (callD nn nas s).size ≤ 20) := hfs
  clear hlen hfs
  obtain ⟨R, HRR⟩ : ∃ R, Hid (rena ⟨5, na, nn, nas, pr⟩ ps = R) := ⟨_, rfl⟩
  rw [HRR.out]
  go_enter Try.func14, Try.ntmps14
  go_wp2_with fail
  refine (HK.out.call _ HB0.out.1).mono ?_
  rintro e w1 ⟨hb1, v1, rfl, hr1⟩
  obtain ⟨ca, cc, hv1, hp1⟩ := hr1.lie (by omega)
  subst hv1
  have H1 : Hid (Below w.heap.size w w1 ∧ Prs w1.heap.size w1 ca ps ∧ LiesL B w1 ⟨5, na, nn, nas, pr⟩ a0 a1 ∧ B ≤ w1.heap.size ∧ Box w.heap.size ⟨5, na, nn, nas, pr⟩ a0 a1 (some ⟨b, o, none⟩) c0 c1 c2 (n + 1) w1) := by
    have hb : Below w.heap.size w w1 := HB0.out.1.trans (hb1.mono HB0.out.1.size)
    exact ⟨hb, hp1, HK.out.ly.stay (fun k hk => hb.block k (Nat.lt_of_lt_of_le hk HK.out.le)) (Nat.le_refl _), Nat.le_trans HK.out.le hb.size, HB0.out.2.below hb1⟩
  have q0 := H1.out.2.2.2.2.q0
  have q2 := H1.out.2.2.2.2.q2
  have q4 := H1.out.2.2.2.2.q4
  simp only at q0 q2 q4
  clear hb1 hr1 hp1 k0 k1 k2 k3 k4 k5
  have AB : Hid (Calls Try.prog 32 #[.slice a0 nn.length c0, .slice ca ps.length cc] w1 fun e w' => e = .returned (.bool true) ∧ Below w1.heap.size w1 w') := by
    have := allBrought_any w1.heap.size nn ps a0 ca c0 cc w1 (H1.out.2.2.1.names.stay (Old.refl _ _) H1.out.2.2.2.1) H1.out.2.1 (Nat.le_refl _) hl hsz
    rwa [hall] at this
  clear hall
  go_wp2_with fail
  refine AB.out.mono ?_
  rintro e w2 ⟨rfl, hb2⟩
  have H2 : Hid (Below w.heap.size w w2 ∧ Prs w1.heap.size w2 ca ps ∧ LiesL B w2 ⟨5, na, nn, nas, pr⟩ a0 a1 ∧ B ≤ w1.heap.size ∧ w1.heap.size ≤ w2.heap.size ∧ Box w.heap.size ⟨5, na, nn, nas, pr⟩ a0 a1 (some ⟨b, o, none⟩) c0 c1 c2 (n + 1) w2) :=
    ⟨H1.out.1.trans (hb2.mono H1.out.1.size), H1.out.2.1.old (fun k hk => hb2.block k hk) (Nat.le_refl _), H1.out.2.2.1.stay (fun k hk => hb2.block k (Nat.lt_of_lt_of_le hk H1.out.2.2.2.1)) (Nat.le_refl _), H1.out.2.2.2.1, hb2.size, H1.out.2.2.2.2.below hb2⟩
  clear q0 q2 q4 AB
  have q2 := H2.out.2.2.2.2.2.q2
  simp only at q2
  have PL : Hid (Calls Try.prog 28 #[.slice a0 nn.length c0] w2 fun e w' => e = .returned (.map (some w2.heap.size)) ∧ Below w2.heap.size w2 w' ∧ MapIs w2.heap.size nn.length (plc nn) w') := places_any B nn a0 c0 w2 H2.out.2.2.1.names (Nat.le_trans H2.out.2.2.2.1 H2.out.2.2.2.2.1)
  clear hb2
  go_wp2_with fail
  refine PL.out.mono ?_
  rintro e w3 ⟨rfl, hb3, hm3⟩
  have H3 : Hid (Below w.heap.size w w3 ∧ Prs w1.heap.size w3 ca ps ∧ LiesL B w3 ⟨5, na, nn, nas, pr⟩ a0 a1 ∧ B ≤ w1.heap.size ∧ w1.heap.size ≤ w3.heap.size ∧ Box w.heap.size ⟨5, na, nn, nas, pr⟩ a0 a1 (some ⟨b, o, none⟩) c0 c1 c2 (n + 1) w3 ∧ MapIs w2.heap.size nn.length (plc nn) w3) :=
    ⟨H2.out.1.trans (hb3.mono H2.out.1.size), H2.out.2.1.old (fun k hk => hb3.block k (Nat.lt_of_lt_of_le hk H2.out.2.2.2.2.1)) (Nat.le_refl _), H2.out.2.2.1.stay (fun k hk => hb3.block k (Nat.lt_of_lt_of_le hk (Nat.le_trans H2.out.2.2.2.1 H2.out.2.2.2.2.1))) (Nat.le_refl _), H2.out.2.2.2.1, Nat.le_trans H2.out.2.2.2.2.1 hb3.size, H2.out.2.2.2.2.2.below hb3, hm3⟩
  have hlt3 : w.heap.size < w3.heap.size := H3.out.2.2.2.2.2.1.lt
  have hb4 : Below w3.heap.size w3 ((w3.alloc (.cells #[.map (some w2.heap.size)] 51)).alloc (.cells #[.func (.func 33) #[] #[.pointer (some ⟨w3.heap.size, 0, none⟩)]] 46)) := ((Below.refl _ _).alloc (Nat.le_refl _) _).alloc (by simp) _
  have z0 : ((w3.alloc (.cells #[.map (some w2.heap.size)] 51)).alloc (.cells #[.func (.func 33) #[] #[.pointer (some ⟨w3.heap.size, 0, none⟩)]] 46)).cell? ⟨w3.heap.size, 0, none⟩ = some (.map (some w2.heap.size)) := by simp [go_sem]
  have z1 : ((w3.alloc (.cells #[.map (some w2.heap.size)] 51)).alloc (.cells #[.func (.func 33) #[] #[.pointer (some ⟨w3.heap.size, 0, none⟩)]] 46)).cell? ⟨w3.heap.size + 1, 0, none⟩ = some (.func (.func 33) #[] #[.pointer (some ⟨w3.heap.size, 0, none⟩)]) := by simp [go_sem]
  have hm4 := H3.out.2.2.2.2.2.2.below hb4
  have hp4 := H3.out.2.1.old (fun k hk => hb4.block k (Nat.lt_of_lt_of_le hk H3.out.2.2.2.2.1)) (Nat.le_refl _)
  have hs4 := hb4.size
  have hlt4 : w3.heap.size + 1 < ((w3.alloc (.cells #[.map (some w2.heap.size)] 51)).alloc (.cells #[.func (.func 33) #[] #[.pointer (some ⟨w3.heap.size, 0, none⟩)]] 46)).heap.size := by simp
  have hbx := H3.out.2.2.2.2.2.1.below hb4
  have hly := H3.out.2.2.1.stay (fun k hk => hb4.block k (Nat.lt_of_lt_of_le hk (Nat.le_trans H3.out.2.2.2.1 H3.out.2.2.2.2.1))) (Nat.le_refl _)
  have hb05 : Below w.heap.size w ((w3.alloc (.cells #[.map (some w2.heap.size)] 51)).alloc (.cells #[.func (.func 33) #[] #[.pointer (some ⟨w3.heap.size, 0, none⟩)]] 46)) := H3.out.1.trans (hb4.mono H3.out.1.size)
  have q0 := hbx.q0
  simp only at q0
  have h3 := hbx.q3
  simp only at h3
  have KP : Hid (∀ W, W = ((w3.alloc (.cells #[.map (some w2.heap.size)] 51)).alloc (.cells #[.func (.func 33) #[] #[.pointer (some ⟨w3.heap.size, 0, none⟩)]] 46)) → Calls Try.prog 36 #[.slice ca ps.length cc, .func (.func 37) #[] #[.pointer (some ⟨w3.heap.size + 1, 0, none⟩), .pointer (some ⟨w.heap.size, 0, none⟩), .pointer (some ⟨w3.heap.size, 0, none⟩)]] W (OutP (rena ⟨5, na, nn, nas, pr⟩ ps) w)) := by
    intro W hW
    subst hW
    refine (renamed_any w1.heap.size ⟨5, na, nn, nas, pr⟩ ps ca cc _ _ _ _ hp4 (Nat.le_trans H3.out.2.2.2.2.1 hs4) hl hsz ?_ HFS.out).mono ?_
    · intro W' s hbW hs
      refine called_any B _ _ _ _ _ nn nas a1 c1 s (by unfold maxLen; omega) W' HLEN.out ((hbW.cell (p := ⟨w3.heap.size + 1, 0, none⟩) hlt4).trans z1) ((hbW.cell (p := ⟨w3.heap.size, 0, none⟩) (by show w3.heap.size < _; omega)).trans z0) (hm4.below hbW) ((hbW.cell (p := ⟨w.heap.size, 3, none⟩) hbx.lt).trans h3) (hly.asn.stay (fun k hk => hbW.block k (Nat.lt_of_lt_of_le hk (Nat.le_trans H3.out.2.2.2.1 (Nat.le_trans H3.out.2.2.2.2.1 hs4)))) (Nat.le_refl _))
    · intro e w5 hout
      exact OutP.mono hb05 hout
  rw [HRR.out] at KP
  clear hb3 hm3 hm4 hp4 hs4 hbx hly hb05 hb4 PL h3
  go_wp2_with fail
  refine (KP.out _ rfl).mono ?_
  intro e w5 hout
  have H5 : Hid (OutP R w e w5) := hout
  clear q0 q2 z0 z1 KP
  cases R with
  | inl x =>
    obtain ⟨_, rfl⟩ := hout
    go_wp2_with fail
    go_ret2
    exact H5.out
  | inr qs =>
    obtain ⟨_, v2, rfl, hr2⟩ := hout
    obtain ⟨cb, cd, hv2⟩ := hr2.form
    subst hv2
    clear hr2
    go_wp2_with fail
    go_ret2
    exact H5.out
end Go.Proofs.Ytckiihbnjfeplaa
