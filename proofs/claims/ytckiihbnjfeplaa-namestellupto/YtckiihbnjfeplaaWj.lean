/- Package names: what a set brings: names that are not, only, except, rename. -/
import Derived.Test.YtckiihbnjfeplaaWi
import Derived.Laws.EntriesVeiled
namespace Go.Proofs.Ytckiihbnjfeplaa
set_option linter.unusedVariables false
set_option linter.unusedSimpArgs false
open Go.RowKit Go.Maps Go.WideMaps

theorem plc_isSome (l : List ByteArray) (s : ByteArray) : (plc l s).isSome = decide (s ∈ l) := by
  cases e : plc l s with
  | none => simp [plc_none.1 e]
  | some i => simp [List.mem_of_getElem? (plc_some e).2]

set_option maxRecDepth 100000 in
set_option maxHeartbeats 6400000 in
theorem brought_none (B : Nat) (kd : Int) (na : ByteArray) (nn nas : List ByteArray) (pr : ByteArray) (a0 a1 : Option Addr) (b o c0 c1 c2 n : Nat) (ea : Option Addr) (ex : List ByteArray) (k : Ly) (e0 e1 e2 : Option Addr) (f0 f1 f2 m ec : Nat) (ps : List Pr) (w : World)
    (h : Kid B ⟨kd, na, nn, nas, pr⟩ a0 a1 b o n ea ex k e0 e1 e2 f0 f1 f2 m ec (.inr ps) w) (hl : ps.length ≤ 200) (hsz : ∀ p ∈ ps, p.1.size ≤ 20) (hall : allIn nn ps = false) (hk1 : kd ≠ 1) (hk4 : kd ≠ 4) :
    Calls Try.prog 14 #[.agg #[.int .i64 kd, .string na, .slice a0 nn.length c0, .slice a1 nas.length c1, .string pr, .slice (some ⟨b, o, none⟩) (n + 1) c2], .slice ea ex.length ec] w (OutP (.inl 6) w) := by
  have HK : Hid (Kid B ⟨kd, na, nn, nas, pr⟩ a0 a1 b o n ea ex k e0 e1 e2 f0 f1 f2 m ec (.inr ps) w) := h
  have hfew := h.few
  have hN : b < w.heap.size := Nat.lt_of_lt_of_le h.lt h.le
  obtain ⟨k0, k1, k2, k3, k4, k5⟩ := h.cells ((Below.refl _ _).alloc (Nat.le_refl _) (.cells #[.int .i64 kd, .string na, .slice a0 nn.length c0, .slice a1 nas.length c1, .string pr, .slice (some ⟨b, o, none⟩) (n + 1) c2] 25))
  have HB0 : Hid (Below w.heap.size w (w.alloc (.cells #[.int .i64 kd, .string na, .slice a0 nn.length c0, .slice a1 nas.length c1, .string pr, .slice (some ⟨b, o, none⟩) (n + 1) c2] 25)) ∧ Box w.heap.size ⟨kd, na, nn, nas, pr⟩ a0 a1 (some ⟨b, o, none⟩) c0 c1 c2 (n + 1) (w.alloc (.cells #[.int .i64 kd, .string na, .slice a0 nn.length c0, .slice a1 nas.length c1, .string pr, .slice (some ⟨b, o, none⟩) (n + 1) c2] 25))) := ⟨(Below.refl _ _).alloc (Nat.le_refl _) _, Box.made ⟨kd, na, nn, nas, pr⟩ a0 a1 (some ⟨b, o, none⟩) c0 c1 c2 (n + 1) w⟩
  clear h
  go_enter Try.func14, Try.ntmps14
  go_wp2_with fail
  refine (HK.out.call _ HB0.out.1).mono ?_
  rintro e w1 ⟨hb1, v1, rfl, hr1⟩
  obtain ⟨ca, cc, hv1, hp1⟩ := hr1.lie (by omega)
  subst hv1
  have H1 : Hid (Below w.heap.size w w1 ∧ Prs w1.heap.size w1 ca ps ∧ LiesL B w1 ⟨kd, na, nn, nas, pr⟩ a0 a1 ∧ B ≤ w1.heap.size ∧ Box w.heap.size ⟨kd, na, nn, nas, pr⟩ a0 a1 (some ⟨b, o, none⟩) c0 c1 c2 (n + 1) w1) := by
    have hb : Below w.heap.size w w1 := HB0.out.1.trans (hb1.mono HB0.out.1.size)
    exact ⟨hb, hp1, HK.out.ly.stay (fun k hk => hb.block k (Nat.lt_of_lt_of_le hk HK.out.le)) (Nat.le_refl _), Nat.le_trans HK.out.le hb.size, HB0.out.2.below hb1⟩
  have q0 := H1.out.2.2.2.2.q0
  have q2 := H1.out.2.2.2.2.q2
  have q4 := H1.out.2.2.2.2.q4
  simp only at q0 q2 q4
  clear hb1 hr1 hp1 k0 k1 k2 k3 k4 k5
  have AB : Hid (Calls Try.prog 32 #[.slice a0 nn.length c0, .slice ca ps.length cc] w1 fun e w' => e = .returned (.bool false) ∧ Below w1.heap.size w1 w') := by
    have := allBrought_any w1.heap.size nn ps a0 ca c0 cc w1 (H1.out.2.2.1.names.stay (Old.refl _ _) H1.out.2.2.2.1) H1.out.2.1 (Nat.le_refl _) hl hsz
    rwa [hall] at this
  have g1 : ¬ kd = 1 := hk1
  have g4 : ¬ kd = 4 := hk4
  clear hk1 hk4 hall
  go_wp2_with fail
  refine AB.out.mono ?_
  rintro e w2 ⟨rfl, hb2⟩
  have H2 : Hid (Below w.heap.size w w2) := H1.out.1.trans (hb2.mono H1.out.1.size)
  clear hb2 q0 q2 q4
  go_wp2_with fail
  go_ret2
  exact ⟨H2.out, rfl⟩

set_option maxRecDepth 100000 in
set_option maxHeartbeats 6400000 in
theorem brought_only (B : Nat) (na : ByteArray) (nn nas : List ByteArray) (pr : ByteArray) (a0 a1 : Option Addr) (b o c0 c1 c2 n : Nat) (ea : Option Addr) (ex : List ByteArray) (k : Ly) (e0 e1 e2 : Option Addr) (f0 f1 f2 m ec : Nat) (ps : List Pr) (w : World)
    (h : Kid B ⟨2, na, nn, nas, pr⟩ a0 a1 b o n ea ex k e0 e1 e2 f0 f1 f2 m ec (.inr ps) w) (hl : ps.length ≤ 200) (hsz : ∀ p ∈ ps, p.1.size ≤ 20) (hall : allIn nn ps = true) :
    Calls Try.prog 14 #[.agg #[.int .i64 2, .string na, .slice a0 nn.length c0, .slice a1 nas.length c1, .string pr, .slice (some ⟨b, o, none⟩) (n + 1) c2], .slice ea ex.length ec] w (OutP (.inr (ps.filter fun p => decide (p.1 ∈ nn))) w) := by
  have HK : Hid (Kid B ⟨2, na, nn, nas, pr⟩ a0 a1 b o n ea ex k e0 e1 e2 f0 f1 f2 m ec (.inr ps) w) := h
  have hfew := h.few
  have hN : b < w.heap.size := Nat.lt_of_lt_of_le h.lt h.le
  obtain ⟨k0, k1, k2, k3, k4, k5⟩ := h.cells ((Below.refl _ _).alloc (Nat.le_refl _) (.cells #[.int .i64 2, .string na, .slice a0 nn.length c0, .slice a1 nas.length c1, .string pr, .slice (some ⟨b, o, none⟩) (n + 1) c2] 25))
  have HB0 : Hid (Below w.heap.size w (w.alloc (.cells #[.int .i64 2, .string na, .slice a0 nn.length c0, .slice a1 nas.length c1, .string pr, .slice (some ⟨b, o, none⟩) (n + 1) c2] 25)) ∧ Box w.heap.size ⟨2, na, nn, nas, pr⟩ a0 a1 (some ⟨b, o, none⟩) c0 c1 c2 (n + 1) (w.alloc (.cells #[.int .i64 2, .string na, .slice a0 nn.length c0, .slice a1 nas.length c1, .string pr, .slice (some ⟨b, o, none⟩) (n + 1) c2] 25))) := ⟨(Below.refl _ _).alloc (Nat.le_refl _) _, Box.made ⟨2, na, nn, nas, pr⟩ a0 a1 (some ⟨b, o, none⟩) c0 c1 c2 (n + 1) w⟩
  clear h
  have hmf : ∀ (fn : Fn) (first cap : Array Value) (w : World), (Instr.makeFunc fn first cap).run Try.prog w = .ok (.func fn first cap) w := fun _ _ _ _ => rfl
  obtain ⟨qs, HQS⟩ : ∃ qs, Hid ((ps.filter fun p => decide (p.1 ∈ nn)) = qs) := ⟨_, rfl⟩
  rw [HQS.out]
  go_enter Try.func14, Try.ntmps14
  go_wp2_with fail
  refine (HK.out.call _ HB0.out.1).mono ?_
  rintro e w1 ⟨hb1, v1, rfl, hr1⟩
  obtain ⟨ca, cc, hv1, hp1⟩ := hr1.lie (by omega)
  subst hv1
  have H1 : Hid (Below w.heap.size w w1 ∧ Prs w1.heap.size w1 ca ps ∧ LiesL B w1 ⟨2, na, nn, nas, pr⟩ a0 a1 ∧ B ≤ w1.heap.size ∧ Box w.heap.size ⟨2, na, nn, nas, pr⟩ a0 a1 (some ⟨b, o, none⟩) c0 c1 c2 (n + 1) w1) := by
    have hb : Below w.heap.size w w1 := HB0.out.1.trans (hb1.mono HB0.out.1.size)
    exact ⟨hb, hp1, HK.out.ly.stay (fun k hk => hb.block k (Nat.lt_of_lt_of_le hk HK.out.le)) (Nat.le_refl _), Nat.le_trans HK.out.le hb.size, HB0.out.2.below hb1⟩
  have q0 := H1.out.2.2.2.2.q0
  have q2 := H1.out.2.2.2.2.q2
  have q4 := H1.out.2.2.2.2.q4
  simp only at q0 q2 q4
  clear hb1 hr1 hp1 k0 k1 k2 k3 k4 k5
  have AB : Hid (Calls Try.prog 32 #[.slice a0 nn.length c0, .slice ca ps.length cc] w1 fun e w' => e = .returned (.bool true) ∧ Below w1.heap.size w1 w') := by
    have := allBrought_any w1.heap.size nn ps a0 ca c0 cc w1 (H1.out.2.2.1.names.stay (Old.refl _ _) H1.out.2.2.2.1) H1.out.2.1 (Nat.le_refl _) hl hsz
    rwa [hall] at this
  clear hall
  go_wp2_with fail
  refine AB.out.mono ?_
  rintro e w2 ⟨rfl, hb2⟩
  have H2 : Hid (Below w.heap.size w w2 ∧ Prs w1.heap.size w2 ca ps ∧ LiesL B w2 ⟨2, na, nn, nas, pr⟩ a0 a1 ∧ B ≤ w1.heap.size ∧ w1.heap.size ≤ w2.heap.size ∧ Box w.heap.size ⟨2, na, nn, nas, pr⟩ a0 a1 (some ⟨b, o, none⟩) c0 c1 c2 (n + 1) w2) :=
    ⟨H1.out.1.trans (hb2.mono H1.out.1.size), H1.out.2.1.old (fun k hk => hb2.block k hk) (Nat.le_refl _), H1.out.2.2.1.stay (fun k hk => hb2.block k (Nat.lt_of_lt_of_le hk H1.out.2.2.2.1)) (Nat.le_refl _), H1.out.2.2.2.1, hb2.size, H1.out.2.2.2.2.below hb2⟩
  clear q0 q2 q4 AB
  have q2 := H2.out.2.2.2.2.2.q2
  simp only at q2
  have PL : Hid (Calls Try.prog 28 #[.slice a0 nn.length c0] w2 fun e w' => e = .returned (.map (some w2.heap.size)) ∧ Below w2.heap.size w2 w' ∧ MapIs w2.heap.size nn.length (plc nn) w') := places_any B nn a0 c0 w2 H2.out.2.2.1.names (Nat.le_trans H2.out.2.2.2.1 H2.out.2.2.2.2.1)
  clear hb2
  go_wp2_with fail
  refine PL.out.mono ?_
  rintro e w3 ⟨rfl, hb3, hm3⟩
  have H3 : Hid (Below w.heap.size w w3 ∧ Prs w1.heap.size w3 ca ps ∧ LiesL B w3 ⟨2, na, nn, nas, pr⟩ a0 a1 ∧ B ≤ w1.heap.size ∧ w1.heap.size ≤ w3.heap.size ∧ Box w.heap.size ⟨2, na, nn, nas, pr⟩ a0 a1 (some ⟨b, o, none⟩) c0 c1 c2 (n + 1) w3 ∧ MapIs w2.heap.size nn.length (plc nn) w3) :=
    ⟨H2.out.1.trans (hb3.mono H2.out.1.size), H2.out.2.1.old (fun k hk => hb3.block k (Nat.lt_of_lt_of_le hk H2.out.2.2.2.2.1)) (Nat.le_refl _), H2.out.2.2.1.stay (fun k hk => hb3.block k (Nat.lt_of_lt_of_le hk (Nat.le_trans H2.out.2.2.2.1 H2.out.2.2.2.2.1))) (Nat.le_refl _), H2.out.2.2.2.1, Nat.le_trans H2.out.2.2.2.2.1 hb3.size, H2.out.2.2.2.2.2.below hb3, hm3⟩
  have hlt3 : w.heap.size < w3.heap.size := H3.out.2.2.2.2.2.1.lt
  have hb4 : Below w3.heap.size w3 ((w3.alloc (.cells #[.map (some w2.heap.size)] 51)).alloc (.cells #[.func (.func 33) #[] #[.pointer (some ⟨w3.heap.size, 0, none⟩)]] 46)) := ((Below.refl _ _).alloc (Nat.le_refl _) _).alloc (by simp) _
  have z0 : ((w3.alloc (.cells #[.map (some w2.heap.size)] 51)).alloc (.cells #[.func (.func 33) #[] #[.pointer (some ⟨w3.heap.size, 0, none⟩)]] 46)).cell? ⟨w3.heap.size, 0, none⟩ = some (.map (some w2.heap.size)) := by simp [go_sem]
  have z1 : ((w3.alloc (.cells #[.map (some w2.heap.size)] 51)).alloc (.cells #[.func (.func 33) #[] #[.pointer (some ⟨w3.heap.size, 0, none⟩)]] 46)).cell? ⟨w3.heap.size + 1, 0, none⟩ = some (.func (.func 33) #[] #[.pointer (some ⟨w3.heap.size, 0, none⟩)]) := by simp [go_sem]
  have hm4 := H3.out.2.2.2.2.2.2.below hb4
  have hp4 := H3.out.2.1.old (fun k hk => hb4.block k (Nat.lt_of_lt_of_le hk H3.out.2.2.2.2.1)) (Nat.le_refl _)
  have hs4 := hb4.size
  have hlt4 : w3.heap.size + 1 < ((w3.alloc (.cells #[.map (some w2.heap.size)] 51)).alloc (.cells #[.func (.func 33) #[] #[.pointer (some ⟨w3.heap.size, 0, none⟩)]] 46)).heap.size := by simp
  have hbx := H3.out.2.2.2.2.2.1.below hb4
  have hly := H3.out.2.2.1.stay (fun k hk => hb4.block k (Nat.lt_of_lt_of_le hk (Nat.le_trans H3.out.2.2.2.1 H3.out.2.2.2.2.1))) (Nat.le_refl _)
  have hb05 : Below w.heap.size w ((w3.alloc (.cells #[.map (some w2.heap.size)] 51)).alloc (.cells #[.func (.func 33) #[] #[.pointer (some ⟨w3.heap.size, 0, none⟩)]] 46)) := H3.out.1.trans (hb4.mono H3.out.1.size)
  have q0 := hbx.q0
  simp only at q0
  have KP : Hid (∀ W, W = ((w3.alloc (.cells #[.map (some w2.heap.size)] 51)).alloc (.cells #[.func (.func 33) #[] #[.pointer (some ⟨w3.heap.size, 0, none⟩)]] 46)) → Calls Try.prog 34 #[.slice ca ps.length cc, .func (.func 33) #[] #[.pointer (some ⟨w3.heap.size, 0, none⟩)]] W (fun e w' => ∃ v, e = .returned v ∧ Below w.heap.size w w' ∧ RowP w.heap.size v qs w')) := by
    intro W hW
    subst hW
    refine (kept_38 w1.heap.size ps ca cc (w3.heap.size) (fun s => (plc nn s).isSome) _ hp4 (Nat.le_trans H3.out.2.2.2.2.1 hs4) hl hsz ?_).mono ?_
    · intro W' s hbW hs
      exact asked_any _ _ _ (plc nn) s hs W' ((hbW.cell (p := ⟨w3.heap.size, 0, none⟩) (by show w3.heap.size < _; omega)).trans z0) (hm4.below hbW)
    · rintro e w5 ⟨v, rfl, hb5, hr5⟩
      refine ⟨v, rfl, hb05.trans (hb5.mono hb05.size), ?_⟩
      have := World.ownsRow.mono hr5 hb05.size
      simp only [plc_isSome] at this
      rw [← HQS.out]
      exact this
  clear hb3 hm3 hm4 hp4 hs4 hbx hly hb05 hb4 PL
  go_wp2_with fail
  refine (KP.out _ rfl).mono ?_
  rintro e w5 ⟨v, rfl, hb5, hr5⟩
  have H5 : Hid (Below w.heap.size w w5 ∧ RowP w.heap.size v qs w5) := ⟨hb5, hr5⟩
  obtain ⟨ce, cf, hv⟩ := hr5.form
  subst hv
  clear hb5 hr5 q0 q2 z0 z1
  go_wp2_with fail
  go_ret2
  exact ⟨H5.out.1, _, rfl, H5.out.2⟩

set_option maxRecDepth 100000 in
set_option maxHeartbeats 6400000 in
theorem brought_except (B : Nat) (na : ByteArray) (nn nas : List ByteArray) (pr : ByteArray) (a0 a1 : Option Addr) (b o c0 c1 c2 n : Nat) (ea : Option Addr) (ex : List ByteArray) (k : Ly) (e0 e1 e2 : Option Addr) (f0 f1 f2 m ec : Nat) (ps : List Pr) (w : World)
    (h : Kid B ⟨3, na, nn, nas, pr⟩ a0 a1 b o n ea ex k e0 e1 e2 f0 f1 f2 m ec (.inr ps) w) (hl : ps.length ≤ 200) (hsz : ∀ p ∈ ps, p.1.size ≤ 20) (hall : allIn nn ps = true) :
    Calls Try.prog 14 #[.agg #[.int .i64 3, .string na, .slice a0 nn.length c0, .slice a1 nas.length c1, .string pr, .slice (some ⟨b, o, none⟩) (n + 1) c2], .slice ea ex.length ec] w (OutP (.inr (ps.filter fun p => !decide (p.1 ∈ nn))) w) := by
  have HK : Hid (Kid B ⟨3, na, nn, nas, pr⟩ a0 a1 b o n ea ex k e0 e1 e2 f0 f1 f2 m ec (.inr ps) w) := h
  have hfew := h.few
  have hN : b < w.heap.size := Nat.lt_of_lt_of_le h.lt h.le
  obtain ⟨k0, k1, k2, k3, k4, k5⟩ := h.cells ((Below.refl _ _).alloc (Nat.le_refl _) (.cells #[.int .i64 3, .string na, .slice a0 nn.length c0, .slice a1 nas.length c1, .string pr, .slice (some ⟨b, o, none⟩) (n + 1) c2] 25))
  have HB0 : Hid (Below w.heap.size w (w.alloc (.cells #[.int .i64 3, .string na, .slice a0 nn.length c0, .slice a1 nas.length c1, .string pr, .slice (some ⟨b, o, none⟩) (n + 1) c2] 25)) ∧ Box w.heap.size ⟨3, na, nn, nas, pr⟩ a0 a1 (some ⟨b, o, none⟩) c0 c1 c2 (n + 1) (w.alloc (.cells #[.int .i64 3, .string na, .slice a0 nn.length c0, .slice a1 nas.length c1, .string pr, .slice (some ⟨b, o, none⟩) (n + 1) c2] 25))) := ⟨(Below.refl _ _).alloc (Nat.le_refl _) _, Box.made ⟨3, na, nn, nas, pr⟩ a0 a1 (some ⟨b, o, none⟩) c0 c1 c2 (n + 1) w⟩
  clear h
  have hmf : ∀ (fn : Fn) (first cap : Array Value) (w : World), (Instr.makeFunc fn first cap).run Try.prog w = .ok (.func fn first cap) w := fun _ _ _ _ => rfl
  obtain ⟨qs, HQS⟩ : ∃ qs, Hid ((ps.filter fun p => !decide (p.1 ∈ nn)) = qs) := ⟨_, rfl⟩
  rw [HQS.out]
  go_enter Try.func14, Try.ntmps14
  go_wp2_with fail
  refine (HK.out.call _ HB0.out.1).mono ?_
  rintro e w1 ⟨hb1, v1, rfl, hr1⟩
  obtain ⟨ca, cc, hv1, hp1⟩ := hr1.lie (by omega)
  subst hv1
  have H1 : Hid (Below w.heap.size w w1 ∧ Prs w1.heap.size w1 ca ps ∧ LiesL B w1 ⟨3, na, nn, nas, pr⟩ a0 a1 ∧ B ≤ w1.heap.size ∧ Box w.heap.size ⟨3, na, nn, nas, pr⟩ a0 a1 (some ⟨b, o, none⟩) c0 c1 c2 (n + 1) w1) := by
    have hb : Below w.heap.size w w1 := HB0.out.1.trans (hb1.mono HB0.out.1.size)
    exact ⟨hb, hp1, HK.out.ly.stay (fun k hk => hb.block k (Nat.lt_of_lt_of_le hk HK.out.le)) (Nat.le_refl _), Nat.le_trans HK.out.le hb.size, HB0.out.2.below hb1⟩
  have q0 := H1.out.2.2.2.2.q0
  have q2 := H1.out.2.2.2.2.q2
  have q4 := H1.out.2.2.2.2.q4
  simp only at q0 q2 q4
  clear hb1 hr1 hp1 k0 k1 k2 k3 k4 k5
  have AB : Hid (Calls Try.prog 32 #[.slice a0 nn.length c0, .slice ca ps.length cc] w1 fun e w' => e = .returned (.bool true) ∧ Below w1.heap.size w1 w') := by
    have := allBrought_any w1.heap.size nn ps a0 ca c0 cc w1 (H1.out.2.2.1.names.stay (Old.refl _ _) H1.out.2.2.2.1) H1.out.2.1 (Nat.le_refl _) hl hsz
    rwa [hall] at this
  clear hall
  go_wp2_with fail
  refine AB.out.mono ?_
  rintro e w2 ⟨rfl, hb2⟩
  have H2 : Hid (Below w.heap.size w w2 ∧ Prs w1.heap.size w2 ca ps ∧ LiesL B w2 ⟨3, na, nn, nas, pr⟩ a0 a1 ∧ B ≤ w1.heap.size ∧ w1.heap.size ≤ w2.heap.size ∧ Box w.heap.size ⟨3, na, nn, nas, pr⟩ a0 a1 (some ⟨b, o, none⟩) c0 c1 c2 (n + 1) w2) :=
    ⟨H1.out.1.trans (hb2.mono H1.out.1.size), H1.out.2.1.old (fun k hk => hb2.block k hk) (Nat.le_refl _), H1.out.2.2.1.stay (fun k hk => hb2.block k (Nat.lt_of_lt_of_le hk H1.out.2.2.2.1)) (Nat.le_refl _), H1.out.2.2.2.1, hb2.size, H1.out.2.2.2.2.below hb2⟩
  clear q0 q2 q4 AB
  have q2 := H2.out.2.2.2.2.2.q2
  simp only at q2
  have PL : Hid (Calls Try.prog 28 #[.slice a0 nn.length c0] w2 fun e w' => e = .returned (.map (some w2.heap.size)) ∧ Below w2.heap.size w2 w' ∧ MapIs w2.heap.size nn.length (plc nn) w') := places_any B nn a0 c0 w2 H2.out.2.2.1.names (Nat.le_trans H2.out.2.2.2.1 H2.out.2.2.2.2.1)
  clear hb2
  go_wp2_with fail
  refine PL.out.mono ?_
  rintro e w3 ⟨rfl, hb3, hm3⟩
  have H3 : Hid (Below w.heap.size w w3 ∧ Prs w1.heap.size w3 ca ps ∧ LiesL B w3 ⟨3, na, nn, nas, pr⟩ a0 a1 ∧ B ≤ w1.heap.size ∧ w1.heap.size ≤ w3.heap.size ∧ Box w.heap.size ⟨3, na, nn, nas, pr⟩ a0 a1 (some ⟨b, o, none⟩) c0 c1 c2 (n + 1) w3 ∧ MapIs w2.heap.size nn.length (plc nn) w3) :=
    ⟨H2.out.1.trans (hb3.mono H2.out.1.size), H2.out.2.1.old (fun k hk => hb3.block k (Nat.lt_of_lt_of_le hk H2.out.2.2.2.2.1)) (Nat.le_refl _), H2.out.2.2.1.stay (fun k hk => hb3.block k (Nat.lt_of_lt_of_le hk (Nat.le_trans H2.out.2.2.2.1 H2.out.2.2.2.2.1))) (Nat.le_refl _), H2.out.2.2.2.1, Nat.le_trans H2.out.2.2.2.2.1 hb3.size, H2.out.2.2.2.2.2.below hb3, hm3⟩
  have hlt3 : w.heap.size < w3.heap.size := H3.out.2.2.2.2.2.1.lt
  have hb4 : Below w3.heap.size w3 ((w3.alloc (.cells #[.map (some w2.heap.size)] 51)).alloc (.cells #[.func (.func 33) #[] #[.pointer (some ⟨w3.heap.size, 0, none⟩)]] 46)) := ((Below.refl _ _).alloc (Nat.le_refl _) _).alloc (by simp) _
  have z0 : ((w3.alloc (.cells #[.map (some w2.heap.size)] 51)).alloc (.cells #[.func (.func 33) #[] #[.pointer (some ⟨w3.heap.size, 0, none⟩)]] 46)).cell? ⟨w3.heap.size, 0, none⟩ = some (.map (some w2.heap.size)) := by simp [go_sem]
  have z1 : ((w3.alloc (.cells #[.map (some w2.heap.size)] 51)).alloc (.cells #[.func (.func 33) #[] #[.pointer (some ⟨w3.heap.size, 0, none⟩)]] 46)).cell? ⟨w3.heap.size + 1, 0, none⟩ = some (.func (.func 33) #[] #[.pointer (some ⟨w3.heap.size, 0, none⟩)]) := by simp [go_sem]
  have hm4 := H3.out.2.2.2.2.2.2.below hb4
  have hp4 := H3.out.2.1.old (fun k hk => hb4.block k (Nat.lt_of_lt_of_le hk H3.out.2.2.2.2.1)) (Nat.le_refl _)
  have hs4 := hb4.size
  have hlt4 : w3.heap.size + 1 < ((w3.alloc (.cells #[.map (some w2.heap.size)] 51)).alloc (.cells #[.func (.func 33) #[] #[.pointer (some ⟨w3.heap.size, 0, none⟩)]] 46)).heap.size := by simp
  have hbx := H3.out.2.2.2.2.2.1.below hb4
  have hly := H3.out.2.2.1.stay (fun k hk => hb4.block k (Nat.lt_of_lt_of_le hk (Nat.le_trans H3.out.2.2.2.1 H3.out.2.2.2.2.1))) (Nat.le_refl _)
  have hb05 : Below w.heap.size w ((w3.alloc (.cells #[.map (some w2.heap.size)] 51)).alloc (.cells #[.func (.func 33) #[] #[.pointer (some ⟨w3.heap.size, 0, none⟩)]] 46)) := H3.out.1.trans (hb4.mono H3.out.1.size)
  have q0 := hbx.q0
  simp only at q0
  have KP : Hid (∀ W, W = ((w3.alloc (.cells #[.map (some w2.heap.size)] 51)).alloc (.cells #[.func (.func 33) #[] #[.pointer (some ⟨w3.heap.size, 0, none⟩)]] 46)) → Calls Try.prog 34 #[.slice ca ps.length cc, .func (.func 35) #[] #[.pointer (some ⟨w3.heap.size + 1, 0, none⟩)]] W (fun e w' => ∃ v, e = .returned v ∧ Below w.heap.size w w' ∧ RowP w.heap.size v qs w')) := by
    intro W hW
    subst hW
    refine (kept_40 w1.heap.size ps ca cc (w3.heap.size + 1) (fun s => (!(plc nn s).isSome)) _ hp4 (Nat.le_trans H3.out.2.2.2.2.1 hs4) hl hsz ?_).mono ?_
    · intro W' s hbW hs
      exact unasked_any _ _ _ _ (plc nn) s hs W' ((hbW.cell (p := ⟨w3.heap.size + 1, 0, none⟩) hlt4).trans z1) ((hbW.cell (p := ⟨w3.heap.size, 0, none⟩) (by show w3.heap.size < _; omega)).trans z0) (hm4.below hbW)
    · rintro e w5 ⟨v, rfl, hb5, hr5⟩
      refine ⟨v, rfl, hb05.trans (hb5.mono hb05.size), ?_⟩
      have := World.ownsRow.mono hr5 hb05.size
      simp only [plc_isSome] at this
      rw [← HQS.out]
      exact this
  clear hb3 hm3 hm4 hp4 hs4 hbx hly hb05 hb4 PL
  go_wp2_with fail
  refine (KP.out _ rfl).mono ?_
  rintro e w5 ⟨v, rfl, hb5, hr5⟩
  have H5 : Hid (Below w.heap.size w w5 ∧ RowP w.heap.size v qs w5) := ⟨hb5, hr5⟩
  obtain ⟨ce, cf, hv⟩ := hr5.form
  subst hv
  clear hb5 hr5 q0 q2 z0 z1
  go_wp2_with fail
  go_ret2
  exact ⟨H5.out.1, _, rfl, H5.out.2⟩
end Go.Proofs.Ytckiihbnjfeplaa
