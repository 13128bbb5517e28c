/- Package names: what a set brings. -/
import Derived.Test.YtckiihbnjfeplaaWh
namespace Go.Proofs.Ytckiihbnjfeplaa
set_option linter.unusedVariables false
set_option linter.unusedSimpArgs false
open Go.RowKit Go.Maps Go.WideMaps

theorem named_size {s : ByteArray} (h : namedB s = true) : s.size ≤ 20 := by
  unfold namedB at h
  simp only [Bool.and_eq_true, decide_eq_true_eq] at h
  exact h.1.1.2

theorem OutP.mono {r : Sum Int (List Pr)} {w w1 w2 : World} {e : Ending} (hb : Below w.heap.size w w1) (h : OutP r w1 e w2) : OutP r w e w2 := by
  obtain ⟨h1, h2⟩ := h
  refine ⟨hb.trans (h1.mono hb.size), ?_⟩
  cases r with
  | inl x => exact h2
  | inr qs =>
    obtain ⟨v, he, hr⟩ := h2
    exact ⟨v, he, hr.mono hb.size⟩

set_option maxRecDepth 100000 in
set_option maxHeartbeats 1600000 in
theorem brought_lib (B : Nat) (l : Ly) (a0 a1 a2 : Option Addr) (c0 c1 c2 n : Nat) (hk : l.kind = 1) (ex : List ByteArray) (ea : Option Addr) (ec : Nat) (w : World) (he : Strs B w ea ex) (hB : B ≤ w.heap.size) (hl : ex.length ≤ 200) (hsz : ∀ s ∈ ex, s.size ≤ 20) :
    Calls Try.prog 14 #[setA l a0 a1 a2 c0 c1 c2 n, .slice ea ex.length ec] w (OutP (.inr (ex.map fun x => (x, x))) w) := by
  have AT : Hid (∀ w', Below w.heap.size w w' → Calls Try.prog 30 #[.slice ea ex.length ec] w' fun e w'' => ∃ v, e = .returned v ∧ Below w'.heap.size w' w'' ∧ RowP w'.heap.size v (ex.map fun x => (x, x)) w'') := fun w' hb =>
    asThemselves_any B ex ea ec w' (he.stay (fun k hk => hb.block k (Nat.lt_of_lt_of_le hk hB)) (Nat.le_refl _)) (Nat.le_trans hB hb.size) hl hsz
  clear he
  unfold setA
  rw [hk]
  go_enter Try.func14, Try.ntmps14
  go_wp2_with fail
  refine (AT.out _ ((Below.refl _ _).alloc (Nat.le_refl _) _)).mono ?_
  rintro e w1 ⟨v, rfl, hb1, hr1⟩
  have H1 : Hid (Below w.heap.size w w1 ∧ RowP w.heap.size v (ex.map fun x => (x, x)) w1) := ⟨((Below.refl _ _).alloc (Nat.le_refl _) _).trans (hb1.mono (by simp)), hr1.mono (by simp)⟩
  obtain ⟨ca, cc, hv⟩ := hr1.form
  subst hv
  clear hb1 hr1
  go_wp2_with fail
  go_ret2
  refine ⟨H1.out.1, _, rfl, ?_⟩
  have := H1.out.2
  rw [List.length_map] at this
  exact this

/-- What is known where a set of another brings something: its cells, its kid's, what its kid brings. -/
structure Kid (B : Nat) (l : Ly) (a0 a1 : Option Addr) (b o n : Nat) (ea : Option Addr) (ex : List ByteArray) (k : Ly) (e0 e1 e2 : Option Addr) (f0 f1 f2 m ec : Nat) (r : Sum Int (List Pr)) (w : World) : Prop where
  ly : LiesL B w l a0 a1
  few : n + 1 ≤ 9223372036854775807
  le : B ≤ w.heap.size
  lt : b < B
  cell : ∀ (i : Nat) (v : Value), (setV k e0 e1 e2 f0 f1 f2 m)[i]? = some v → w.cell? ⟨b, o + i, none⟩ = some v
  call : ∀ w', Below w.heap.size w w' → Calls Try.prog 14 #[setA k e0 e1 e2 f0 f1 f2 m, .slice ea ex.length ec] w' (OutP r w')

section
variable {B : Nat} {l : Ly} {a0 a1 : Option Addr} {b o n : Nat} {ea : Option Addr} {ex : List ByteArray} {k : Ly} {e0 e1 e2 : Option Addr} {f0 f1 f2 m ec : Nat} {r : Sum Int (List Pr)} {w : World}
theorem Kid.cells (h : Kid B l a0 a1 b o n ea ex k e0 e1 e2 f0 f1 f2 m ec r w) {w' : World} (hb : Below w.heap.size w w') :
    w'.cell? ⟨b, o, none⟩ = some (.int .i64 k.kind) ∧ w'.cell? ⟨b, o + 1, none⟩ = some (.string k.name) ∧ w'.cell? ⟨b, o + 2, none⟩ = some (.slice e0 k.names.length f0) ∧ w'.cell? ⟨b, o + 3, none⟩ = some (.slice e1 k.asn.length f1) ∧ w'.cell? ⟨b, o + 4, none⟩ = some (.string k.pre) ∧ w'.cell? ⟨b, o + 5, none⟩ = some (.slice e2 m f2) := by
  have e : ∀ q, w'.cell? ⟨b, q, none⟩ = w.cell? ⟨b, q, none⟩ := fun q => hb.cell (p := ⟨b, q, none⟩) (Nat.lt_of_lt_of_le h.lt h.le)
  exact ⟨(e _).trans (h.cell 0 _ rfl), (e _).trans (h.cell 1 _ rfl), (e _).trans (h.cell 2 _ rfl), (e _).trans (h.cell 3 _ rfl), (e _).trans (h.cell 4 _ rfl), (e _).trans (h.cell 5 _ rfl)⟩
end

/-- The six cells of a set that is boxed. -/
structure Box (sb : Nat) (l : Ly) (a0 a1 a2 : Option Addr) (c0 c1 c2 n : Nat) (w : World) : Prop where
  lt : sb < w.heap.size
  q0 : w.cell? ⟨sb, 0, none⟩ = some (.int .i64 l.kind)
  q1 : w.cell? ⟨sb, 1, none⟩ = some (.string l.name)
  q2 : w.cell? ⟨sb, 2, none⟩ = some (.slice a0 l.names.length c0)
  q3 : w.cell? ⟨sb, 3, none⟩ = some (.slice a1 l.asn.length c1)
  q4 : w.cell? ⟨sb, 4, none⟩ = some (.string l.pre)
  q5 : w.cell? ⟨sb, 5, none⟩ = some (.slice a2 n c2)
theorem Box.made (l : Ly) (a0 a1 a2 : Option Addr) (c0 c1 c2 n : Nat) (w : World) : Box w.heap.size l a0 a1 a2 c0 c1 c2 n (w.alloc (.cells #[.int .i64 l.kind, .string l.name, .slice a0 l.names.length c0, .slice a1 l.asn.length c1, .string l.pre, .slice a2 n c2] 25)) := by
  have q : ∀ j, (w.alloc (.cells #[.int .i64 l.kind, .string l.name, .slice a0 l.names.length c0, .slice a1 l.asn.length c1, .string l.pre, .slice a2 n c2] 25)).cell? ⟨w.heap.size, j, none⟩ = _ := fun j => World.cell?_alloc_mark w _ 25 (0, 0) j
  exact ⟨by simp, q 0, q 1, q 2, q 3, q 4, q 5⟩
theorem Box.below {sb : Nat} {l : Ly} {a0 a1 a2 : Option Addr} {c0 c1 c2 n : Nat} {w w' : World} (h : Box sb l a0 a1 a2 c0 c1 c2 n w) (hb : Below w.heap.size w w') : Box sb l a0 a1 a2 c0 c1 c2 n w' := by
  have e : ∀ q, w'.cell? ⟨sb, q, none⟩ = w.cell? ⟨sb, q, none⟩ := fun q => hb.cell (p := ⟨sb, q, none⟩) h.lt
  exact ⟨Nat.lt_of_lt_of_le h.lt hb.size, (e _).trans h.q0, (e _).trans h.q1, (e _).trans h.q2, (e _).trans h.q3, (e _).trans h.q4, (e _).trans h.q5⟩

set_option maxRecDepth 100000 in
set_option maxHeartbeats 6400000 in
theorem brought_err (B : Nat) (kd : Int) (na : ByteArray) (nn nas : List ByteArray) (pr : ByteArray) (a0 a1 : Option Addr) (b o c0 c1 c2 n : Nat) (ea : Option Addr) (ex : List ByteArray) (k : Ly) (e0 e1 e2 : Option Addr) (f0 f1 f2 m ec : Nat) (x : Int) (w : World)
    (h : Kid B ⟨kd, na, nn, nas, pr⟩ a0 a1 b o n ea ex k e0 e1 e2 f0 f1 f2 m ec (.inl x) w) (hk : kd ≠ 1) (hx : x ≠ 0) :
    Calls Try.prog 14 #[.agg #[.int .i64 kd, .string na, .slice a0 nn.length c0, .slice a1 nas.length c1, .string pr, .slice (some ⟨b, o, none⟩) (n + 1) c2], .slice ea ex.length ec] w (OutP (.inl x) w) := by
  have HK : Hid (Kid B ⟨kd, na, nn, nas, pr⟩ a0 a1 b o n ea ex k e0 e1 e2 f0 f1 f2 m ec (.inl x) w) := h
  have hfew := h.few
  have hN : b < w.heap.size := Nat.lt_of_lt_of_le h.lt h.le
  obtain ⟨k0, k1, k2, k3, k4, k5⟩ := h.cells ((Below.refl _ _).alloc (Nat.le_refl _) (.cells #[.int .i64 kd, .string na, .slice a0 nn.length c0, .slice a1 nas.length c1, .string pr, .slice (some ⟨b, o, none⟩) (n + 1) c2] 25))
  have HB0 : Hid (Below w.heap.size w (w.alloc (.cells #[.int .i64 kd, .string na, .slice a0 nn.length c0, .slice a1 nas.length c1, .string pr, .slice (some ⟨b, o, none⟩) (n + 1) c2] 25)) ∧ Box w.heap.size ⟨kd, na, nn, nas, pr⟩ a0 a1 (some ⟨b, o, none⟩) c0 c1 c2 (n + 1) (w.alloc (.cells #[.int .i64 kd, .string na, .slice a0 nn.length c0, .slice a1 nas.length c1, .string pr, .slice (some ⟨b, o, none⟩) (n + 1) c2] 25))) := ⟨(Below.refl _ _).alloc (Nat.le_refl _) _, Box.made ⟨kd, na, nn, nas, pr⟩ a0 a1 (some ⟨b, o, none⟩) c0 c1 c2 (n + 1) w⟩
  clear h
  have g1 : ¬ kd = 1 := hk
  have hxx : (x == 0) = false := by simpa using hx
  clear hk hx
  go_enter Try.func14, Try.ntmps14
  go_wp2_with fail
  refine (HK.out.call _ HB0.out.1).mono ?_
  rintro e w1 ⟨hb1, rfl⟩
  have H1 : Hid (Below w.heap.size w w1) := HB0.out.1.trans (hb1.mono HB0.out.1.size)
  clear hb1 k0 k1 k2 k3 k4 k5
  go_wp2_with fail
  go_ret2
  exact ⟨H1.out, rfl⟩

set_option maxRecDepth 100000 in
set_option maxHeartbeats 6400000 in
theorem brought_pre (B : Nat) (na : ByteArray) (nn nas : List ByteArray) (pr : ByteArray) (a0 a1 : Option Addr) (b o c0 c1 c2 n : Nat) (ea : Option Addr) (ex : List ByteArray) (k : Ly) (e0 e1 e2 : Option Addr) (f0 f1 f2 m ec : Nat) (ps : List Pr) (w : World)
    (h : Kid B ⟨4, na, nn, nas, pr⟩ a0 a1 b o n ea ex k e0 e1 e2 f0 f1 f2 m ec (.inr ps) w) (hl : ps.length ≤ 200) (hsz : ∀ p ∈ ps, p.1.size ≤ 20) (hpr : pr.size ≤ 20) :
    Calls Try.prog 14 #[.agg #[.int .i64 4, .string na, .slice a0 nn.length c0, .slice a1 nas.length c1, .string pr, .slice (some ⟨b, o, none⟩) (n + 1) c2], .slice ea ex.length ec] w (OutP (pref ⟨4, na, nn, nas, pr⟩ ps) w) := by
  have HK : Hid (Kid B ⟨4, na, nn, nas, pr⟩ a0 a1 b o n ea ex k e0 e1 e2 f0 f1 f2 m ec (.inr ps) w) := h
  have hfew := h.few
  have hN : b < w.heap.size := Nat.lt_of_lt_of_le h.lt h.le
  obtain ⟨k0, k1, k2, k3, k4, k5⟩ := h.cells ((Below.refl _ _).alloc (Nat.le_refl _) (.cells #[.int .i64 4, .string na, .slice a0 nn.length c0, .slice a1 nas.length c1, .string pr, .slice (some ⟨b, o, none⟩) (n + 1) c2] 25))
  have HB0 : Hid (Below w.heap.size w (w.alloc (.cells #[.int .i64 4, .string na, .slice a0 nn.length c0, .slice a1 nas.length c1, .string pr, .slice (some ⟨b, o, none⟩) (n + 1) c2] 25)) ∧ Box w.heap.size ⟨4, na, nn, nas, pr⟩ a0 a1 (some ⟨b, o, none⟩) c0 c1 c2 (n + 1) (w.alloc (.cells #[.int .i64 4, .string na, .slice a0 nn.length c0, .slice a1 nas.length c1, .string pr, .slice (some ⟨b, o, none⟩) (n + 1) c2] 25))) := ⟨(Below.refl _ _).alloc (Nat.le_refl _) _, Box.made ⟨4, na, nn, nas, pr⟩ a0 a1 (some ⟨b, o, none⟩) c0 c1 c2 (n + 1) w⟩
  clear h
  obtain ⟨R, HRR⟩ : ∃ R, Hid (pref ⟨4, na, nn, nas, pr⟩ ps = R) := ⟨_, rfl⟩
  rw [HRR.out]
  go_enter Try.func14, Try.ntmps14
  go_wp2_with fail
  refine (HK.out.call _ HB0.out.1).mono ?_
  rintro e w1 ⟨hb1, v1, rfl, hr1⟩
  obtain ⟨ca, cc, hv1, hp1⟩ := hr1.lie (by omega)
  subst hv1
  have H1 : Hid (Below w.heap.size w w1 ∧ Prs w1.heap.size w1 ca ps ∧ LiesL B w1 ⟨4, na, nn, nas, pr⟩ a0 a1 ∧ B ≤ w1.heap.size ∧ Box w.heap.size ⟨4, na, nn, nas, pr⟩ a0 a1 (some ⟨b, o, none⟩) c0 c1 c2 (n + 1) w1) := by
    have hb : Below w.heap.size w w1 := HB0.out.1.trans (hb1.mono HB0.out.1.size)
    exact ⟨hb, hp1, HK.out.ly.stay (fun k hk => hb.block k (Nat.lt_of_lt_of_le hk HK.out.le)) (Nat.le_refl _), Nat.le_trans HK.out.le hb.size, HB0.out.2.below hb1⟩
  have q0 := H1.out.2.2.2.2.q0
  have q2 := H1.out.2.2.2.2.q2
  have q4 := H1.out.2.2.2.2.q4
  simp only at q0 q2 q4
  clear hb1 hr1 hp1 k0 k1 k2 k3 k4 k5
  have PF : Hid (Calls Try.prog 31 #[.slice ca ps.length cc, .string pr] w1 (OutP R w1)) := by
    have := prefixed_any w1.heap.size ⟨4, na, nn, nas, pr⟩ ps ca cc w1 H1.out.2.1 (Nat.le_refl _) hl hsz hpr
    rwa [HRR.out] at this
  go_wp2_with fail
  refine PF.out.mono ?_
  intro e w2 hout
  have H2 : Hid (OutP R w e w2) := OutP.mono H1.out.1 hout
  clear q0 q2 q4 PF
  cases R with
  | inl x =>
    obtain ⟨_, rfl⟩ := hout
    go_wp2_with fail
    go_ret2
    exact H2.out
  | inr qs =>
    obtain ⟨_, v2, rfl, hr2⟩ := hout
    obtain ⟨cb, cd, hv2⟩ := hr2.form
    subst hv2
    clear hr2
    go_wp2_with fail
    go_ret2
    exact H2.out
end Go.Proofs.Ytckiihbnjfeplaa
