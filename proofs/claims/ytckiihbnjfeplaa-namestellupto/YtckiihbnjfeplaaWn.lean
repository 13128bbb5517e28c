/- Package names: Of. -/
import Derived.Test.YtckiihbnjfeplaaWm
namespace Go.Proofs.Ytckiihbnjfeplaa
set_option linter.unusedVariables false
set_option linter.unusedSimpArgs false
open Go.RowKit

/-- What Of leaves. -/
def OutO (r : Sum Int (List Pr)) (w : World) (e : Ending) (w' : World) : Prop :=
  Below w.heap.size w w' ∧ match r with
    | .inl x => e = .returned (.tuple #[.slice none 0 0, .int .i64 x])
    | .inr qs => ∃ a cap, e = .returned (.tuple #[.slice a qs.length cap, .int .i64 0]) ∧ Prs w'.heap.size w' a qs

def sortR : Sum Int (List Pr) → Sum Int (List Pr)
  | .inl e => .inl e
  | .inr ps => .inr (srt (·.1) ps)

theorem ofL_br {s : St} {ex : List ByteArray} (hf : form 12 s = 0) (hw : wex ex = 0) : ofL s ex = sortR (br ex s) := by
  unfold ofL
  rw [if_neg (by simp [hf]), if_neg (by simp [hw])]
  cases br ex s <;> rfl
theorem ofL_wex {s : St} {ex : List ByteArray} (hf : form 12 s = 0) (hw : wex ex ≠ 0) : ofL s ex = .inl (wex ex) := by
  unfold ofL
  rw [if_neg (by simp [hf]), if_pos hw]
theorem ofL_form {s : St} {ex : List ByteArray} (hf : form 12 s ≠ 0) : ofL s ex = .inl (form 12 s) := by
  unfold ofL
  rw [if_pos hf]

section
variable (kd : Int) (na : ByteArray) (nn nas : List ByteArray) (pr : ByteArray) (a0 a1 a2 : Option Addr) (c0 c1 c2 n : Nat) (ea : Option Addr) (el ec : Nat) (w : World)

set_option maxRecDepth 100000 in
set_option maxHeartbeats 3200000 in
theorem Of_form (x : Int) (hx : x ≠ 0)
    (h1 : ∀ w', Below w.heap.size w w' → Calls Try.prog 12 #[.agg #[.int .i64 kd, .string na, .slice a0 nn.length c0, .slice a1 nas.length c1, .string pr, .slice a2 n c2], .int .i64 1] w' fun e w'' => e = .returned (.int .i64 x) ∧ Below w'.heap.size w' w'') :
    Calls Try.prog 4 #[.agg #[.int .i64 kd, .string na, .slice a0 nn.length c0, .slice a1 nas.length c1, .string pr, .slice a2 n c2], .slice ea el ec] w (OutO (.inl x) w) := by
  have H1 : Hid (∀ w', Below w.heap.size w w' → Calls Try.prog 12 #[.agg #[.int .i64 kd, .string na, .slice a0 nn.length c0, .slice a1 nas.length c1, .string pr, .slice a2 n c2], .int .i64 1] w' fun e w'' => e = .returned (.int .i64 x) ∧ Below w'.heap.size w' w'') := h1
  have hxx : (x == 0) = false := by simpa using hx
  clear h1 hx
  go_enter Try.func4, Try.ntmps4
  go_wp2_with fail
  refine (H1.out _ ((Below.refl _ _).alloc (Nat.le_refl _) _)).mono ?_
  rintro e w1 ⟨rfl, hb1⟩
  have HB : Hid (Below w.heap.size w w1) := ((Below.refl _ _).alloc (Nat.le_refl _) _).trans (hb1.mono (by simp))
  clear hb1
  go_wp2_with fail
  go_ret2
  exact ⟨HB.out, rfl⟩

set_option maxRecDepth 100000 in
set_option maxHeartbeats 3200000 in
theorem Of_exports (x : Int) (hx : x ≠ 0)
    (h1 : ∀ w', Below w.heap.size w w' → Calls Try.prog 12 #[.agg #[.int .i64 kd, .string na, .slice a0 nn.length c0, .slice a1 nas.length c1, .string pr, .slice a2 n c2], .int .i64 1] w' fun e w'' => e = .returned (.int .i64 0) ∧ Below w'.heap.size w' w'')
    (h2 : ∀ w', Below w.heap.size w w' → Calls Try.prog 13 #[.slice ea el ec] w' fun e w'' => e = .returned (.int .i64 x) ∧ Below w'.heap.size w' w'') :
    Calls Try.prog 4 #[.agg #[.int .i64 kd, .string na, .slice a0 nn.length c0, .slice a1 nas.length c1, .string pr, .slice a2 n c2], .slice ea el ec] w (OutO (.inl x) w) := by
  have H1 : Hid (∀ w', Below w.heap.size w w' → Calls Try.prog 12 #[.agg #[.int .i64 kd, .string na, .slice a0 nn.length c0, .slice a1 nas.length c1, .string pr, .slice a2 n c2], .int .i64 1] w' fun e w'' => e = .returned (.int .i64 0) ∧ Below w'.heap.size w' w'') := h1
  have H2 : Hid (∀ w', Below w.heap.size w w' → Calls Try.prog 13 #[.slice ea el ec] w' fun e w'' => e = .returned (.int .i64 x) ∧ Below w'.heap.size w' w'') := h2
  have hxx : (x == 0) = false := by simpa using hx
  clear h1 h2 hx
  go_enter Try.func4, Try.ntmps4
  go_wp2_with fail
  refine (H1.out _ ((Below.refl _ _).alloc (Nat.le_refl _) _)).mono ?_
  rintro e w1 ⟨rfl, hb1⟩
  have HB : Hid (Below w.heap.size w w1) := ((Below.refl _ _).alloc (Nat.le_refl _) _).trans (hb1.mono (by simp))
  clear hb1
  go_wp2_with fail
  refine (H2.out _ HB.out).mono ?_
  rintro e w2 ⟨rfl, hb2⟩
  have HB2 : Hid (Below w.heap.size w w2) := HB.out.trans (hb2.mono HB.out.size)
  clear hb2
  go_wp2_with fail
  go_ret2
  exact ⟨HB2.out, rfl⟩

set_option maxRecDepth 100000 in
set_option maxHeartbeats 3200000 in
theorem Of_brought (r : Sum Int (List Pr)) (hl : ∀ ps, r = .inr ps → ps.length ≤ 200 ∧ (ps.map (·.1)).Nodup) (hne : ∀ x, r = .inl x → x ≠ 0)
    (h1 : ∀ w', Below w.heap.size w w' → Calls Try.prog 12 #[.agg #[.int .i64 kd, .string na, .slice a0 nn.length c0, .slice a1 nas.length c1, .string pr, .slice a2 n c2], .int .i64 1] w' fun e w'' => e = .returned (.int .i64 0) ∧ Below w'.heap.size w' w'')
    (h2 : ∀ w', Below w.heap.size w w' → Calls Try.prog 13 #[.slice ea el ec] w' fun e w'' => e = .returned (.int .i64 0) ∧ Below w'.heap.size w' w'')
    (h3 : ∀ w', Below w.heap.size w w' → Calls Try.prog 14 #[.agg #[.int .i64 kd, .string na, .slice a0 nn.length c0, .slice a1 nas.length c1, .string pr, .slice a2 n c2], .slice ea el ec] w' (OutP r w')) :
    Calls Try.prog 4 #[.agg #[.int .i64 kd, .string na, .slice a0 nn.length c0, .slice a1 nas.length c1, .string pr, .slice a2 n c2], .slice ea el ec] w (OutO (sortR r) w) := by
  have H1 : Hid (∀ w', Below w.heap.size w w' → Calls Try.prog 12 #[.agg #[.int .i64 kd, .string na, .slice a0 nn.length c0, .slice a1 nas.length c1, .string pr, .slice a2 n c2], .int .i64 1] w' fun e w'' => e = .returned (.int .i64 0) ∧ Below w'.heap.size w' w'') := h1
  have H2 : Hid (∀ w', Below w.heap.size w w' → Calls Try.prog 13 #[.slice ea el ec] w' fun e w'' => e = .returned (.int .i64 0) ∧ Below w'.heap.size w' w'') := h2
  have H3 : Hid (∀ w', Below w.heap.size w w' → Calls Try.prog 14 #[.agg #[.int .i64 kd, .string na, .slice a0 nn.length c0, .slice a1 nas.length c1, .string pr, .slice a2 n c2], .slice ea el ec] w' (OutP r w')) := h3
  have HBX : Hid (Box w.heap.size ⟨kd, na, nn, nas, pr⟩ a0 a1 a2 c0 c1 c2 n (w.alloc (.cells #[.int .i64 kd, .string na, .slice a0 nn.length c0, .slice a1 nas.length c1, .string pr, .slice a2 n c2] 25))) := Box.made ⟨kd, na, nn, nas, pr⟩ a0 a1 a2 c0 c1 c2 n w
  have HL : Hid ((∀ ps, r = .inr ps → ps.length ≤ 200 ∧ (ps.map (·.1)).Nodup) ∧ ∀ x, r = .inl x → x ≠ 0) := ⟨hl, hne⟩
  clear h1 h2 h3 hl hne
  obtain ⟨R, HRR⟩ : ∃ R : Sum Int (List Pr), Hid (sortR r = R) := ⟨_, rfl⟩
  rw [HRR.out]
  go_enter Try.func4, Try.ntmps4
  go_wp2_with fail
  refine (H1.out _ ((Below.refl _ _).alloc (Nat.le_refl _) _)).mono ?_
  rintro e w1 ⟨rfl, hb1⟩
  have HB : Hid (Below w.heap.size w w1 ∧ Box w.heap.size ⟨kd, na, nn, nas, pr⟩ a0 a1 a2 c0 c1 c2 n w1) := ⟨((Below.refl _ _).alloc (Nat.le_refl _) _).trans (hb1.mono (by simp)), HBX.out.below hb1⟩
  clear hb1
  go_wp2_with fail
  refine (H2.out _ HB.out.1).mono ?_
  rintro e w2 ⟨rfl, hb2⟩
  have hbx := HB.out.2.below hb2
  have HB2 : Hid (Below w.heap.size w w2) := HB.out.1.trans (hb2.mono HB.out.1.size)
  obtain ⟨q0, q1, q2, q3, q4, q5⟩ := (⟨hbx.q0, hbx.q1, hbx.q2, hbx.q3, hbx.q4, hbx.q5⟩ : _ ∧ _ ∧ _ ∧ _ ∧ _ ∧ _)
  simp only at q0 q1 q2 q3 q4 q5
  clear hb2 hbx
  go_wp2_with fail
  refine (H3.out _ HB2.out).mono ?_
  intro e w3 hout
  clear q0 q1 q2 q3 q4 q5 H1 H2 H3 HBX HB
  cases r with
  | inl x =>
    obtain ⟨hb3, rfl⟩ := hout
    have HB3 : Hid (Below w.heap.size w w3) := HB2.out.trans (hb3.mono HB2.out.size)
    have hx := HL.out.2 x rfl
    have hxx : (x == 0) = false := by simpa using hx
    have HR0 : Hid (R = .inl x) := HRR.out.symm
    clear hb3 hx
    go_wp2_with fail
    go_ret2
    rw [HR0.out]
    exact ⟨HB3.out, rfl⟩
  | inr ps =>
    obtain ⟨hb3, v, rfl, hr3⟩ := hout
    have HB3 : Hid (Below w.heap.size w w3) := HB2.out.trans (hb3.mono HB2.out.size)
    have HR0 : Hid (R = .inr (srt (·.1) ps)) := HRR.out.symm
    have SR : Hid (Calls Try.prog 15 #[v, .func (.func 16) #[] #[]] w3 fun e w' => e = .returned (.tuple #[]) ∧ Below w2.heap.size w3 w' ∧ ∃ a cap, v = .slice a ps.length cap ∧ Prs w'.heap.size w' a (srt (·.1) ps)) := sortPairs_any w2.heap.size v ps w3 hr3 (HL.out.1 ps rfl).1 (HL.out.1 ps rfl).2
    obtain ⟨ca, cc, hv⟩ := hr3.form
    subst hv
    clear hb3 hr3
    go_wp2_with fail
    refine SR.out.mono ?_
    rintro e w4 ⟨rfl, hb4, a', cap', hv, hp⟩
    have hva : ca = a' ∧ cc = cap' := by simpa using hv
    obtain ⟨rfl, rfl⟩ := hva
    have H4 : Hid (Below w.heap.size w w4 ∧ Prs w4.heap.size w4 ca (srt (·.1) ps)) := ⟨HB3.out.trans (hb4.mono HB2.out.size), hp⟩
    clear hb4 hv hp SR
    go_wp2_with fail
    go_ret2
    rw [HR0.out]
    refine ⟨H4.out.1, ca, cc, ?_, H4.out.2⟩
    rw [(srt_perm _ _).length_eq]
    rfl
end

theorem Of_any (B : Nat) (s : St) (vs : List Value) (ex : List ByteArray) (ea : Option Addr) (ec : Nat) (w : World) (h : LiesS B w s vs) (he : Strs B w ea ex) (hB : B ≤ w.heap.size) :
    Calls Try.prog 4 #[aggOf vs, .slice ea ex.length ec] w (OutO (ofL s ex) w) := by
  have h1 : ∀ w', Below w.heap.size w w' → Calls Try.prog 12 #[aggOf vs, .int .i64 1] w' fun e w'' => e = .returned (.int .i64 (form 12 s)) ∧ Below w'.heap.size w' w'' := fun w' hb => wrongSet_any B 12 s vs w' (Nat.le_refl _) (h.old hB hb) (Nat.le_trans hB hb.size)
  have h2 : ∀ w', Below w.heap.size w w' → Calls Try.prog 13 #[.slice ea ex.length ec] w' fun e w'' => e = .returned (.int .i64 (wex ex)) ∧ Below w'.heap.size w' w'' := fun w' hb => wrongExports_any B ex ea ec w' (he.stay (fun k hk => hb.block k (Nat.lt_of_lt_of_le hk hB)) (Nat.le_refl _)) (Nat.le_trans hB hb.size)
  have h3 : form 12 s = 0 → wex ex = 0 → ∀ w', Below w.heap.size w w' → Calls Try.prog 14 #[aggOf vs, .slice ea ex.length ec] w' (OutP (br ex s) w') := fun hf hw w' hb => brought_any B ex ea ec hw 12 s vs w' hf (h.old hB hb) (Nat.le_trans hB hb.size) (he.stay (fun k hk => hb.block k (Nat.lt_of_lt_of_le hk hB)) (Nat.le_refl _))
  obtain ⟨a0, a1, a2, c0, c1, c2, rfl, hL, hn⟩ := h.cells
  by_cases hf : form 12 s = 0
  · rw [hf] at h1
    by_cases hw : wex ex = 0
    · rw [hw] at h2
      rw [ofL_br hf hw]
      refine Of_brought s.ly.kind s.ly.name s.ly.names s.ly.asn s.ly.pre a0 a1 a2 c0 c1 c2 s.nk ea ex.length ec w (br ex s) ?_ (fun x hx => br_ne s x hx) h1 h2 (h3 hf hw)
      intro ps hps
      have g := br_good hw 12 s ps hf hps
      exact ⟨Nat.le_trans g.few (wex_ok hw).1, g.nodup⟩
    · rw [ofL_wex hf hw]
      exact Of_exports s.ly.kind s.ly.name s.ly.names s.ly.asn s.ly.pre a0 a1 a2 c0 c1 c2 s.nk ea ex.length ec w _ hw h1 h2
  · rw [ofL_form hf]
    exact Of_form s.ly.kind s.ly.name s.ly.names s.ly.asn s.ly.pre a0 a1 a2 c0 c1 c2 s.nk ea ex.length ec w _ hf h1
end Go.Proofs.Ytckiihbnjfeplaa
