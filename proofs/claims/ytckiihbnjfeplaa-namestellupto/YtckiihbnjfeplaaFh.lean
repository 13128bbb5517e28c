/- The document's own answer: Bring. -/
import Derived.Test.YtckiihbnjfeplaaFe
import Derived.Test.YtckiihbnjfeplaaFf
import Derived.Test.YtckiihbnjfeplaaFg
namespace Go.Proofs.Ytckiihbnjfeplaa
set_option linter.unusedVariables false
set_option linter.unusedSimpArgs false
open Go.RowKit

set_option maxRecDepth 100000 in
set_option maxHeartbeats 1600000 in
theorem Bring_lib (l : Ly) (a0 a1 a2 : Option Addr) (c0 c1 c2 n : Nat) (h : l.kind = 1) (pa : Option Addr) (pc : Nat) (ps : List Pr) (w : World) (hps : Prs w.heap.size w pa ps) :
    Calls Try.prog 21 #[setA l a0 a1 a2 c0 c1 c2 n, .slice pa ps.length pc] w fun e w' => Below w.heap.size w w' ∧ Brings (.inr ps) e w' := by
  unfold setA
  rw [h]
  have HP : Hid (Prs w.heap.size w pa ps) := hps
  clear hps
  go_enter Try.func21, Try.ntmps21
  go_wp2_with fail
  go_ret2
  exact ⟨(Below.refl _ _).alloc (Nat.le_refl _) _, pa, pc, rfl, HP.out.size_le ((Below.refl _ _).alloc (Nat.le_refl _) _) (by simp)⟩

theorem named_size {s : ByteArray} (h : namedB s = true) : s.size ≤ 20 := by
  unfold namedB at h
  simp at h
  omega

theorem Bring_any (B : Nat) (ex : List ByteArray) (hw : wex ex = 0) (pa : Option Addr) (pc : Nat) (hfine : ∀ f s ps, form f s = 0 → br ex s = .inr ps → Fine ps) :
    ∀ (f : Nat) (s : St) (vs : List Value) (w : World), f ≤ 12 → form f s = 0 → LiesS B w s vs → B ≤ w.heap.size → Prs B w pa (ex.map fun x => (x, x)) →
      Calls Try.prog 21 #[aggOf vs, .slice pa ex.length pc] w fun e w' => Below w.heap.size w w' ∧ Brings (br ex s) e w'
  | 0, s, vs, w, _, hf, h, hB, hp => by cases hf
  | f + 1, s, vs, w, hfl, hf, h, hB, hp => by
    obtain ⟨a0, a1, a2, c0, c1, c2, hvs, hL, hn⟩ := h.cells
    by_cases h1 : s.ly.kind = 1
    · have e : br ex s = .inr (ex.map fun x => (x, x)) := by
        cases s with
        | last l => rfl
        | more l n k => simp only [St.ly] at h1; simp [br, h1]
      rw [e, hvs]
      have := Bring_lib s.ly a0 a1 a2 c0 c1 c2 s.nk h1 pa pc (ex.map fun x => (x, x)) w (hp.old (Old.refl _ _) hB)
      rw [List.length_map] at this
      exact this
    · by_cases h2 : s.ly.kind < 2 ∨ 5 < s.ly.kind
      · rw [form_kind h1 h2] at hf
        cases hf
      · by_cases h3 : aloneS s.ly s.nk = 0
        · cases s with
          | last l => exact absurd h3 alone_last
          | more l n k =>
            obtain ⟨a0, a1, b, o, c0, c1, c2, ws, rfl, hL, hn, hb, hk, hc⟩ := h
            obtain ⟨e0, e1, e2, f0, f1, f2, rfl, _, _⟩ := hk.cells
            simp only [St.ly, St.nk] at *
            have hn0 : n = 0 := by
              refine Classical.byContradiction fun c => ?_
              unfold aloneS at h3
              rw [if_pos (Or.inl (by omega))] at h3
              cases h3
            subst hn0
            rw [form_kid (by omega) h3] at hf
            have hcall : ∀ w', Below w.heap.size w w' → Calls Try.prog 21 #[setA k.ly e0 e1 e2 f0 f1 f2 k.nk, .slice pa ex.length pc] w' fun e w'' => Below w'.heap.size w' w'' ∧ Brings (br ex k) e w'' := fun w' hb' =>
              Bring_any B ex hw pa pc hfine f k _ w' (by omega) hf (hk.old hB hb') (Nat.le_trans hB hb'.size) (hp.old (fun q hq => hb'.block q (Nat.lt_of_lt_of_le hq hB)) (Nat.le_refl _))
            have hfk : ∀ ps, br ex k = .inr ps → Fine ps := fun ps hps => hfine f k ps hf hps
            have hbr : br ex (.more l 0 k) = onto l (br ex k) := by
              conv => lhs; unfold br
              rw [if_neg h1]
              cases br ex k <;> rfl
            rw [hbr]
            obtain ⟨kd, na, nn, nas, pr⟩ := l
            simp only at *
            have hcase : kd = 2 ∨ kd = 3 ∨ kd = 4 ∨ kd = 5 := by omega
            rcases hcase with rfl | rfl | rfl | rfl
            · exact Bring_only na nn nas pr B a0 a1 b o c0 c1 c2 w hL hB hb (br ex k) hfk k.ly e0 e1 e2 f0 f1 f2 k.nk hc _ hcall
            · exact Bring_except na nn nas pr B a0 a1 b o c0 c1 c2 w hL hB hb (br ex k) hfk k.ly e0 e1 e2 f0 f1 f2 k.nk hc _ hcall
            · have hpr : namedB pr = true := by
                cases hq : namedB pr with
                | true => rfl
                | false => simp [aloneS, hq] at h3
              exact Bring_pref na nn nas pr B a0 a1 b o c0 c1 c2 w hL hB (named_size hpr) hb (br ex k) hfk k.ly e0 e1 e2 f0 f1 f2 k.nk hc _ hcall
            · have hle : nas.length = nn.length := by
                refine Classical.byContradiction fun c => ?_
                unfold aloneS at h3
                rw [if_pos (Or.inr ⟨rfl, c⟩)] at h3
                cases h3
              have hall : nas.all namedB = true := by
                cases hq : nas.all namedB with
                | true => rfl
                | false => simp [aloneS, hq, hle] at h3
              exact Bring_ren na nn nas pr B a0 a1 b o c0 c1 c2 w hL hB hle hall hb (br ex k) hfk k.ly e0 e1 e2 f0 f1 f2 k.nk hc _ hcall
        · rw [form_alone (by omega) h3] at hf
          exact absurd hf h3
end Go.Proofs.Ytckiihbnjfeplaa
