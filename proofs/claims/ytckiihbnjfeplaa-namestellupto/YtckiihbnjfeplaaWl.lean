/- Package names: what any set brings. -/
import Derived.Test.YtckiihbnjfeplaaWk
namespace Go.Proofs.Ytckiihbnjfeplaa
set_option linter.unusedVariables false
set_option linter.unusedSimpArgs false
open Go.RowKit Go.Maps Go.WideMaps

theorem br_ne {ex : List ByteArray} : ∀ (s : St) (x : Int), br ex s = .inl x → x ≠ 0 := by
  intro t
  induction t with
  | last l => intro x hx; cases hx
  | more l n k ih =>
    intro x hx
    simp only [br] at hx
    split at hx
    · cases hx
    · cases ek : br ex k with
      | inl y => rw [ek] at hx; cases hx; exact ih _ ek
      | inr ps =>
        rw [ek] at hx
        simp only [step, pref, rena] at hx
        split at hx
        · split at hx
          · cases hx
          · cases hx; decide
        · split at hx
          · split at hx
            · cases hx
            · split at hx
              · cases hx
              · split at hx
                · cases hx
                · cases hx; decide
          · cases hx; decide

theorem callD_size : ∀ (ns asl : List ByteArray) (h : ByteArray), h.size ≤ 20 → asl.all namedB = true → (callD ns asl h).size ≤ 20
  | [], asl, h, hh, _ => by unfold callD; exact hh
  | n :: ns, [], h, hh, _ => by unfold callD; exact hh
  | n :: ns, a :: asl, h, hh, ha => by
    unfold callD
    simp at ha
    split
    · exact named_size ha.1
    · exact callD_size ns asl h hh (by simpa using ha.2)

theorem allIn_iff {ns : List ByteArray} {ps : List Pr} : allIn ns ps = true ↔ ∀ n ∈ ns, n ∈ ps.map (·.1) := by
  unfold allIn
  simp

theorem brought_any (B : Nat) (ex : List ByteArray) (ea : Option Addr) (ec : Nat) (hw : wex ex = 0) : ∀ (f : Nat) (s : St) (vs : List Value) (w : World), form f s = 0 → LiesS B w s vs → B ≤ w.heap.size → Strs B w ea ex →
    Calls Try.prog 14 #[aggOf vs, .slice ea ex.length ec] w (OutP (br ex s) w)
  | 0, s, vs, w, hf, _, _, _ => by cases hf
  | f + 1, s, vs, w, hf, h, hB, he => by
    obtain ⟨hl, hnm, hnd⟩ := wex_ok hw
    rcases form_ok hf with h1 | ⟨l, k, rfl, h2, h4, h5, h6⟩
    · obtain ⟨a0, a1, a2, c0, c1, c2, hvs, hL, hn⟩ := h.cells
      have e : br ex s = .inr (ex.map fun x => (x, x)) := by
        cases s with
        | last l => rfl
        | more l n k =>
          simp only [St.ly] at h1
          simp only [br, if_pos h1]
      rw [e, hvs]
      exact brought_lib B s.ly a0 a1 a2 c0 c1 c2 s.nk h1 ex ea ec w he hB hl (fun x hx => named_size (hnm x hx))
    · obtain ⟨a0, a1, b, o, c0, c1, c2, ws, rfl, hL, hn, hb, hk, hc⟩ := h
      obtain ⟨e0, e1, e2, f0, f1, f2, rfl, _, _⟩ := hk.cells
      have hne : ¬ l.kind = 1 := by omega
      have KD : Kid B ⟨l.kind, l.name, l.names, l.asn, l.pre⟩ a0 a1 b o 0 ea ex k.ly e0 e1 e2 f0 f1 f2 k.nk ec (br ex k) w := by
        refine ⟨hL, hn, hB, hb, hc, ?_⟩
        intro w' hb'
        exact brought_any B ex ea ec hw f k _ w' h6 (hk.old hB hb') (Nat.le_trans hB hb'.size) (he.stay (fun k hk => hb'.block k (Nat.lt_of_lt_of_le hk hB)) (Nat.le_refl _))
      obtain ⟨kd, na, nn, nas, pr⟩ := l
      simp only at h2 h4 h5 hne KD
      have ebr : br ex (.more ⟨kd, na, nn, nas, pr⟩ 0 k) = match br ex k with | .inl e => .inl e | .inr ps => step ⟨kd, na, nn, nas, pr⟩ ps := by
        simp only [br, if_neg hne]
        cases br ex k <;> rfl
      rw [ebr]
      cases eb : br ex k with
      | inl x =>
        rw [eb] at KD
        exact brought_err B kd na nn nas pr a0 a1 b o c0 c1 c2 0 ea ex k.ly e0 e1 e2 f0 f1 f2 k.nk ec x w KD hne (br_ne k x eb)
      | inr ps =>
        rw [eb] at KD
        have g := br_good hw f k ps h6 eb
        have hpl : ps.length ≤ 200 := Nat.le_trans g.few hl
        have hps : ∀ p ∈ ps, p.1.size ≤ 20 := fun p hp => named_size (g.named p hp)
        show Calls _ _ _ _ (OutP (step ⟨kd, na, nn, nas, pr⟩ ps) w)
        unfold step
        simp only
        by_cases k4 : kd = 4
        · subst k4
          rw [if_pos rfl]
          exact brought_pre B na nn nas pr a0 a1 b o c0 c1 c2 0 ea ex k.ly e0 e1 e2 f0 f1 f2 k.nk ec ps w KD hpl hps (named_size (h4 rfl))
        · rw [if_neg k4]
          by_cases hall : ∀ n ∈ nn, n ∈ ps.map (·.1)
          · rw [if_pos hall]
            have hall' := allIn_iff.2 hall
            by_cases k2 : kd = 2
            · subst k2
              rw [if_pos rfl]
              exact brought_only B na nn nas pr a0 a1 b o c0 c1 c2 0 ea ex k.ly e0 e1 e2 f0 f1 f2 k.nk ec ps w KD hpl hps hall'
            · rw [if_neg k2]
              by_cases k3 : kd = 3
              · subst k3
                rw [if_pos rfl]
                exact brought_except B na nn nas pr a0 a1 b o c0 c1 c2 0 ea ex k.ly e0 e1 e2 f0 f1 f2 k.nk ec ps w KD hpl hps hall'
              · rw [if_neg k3]
                obtain rfl : kd = 5 := by omega
                exact brought_rename B na nn nas pr a0 a1 b o c0 c1 c2 0 ea ex k.ly e0 e1 e2 f0 f1 f2 k.nk ec ps w KD hpl hps hall' (h5 rfl).1 (fun s hs => callD_size nn nas s hs (h5 rfl).2)
          · rw [if_neg hall]
            have hall' : allIn nn ps = false := by
              cases e : allIn nn ps with
              | false => rfl
              | true => exact absurd (allIn_iff.1 e) hall
            exact brought_none B kd na nn nas pr a0 a1 b o c0 c1 c2 0 ea ex k.ly e0 e1 e2 f0 f1 f2 k.nk ec ps w KD hpl hps hall' hne k4
end Go.Proofs.Ytckiihbnjfeplaa
