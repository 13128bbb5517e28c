/- The maker: where a jump lands. -/
import Derived.Test.YtbbmdhkbndgdkaaCp
namespace Go.Proofs.Ytbbmdhkbndgdkaa
set_option linter.unusedVariables false
set_option linter.unusedSimpArgs false
open Go.RowKit

def IE.at (e : IE) (x : Int) : IE := ⟨{ e.i with a := x }, e.qa, e.qc⟩
theorem flatI_setA (x : Int) : ∀ (es : List IE) (j : Nat) (e : IE), es[j]? = some e → (flatI es).set (j * 11 + 1) (.int .i64 x) = flatI (es.set j (e.at x))
  | y :: r, 0, e, h => by
    simp at h
    subst h
    rw [flatI_cons, List.set_cons_zero, flatI_cons]
    rfl
  | y :: r, j + 1, e, h => by
    have h1 : r[j]? = some e := by simpa using h
    rw [flatI_cons, List.set_cons_succ, flatI_cons, ← flatI_setA x r j e h1, List.set_append_right _ _ (by rw [IE.len]; omega), IE.len]
    congr 2
    omega
theorem MK.land {B T M : Nat} {X : Nat → Prop} {g cap : Nat} {pv : Value} {is : List IE} {ps : List PE} {w : World} (h : MK B X T M (.slice (some ⟨g, 0, none⟩) is.length cap) pv is ps w) (j : Nat) (e : IE) (hj : is[j]? = some e) (x : Int) :
    MK B X T M (.slice (some ⟨g, 0, none⟩) is.length cap) pv (is.set j (e.at x)) ps (w.setCell ⟨g, j * 11 + 1, none⟩ (.int .i64 x)) ∧ FR B T M (.slice (some ⟨g, 0, none⟩) is.length cap) pv (.slice (some ⟨g, 0, none⟩) is.length cap) pv w (w.setCell ⟨g, j * 11 + 1, none⟩ (.int .i64 x)) := by
  have hke : Keep g w (w.setCell ⟨g, j * 11 + 1, none⟩ (.int .i64 x)) := (Keep.refl _ _).setCell _ rfl _
  have hg := h.tr.lt g rfl
  have hgT : g ≠ T := fun e => h.s1 (by rw [← e]; rfl)
  have hgM : g ≠ M := fun e => h.s2 (by rw [← e]; rfl)
  have keep : ∀ b, b < w.heap.size → Fr T M (.slice (some ⟨g, 0, none⟩) is.length cap) pv b → (w.setCell ⟨g, j * 11 + 1, none⟩ (.int .i64 x)).heap[b]? = w.heap[b]? := fun b hb hf => hke.block b hb hf.2.2.1
  refine ⟨⟨(hke.block T h.tlt (by simpa using fun e => hgT e.symm)).trans h.tb, (hke.block M h.mlt (by simpa using fun e => hgM e.symm)).trans h.mb, h.tm, h.bt, h.bm, ?_, ?_, h.s1, h.s2, h.s3, h.s4, h.s5, fun b hx => Nat.lt_of_lt_of_le (h.xlt b hx) hke.size, h.xt, ?_, ?_⟩, hke.toBelow hg.1 h.ble, keep, Or.inl rfl, Or.inl rfl⟩
  · rw [List.length_set, ← flatI_setA x is j e hj]
    exact (h.tr.stored (j * 11 + 1) (.int .i64 x)).1
  · refine h.pr.kept hke ?_
    cases hv : pv.ownBlock with
    | none => exact Or.inl rfl
    | some k => exact Or.inr (fun e => h.s5 g rfl (by rw [hv]; exact e))
  · intro f hf
    have h1 : f.Ok (fun b => b < w.heap.size ∧ Fr T M (.slice (some ⟨g, 0, none⟩) is.length cap) pv b ∧ ¬ X b) w := by
      rcases List.mem_or_eq_of_mem_set hf with hf | rfl
      · exact h.ti f hf
      · exact h.ti e (List.mem_of_getElem? hj)
    exact h1.stay (fun k hk => keep k hk.1 hk.2.1) (fun k hk => ⟨Nat.lt_of_lt_of_le hk.1 hke.size, hk.2⟩)
  · intro f hf
    exact (h.pi f hf).stay (fun k hk => keep k hk.1 hk.2.1) (fun k hk => ⟨Nat.lt_of_lt_of_le hk.1 hke.size, hk.2⟩)

set_option maxRecDepth 100000 in
set_option maxHeartbeats 800000 in
theorem land_any (B : Nat) (X : Nat → Prop) (T M : Nat) (tv pv : Value) (is : List IE) (ps : List PE) (w : World) (h : MK B X T M tv pv is ps w) (j : Nat) (e : IE) (hj : is[j]? = some e) (hlen : is.length ≤ 1000000000) :
    Calls Try.prog 45 #[tv, .int .i64 j] w fun r w' => r = .returned (.tuple #[]) ∧ MK B X T M tv pv (is.set j (e.at is.length)) ps w' ∧ FR B T M tv pv tv pv w w' := by
  have hjl : j < is.length := (List.getElem?_eq_some_iff.1 hj).1
  obtain ⟨g, cap, hv, hgc⟩ : ∃ g cap, tv = .slice (some ⟨g, 0, none⟩) is.length cap ∧ is.length ≤ cap := by
    rcases h.tr.2 with ⟨_, h0⟩ | ⟨g, cap, cur, e, _, _, hnc, _⟩
    · omega
    · exact ⟨g, cap, e, hnc⟩
  subst hv
  have HL := hidd (h.land j e hj is.length)
  have hc := h.tr.cellAt (j * 11 + 1) (by omega)
  have hf := h.tr.frozenAt (j * 11 + 1)
  obtain ⟨u, hu⟩ : ∃ u, (flatI is)[j * 11 + 1]? = some u := ⟨_, List.getElem?_eq_getElem (by rw [flatI_len]; omega)⟩
  rw [hu] at hc
  clear h hu
  go_enter Try.func45, Try.ntmps45
  go_wp2_with fail
  go_end0
  exact ⟨rfl, HL.out.1, HL.out.2⟩
end Go.Proofs.Ytbbmdhkbndgdkaa
