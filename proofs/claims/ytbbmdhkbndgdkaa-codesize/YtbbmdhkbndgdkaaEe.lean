/- Chapter 8's laws: alive; nodes counted. -/
import Derived.Test.YtbbmdhkbndgdkaaEd
namespace Go.Proofs.Ytbbmdhkbndgdkaa
set_option linter.unusedVariables false
set_option linter.unusedSimpArgs false
open Go.RowKit

theorem map_one {α β : Type} {f : α → β} {l : List α} {y : β} (h : l.map f = [y]) : ∃ x, l = [x] ∧ f x = y := by
  cases l with
  | nil => simp at h
  | cons x r =>
    cases r with
    | nil => exact ⟨x, rfl, by simpa using h⟩
    | cons _ _ => simp at h
theorem map_three {α β : Type} {f : α → β} {l : List α} {y1 y2 y3 : β} (h : l.map f = [y1, y2, y3]) : ∃ a b c, l = [a, b, c] ∧ f a = y1 := by
  cases l with
  | nil => simp at h
  | cons a r =>
    simp at h
    obtain ⟨h1, h2⟩ := h
    cases r with
    | nil => simp at h2
    | cons b r =>
      simp at h2
      obtain ⟨_, h3⟩ := h2
      obtain ⟨c, rfl, _⟩ := h3
      exact ⟨a, b, c, rfl, h1⟩
def aliveC : Cor := ⟨1, 0, 7, ⟨#[]⟩, ⟨#[]⟩, emD, []⟩
theorem alive_compile : compile [aliveC] = (0, [⟨0, [insN 1 7, insO 14, insO 15]⟩]) := by
  have h1 : wrongB [aliveC] = 0 := by decide +kernel
  have h2 : protosOf [aliveC] = [⟨0, [insN 1 7, insO 14, insO 15]⟩] := by
    unfold protosOf
    rw [genB, genB]
    unfold aliveC
    rw [genC_else _ _ _ _ _ _ _ _ (by decide) (by decide) (by decide), genL]
    simp [lastI]
  unfold compile
  rw [h1, h2]
  rfl
theorem PnOk.at {w : World} {pv : Value} {ps : List PE} (h : PnOk w pv ps) {i : Nat} {p : PE} (hi : ps[i]? = some p) : ∃ b c, pv = .slice (some ⟨b, 0, none⟩) ps.length c ∧ ps.length ≤ c ∧ b < w.heap.size ∧ w.cell? ⟨b, i * 2, none⟩ = some (.int .i64 p.args) ∧ w.cell? ⟨b, i * 2 + 1, none⟩ = some (.slice p.a p.es.length p.c) ∧ p.Ok (fun b => b < w.heap.size) w := by
  obtain ⟨a, c, e, hc, h1, h2⟩ := h
  rcases h1 with h1 | ⟨b, rfl, hb, hcell⟩
  · rw [h1] at hi; simp at hi
  · have hf : ∀ (l : List PE) (i : Nat), l[i]? = some p → (flatP l)[i * 2]? = some (.int .i64 p.args) ∧ (flatP l)[i * 2 + 1]? = some (.slice p.a p.es.length p.c) := by
      intro l
      induction l with
      | nil => intro i hi; simp at hi
      | cons x r ih =>
        intro i hi
        cases i with
        | zero =>
          simp at hi
          subst hi
          rw [flatP_cons]
          exact ⟨rfl, rfl⟩
        | succ i =>
          have := ih i (by simpa using hi)
          rw [flatP_cons]
          constructor
          · rw [List.getElem?_append_right (by simp [PE.cells]; omega), show (i + 1) * 2 - x.cells.length = i * 2 by simp [PE.cells]; omega]
            exact this.1
          · rw [List.getElem?_append_right (by simp [PE.cells]; omega), show (i + 1) * 2 + 1 - x.cells.length = i * 2 + 1 by simp [PE.cells]; omega]
            exact this.2
    have := hf ps i hi
    exact ⟨b, c, e, hc, hb, hcell _ _ this.1, hcell _ _ this.2, h2 p (List.mem_of_getElem? hi)⟩
theorem PE.Ok.first {w : World} {p : PE} {x : IE} {r : List IE} (h : p.Ok (fun b => b < w.heap.size) w) (hp : p.es = x :: r) : ∃ b, p.a = some ⟨b, 0, none⟩ ∧ b < w.heap.size ∧ w.cell? ⟨b, 2, none⟩ = some (.int .i64 x.i.n) := by
  rcases h.2.1 with h1 | ⟨b, ha, hb, hc⟩
  · rw [hp] at h1; cases h1
  · refine ⟨b, ha, hb, hc 2 _ ?_⟩
    rw [hp, flatI_cons]
    rfl

set_option maxRecDepth 100000 in
set_option maxHeartbeats 1600000 in
theorem alive_any (w : World) : Calls Try.prog 10 #[] w fun e w' => e = .returned (.bool true) ∧ Below w.heap.size w w' := by
  have hN := World.alloc_heap_new w (.cells #[.int .i64 1, .int .i64 0, .int .i64 7, .string ⟨#[]⟩, .string ⟨#[]⟩, .int .i64 0, .int .i64 0, .string ⟨#[]⟩, .int .i64 0, .int .i64 0, .slice none 0 0, .slice none 0 0] 40)
  have hb0 : Below w.heap.size w (w.alloc (.cells #[.int .i64 1, .int .i64 0, .int .i64 7, .string ⟨#[]⟩, .string ⟨#[]⟩, .int .i64 0, .int .i64 0, .string ⟨#[]⟩, .int .i64 0, .int .i64 0, .slice none 0 0, .slice none 0 0] 40)) := (Below.refl _ _).alloc (Nat.le_refl _) _
  have hc : ∀ q, (w.alloc (.cells #[.int .i64 1, .int .i64 0, .int .i64 7, .string ⟨#[]⟩, .string ⟨#[]⟩, .int .i64 0, .int .i64 0, .string ⟨#[]⟩, .int .i64 0, .int .i64 0, .slice none 0 0, .slice none 0 0] 40)).cell? ⟨w.heap.size, q, none⟩ = (#[Value.int .i64 1, .int .i64 0, .int .i64 7, .string ⟨#[]⟩, .string ⟨#[]⟩, .int .i64 0, .int .i64 0, .string ⟨#[]⟩, .int .i64 0, .int .i64 0, .slice none 0 0, .slice none 0 0])[q]? := fun q => cellOf hN
  have hcc : Cc (w.heap.size + 1) (w.alloc (.cells #[.int .i64 1, .int .i64 0, .int .i64 7, .string ⟨#[]⟩, .string ⟨#[]⟩, .int .i64 0, .int .i64 0, .string ⟨#[]⟩, .int .i64 0, .int .i64 0, .slice none 0 0, .slice none 0 0] 40)) 1 (some ⟨w.heap.size, 0, none⟩) [aliveC] := by
    refine ⟨by simp, Or.inr ⟨w.heap.size, 0, rfl, by omega, fun i c hi => ?_⟩⟩
    cases i with
    | succ i => simp at hi
    | zero =>
      simp at hi
      subst hi
      exact ⟨none, 0, none, 0, ⟨hc _, hc _, hc _, hc _, hc _, hc _, hc _, hc _, hc _, hc _, hc _, hc _⟩, ⟨Nat.zero_le _, Nat.zero_le _, Nat.zero_le _, Nat.le_refl _, Nat.le_refl _⟩, rfl, rfl⟩
  have CA := hidd (Compile_any (w.heap.size + 1) 1 ⟨#[109]⟩ [aliveC] (some ⟨w.heap.size, 0, none⟩) 1 _ hcc (by simp) (by simp) (by rw [nmL, nmL]; exact ⟨by unfold aliveC; rw [nmC, nmL]; exact ⟨Nat.zero_le _, Nat.zero_le _, trivial⟩, trivial⟩) (by decide))
  rw [alive_compile] at CA
  have HB0 := hidd hb0
  clear hN hb0 hc hcc
  simp only [List.length_singleton] at CA
  go_enter Try.func10, Try.ntmps10
  go_wp2_with fail
  refine CA.out.mono ?_
  rintro e w1 ⟨hb1, nm', pv, ps, rfl, hq1, hq2, hps, hpn⟩
  obtain rfl : nm' = ⟨#[109]⟩ := hq1 rfl
  clear hq1 hq2
  have hp1 := map_one hps
  obtain ⟨p, rfl, hpp⟩ := hp1
  obtain ⟨b, c, rfl, hbc, hbl, d0, d1, hok⟩ := hpn.at (i := 0) rfl
  have h5 : p.es.map IE.i = [insN 1 7, insO 14, insO 15] := congrArg Pro.code hpp
  obtain ⟨x, y, z, hpe, hx7⟩ := map_three h5
  obtain ⟨b2, hpa, hb2, d2⟩ := hok.first hpe
  rw [hpa, hpe] at d1
  rw [hx7] at d2
  clear h5
  have hcap := hok.1
  rw [hpe] at hcap
  have ba : Below w1.heap.size w1 (w1.alloc (.cells #[.string ⟨#[109]⟩, .slice (some ⟨b, 0, none⟩) 1 c] 27)) := (Below.refl _ _).alloc (Nat.le_refl _) _
  have e1 := (ba.cell (p := ⟨b, 0 * 2 + 1, none⟩) hbl).trans d1
  have e2 := (ba.cell (p := ⟨b2, 2, none⟩) hb2).trans d2
  have HB2 := hidd ((HB0.out.trans (hb1.mono HB0.out.size)).trans (ba.mono (Nat.le_trans HB0.out.size hb1.size)))
  simp only [Nat.zero_mul, Nat.zero_add, List.length_cons, List.length_nil] at e1 hcap hbc
  generalize p.c = pc at e1 hcap
  clear d0 d1 d2 hok hps hpp hpe hpa hb1 ba CA hpn hx7
  go_wp2_with fail
  go_ret
  exact ⟨rfl, HB2.out⟩
end Go.Proofs.Ytbbmdhkbndgdkaa
