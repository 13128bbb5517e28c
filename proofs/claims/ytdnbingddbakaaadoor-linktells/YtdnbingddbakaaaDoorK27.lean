/- Chapter 9, plainly: how a stack is used, in the document's way. -/
import Derived.Test.YtdnbingddbakaaaDoorK10
namespace Go.Proofs.YtdnbingddbakaaaDoor
set_option linter.unusedVariables false
set_option linter.unusedSimpArgs false
open Go.RowKit

/-- What comes to a place. -/
def gath (at0 : Int) : List (Int × Int) → Int → Option Int
  | [], s => some s
  | f :: r, s => if f.1 = at0 then (if 0 ≤ s ∧ s ≠ f.2 then none else gath at0 r f.2) else gath at0 r s
def downUp (x : In) : Int × Int :=
  if x.op = 8 then (x.a + 1, 1) else if x.op = 9 then (0, 0) else if x.op = 10 ∨ x.op = 14 then (1, 0) else if x.op = 11 ∨ x.op = 12 ∨ x.op = 13 then (1, 1) else (0, 1)
/-- What goes on from a place. -/
def goes (at0 : Nat) (x : In) (h : Int) : List (Int × Int) := (if x.op = 9 ∨ x.op = 10 then [(x.a, h)] else []) ++ (if x.op = 9 then [] else [((at0 : Int) + 1, h)])
def docW (n : Nat) (body : Bool) : Nat → List In → List (Int × Int) → Bool
  | _, [], _ => true
  | at0, x :: r, nx => match gath at0 nx (-1) with
    | none => false
    | some h => if h < 0 then false
      else if x.op = 15 then (if (body = true ∧ h ≠ 0) ∨ (body = false ∧ h ≠ 1) then false else docW n body (at0 + 1) r nx)
      else if h < (downUp x).1 then false
      else if (x.op = 9 ∨ x.op = 10) ∧ x.a ≤ (at0 : Int) then false
      else if x.op ≠ 9 ∧ at0 + 1 = n then false
      else docW n body (at0 + 1) r (nx ++ goes at0 x (h - (downUp x).1 + (downUp x).2))
theorem gath_no {at0 : Int} : ∀ (nx : List (Int × Int)) (s : Int), (∀ f ∈ nx, f.1 ≠ at0) → gath at0 nx s = some s
  | [], s, _ => rfl
  | f :: r, s, h => by
    rw [gath, if_neg (h f (by simp))]
    exact gath_no r s fun g hg => h g (by simp [hg])
theorem gath_same {at0 v : Int} (hv : 0 ≤ v) : ∀ (nx : List (Int × Int)), (∀ f ∈ nx, f.1 = at0 → f.2 = v) → gath at0 nx v = some v
  | [], _ => rfl
  | f :: r, h => by
    rw [gath]
    by_cases e : f.1 = at0
    · have := h f (by simp) e
      rw [if_pos e, if_neg (by omega), this]
      exact gath_same hv r fun g hg => h g (by simp [hg])
    · rw [if_neg e]
      exact gath_same hv r fun g hg => h g (by simp [hg])
theorem gath_all {at0 v : Int} (hv : 0 ≤ v) : ∀ (nx : List (Int × Int)), (∀ f ∈ nx, f.1 = at0 → f.2 = v) → (∃ f ∈ nx, f.1 = at0) → gath at0 nx (-1) = some v
  | [], _, ⟨f, hf, _⟩ => by simp at hf
  | f :: r, h, hex => by
    rw [gath]
    by_cases e : f.1 = at0
    · rw [if_pos e, if_neg (by omega), h f (by simp) e]
      exact gath_same hv r fun g hg => h g (by simp [hg])
    · rw [if_neg e]
      obtain ⟨g, hg, hge⟩ := hex
      refine gath_all hv r (fun g hg => h g (by simp [hg])) ⟨g, ?_, hge⟩
      simp at hg
      rcases hg with rfl | hg
      · exact absurd hge e
      · exact hg
theorem gath_told {at0 : Int} : ∀ (nx : List (Int × Int)) (s v : Int), (∀ f ∈ nx, 0 ≤ f.2) → 0 ≤ s → gath at0 nx s = some v → v = s ∧ ∀ f ∈ nx, f.1 = at0 → f.2 = s
  | [], s, v, _, _, h => by
    simp [gath] at h
    exact ⟨h.symm, by simp⟩
  | f :: r, s, v, hp, hs, h => by
    rw [gath] at h
    by_cases e : f.1 = at0
    · rw [if_pos e] at h
      by_cases e2 : 0 ≤ s ∧ s ≠ f.2
      · rw [if_pos e2] at h; simp at h
      · rw [if_neg e2] at h
        have e3 : f.2 = s := by omega
        rw [e3] at h
        obtain ⟨h1, h2⟩ := gath_told r s v (fun g hg => hp g (by simp [hg])) hs h
        refine ⟨h1, fun g hg hge => ?_⟩
        simp at hg
        rcases hg with rfl | hg
        · exact e3
        · exact h2 g hg hge
    · rw [if_neg e] at h
      obtain ⟨h1, h2⟩ := gath_told r s v (fun g hg => hp g (by simp [hg])) hs h
      refine ⟨h1, fun g hg hge => ?_⟩
      simp at hg
      rcases hg with rfl | hg
      · exact absurd hge e
      · exact h2 g hg hge
theorem gath_first {at0 : Int} : ∀ (nx : List (Int × Int)) (v : Int), (∀ f ∈ nx, 0 ≤ f.2) → gath at0 nx (-1) = some v → ∀ f ∈ nx, f.1 = at0 → f.2 = v
  | [], v, _, _ => by simp
  | f :: r, v, hp, h => by
    rw [gath] at h
    by_cases e : f.1 = at0
    · rw [if_pos e, if_neg (by omega)] at h
      obtain ⟨h1, h2⟩ := gath_told r f.2 v (fun g hg => hp g (by simp [hg])) (hp f (by simp)) h
      intro g hg hge
      simp at hg
      rcases hg with rfl | hg
      · exact h1.symm
      · rw [h1]; exact h2 g hg hge
    · rw [if_neg e] at h
      intro g hg hge
      simp at hg
      rcases hg with rfl | hg
      · exact absurd hge e
      · exact gath_first r v (fun g hg => hp g (by simp [hg])) h g hg hge
theorem goes_pos {at0 : Nat} {x : In} {h : Int} (hh : 0 ≤ h) : ∀ f ∈ goes at0 x h, 0 ≤ f.2 := by
  intro f hf
  unfold goes at hf
  rcases List.mem_append.1 hf with hf | hf
  · split at hf
    · simp at hf; rw [hf]; exact hh
    · simp at hf
  · split at hf
    · simp at hf
    · simp at hf; rw [hf]; exact hh
theorem up_pos (x : In) : 0 ≤ (downUp x).2 := by
  unfold downUp
  (repeat' split) <;> simp
/-- Where two that differ come to one place, nothing is right. -/
theorem doc_apart {n : Nat} {body : Bool} {tt : Int} : ∀ (r : List In) (at0 : Nat) (nx : List (Int × Int)), at0 + r.length = n → (at0 : Int) ≤ tt → tt < (n : Int) → (∀ f ∈ nx, 0 ≤ f.2) → (∃ f ∈ nx, ∃ g ∈ nx, f.1 = tt ∧ g.1 = tt ∧ f.2 ≠ g.2) → docW n body at0 r nx = false
  | [], at0, nx, hn, h1, h2, _, _ => by simp at hn; omega
  | x :: r, at0, nx, hn, h1, h2, hp, ⟨f, hf, g, hg, ef, eg, hne⟩ => by
    rw [docW]
    cases hq : gath at0 nx (-1) with
    | none => rfl
    | some h =>
      simp only
      by_cases e : tt = at0
      · have a1 := gath_first nx h hp hq f hf (ef.trans e)
        have a2 := gath_first nx h hp hq g hg (eg.trans e)
        exact absurd (a1.trans a2.symm) hne
      · have IH : ∀ nx', (∀ f ∈ nx', 0 ≤ f.2) → (∀ f ∈ nx, f ∈ nx') → docW n body (at0 + 1) r nx' = false := fun nx' hp' hs =>
          doc_apart r (at0 + 1) nx' (by simp at hn; omega) (by omega) h2 hp' ⟨f, hs f hf, g, hs g hg, ef, eg, hne⟩
        split
        · rfl
        · rename_i h0
          split
          · split
            · rfl
            · exact IH nx hp fun _ h => h
          · split
            · rfl
            · rename_i hd
              split
              · rfl
              · split
                · rfl
                · refine IH _ (fun f hf => ?_) fun f hf => List.mem_append_left _ hf
                  rcases List.mem_append.1 hf with hf | hf
                  · exact hp f hf
                  · have := up_pos x
                    exact goes_pos (by omega) f hf
/-- The heights so far, in both ways. -/
def Rel (n at0 : Nat) (nx : List (Int × Int)) (H : List Int) : Prop :=
  H.length = n ∧ (∀ f ∈ nx, 0 ≤ f.2) ∧ ∀ tt : Nat, at0 ≤ tt → tt < n → (H[tt]? = some (-1) ∧ ∀ f ∈ nx, f.1 ≠ (tt : Int)) ∨ ∃ v, 0 ≤ v ∧ H[tt]? = some v ∧ (∃ f ∈ nx, f.1 = (tt : Int)) ∧ ∀ f ∈ nx, f.1 = (tt : Int) → f.2 = v
theorem reach_rel {n at0 tt : Nat} {nx : List (Int × Int)} {H : List Int} {h : Int} (hR : Rel n at0 nx H) (hh : 0 ≤ h) (h1 : at0 < tt) (h2 : tt < n) :
    (∃ H', reachH H at0 (tt : Int) h = some H' ∧ Rel n at0 (nx ++ [((tt : Int), h)]) H') ∨ (reachH H at0 (tt : Int) h = none ∧ ∃ f ∈ nx, f.1 = (tt : Int) ∧ f.2 ≠ h) := by
  obtain ⟨hl, hp, hR⟩ := hR
  unfold reachH
  rw [if_neg (by omega)]
  simp only [Int.toNat_natCast]
  have hpos : ∀ f ∈ nx ++ [((tt : Int), h)], 0 ≤ f.2 := fun f hf => by
    rcases List.mem_append.1 hf with hf | hf
    · exact hp f hf
    · simp at hf; rw [hf]; exact hh
  rcases hR tt (by omega) h2 with ⟨g1, g2⟩ | ⟨v, g0, g1, g2, g3⟩
  · have hgd : H.getD tt (-1) = -1 := by rw [List.getD_eq_getElem?_getD, g1]; rfl
    rw [if_pos hgd]
    refine Or.inl ⟨_, rfl, by simpa using hl, hpos, fun t ht1 ht2 => ?_⟩
    by_cases e : t = tt
    · subst e
      refine Or.inr ⟨h, hh, by rw [List.getElem?_set_self (by omega)], ⟨_, List.mem_append_right _ (List.mem_singleton.2 rfl), rfl⟩, fun f hf hfe => ?_⟩
      rcases List.mem_append.1 hf with hf | hf
      · exact absurd hfe (g2 f hf)
      · simp at hf; rw [hf]
    · have e2 : (H.set tt h)[t]? = H[t]? := List.getElem?_set_ne (by omega)
      rw [e2]
      rcases hR t ht1 ht2 with ⟨k1, k2⟩ | ⟨v, k0, k1, ⟨f, hf, hfe⟩, k3⟩
      · refine Or.inl ⟨k1, fun f hf => ?_⟩
        rcases List.mem_append.1 hf with hf | hf
        · exact k2 f hf
        · simp at hf; rw [hf]; simp; omega
      · refine Or.inr ⟨v, k0, k1, ⟨f, List.mem_append_left _ hf, hfe⟩, fun g hg hge => ?_⟩
        rcases List.mem_append.1 hg with hg | hg
        · exact k3 g hg hge
        · simp at hg; rw [hg] at hge; simp at hge; omega
  · have hgd : H.getD tt (-1) = v := by rw [List.getD_eq_getElem?_getD, g1]; rfl
    rw [if_neg (show ¬ H.getD tt (-1) = -1 by rw [hgd]; omega)]
    by_cases e : v = h
    · rw [if_pos (hgd.trans e)]
      refine Or.inl ⟨_, rfl, hl, hpos, fun t ht1 ht2 => ?_⟩
      rcases hR t ht1 ht2 with ⟨k1, k2⟩ | ⟨v', k0, k1, ⟨f, hf, hfe⟩, k3⟩
      · refine Or.inl ⟨k1, fun f hf => ?_⟩
        rcases List.mem_append.1 hf with hf | hf
        · exact k2 f hf
        · simp at hf; rw [hf]
          intro e3
          simp at e3
          obtain rfl : tt = t := by omega
          rw [g1] at k1
          simp at k1
          omega
      · refine Or.inr ⟨v', k0, k1, ⟨f, List.mem_append_left _ hf, hfe⟩, fun g hg hge => ?_⟩
        rcases List.mem_append.1 hg with hg | hg
        · exact k3 g hg hge
        · simp at hg
          rw [hg] at hge ⊢
          simp at hge
          obtain rfl : tt = t := by omega
          rw [g1] at k1
          simp at k1
          simp
          omega
    · rw [if_neg (show ¬ H.getD tt (-1) = h by rw [hgd]; exact e)]
      obtain ⟨f, hf, hfe⟩ := g2
      exact Or.inr ⟨rfl, f, hf, hfe, by rw [g3 f hf hfe]; exact e⟩
theorem Rel.next {n at0 : Nat} {nx : List (Int × Int)} {H : List Int} (h : Rel n at0 nx H) : Rel n (at0 + 1) nx H := ⟨h.1, h.2.1, fun tt h1 h2 => h.2.2 tt (by omega) h2⟩
/-- What is known of an instruction whose use of the stack is asked. -/
def InOk (n : Nat) (x : In) : Prop := 1 ≤ x.op ∧ x.op ≤ 15 ∧ (x.op = 9 ∨ x.op = 10 → 0 ≤ x.a ∧ x.a < (n : Int)) ∧ (x.op = 8 → 0 ≤ x.a)
theorem moves_down {n : Nat} {x : In} (h : InOk n x) (h15 : x.op ≠ 15) : movesI x = downUp x := by
  obtain ⟨h1, h2, _⟩ := h
  unfold movesI downUp
  by_cases a : x.op = 8
  · rw [if_neg (by omega), if_pos a, if_pos a]
  by_cases b : x.op = 9
  · rw [if_neg (by omega), if_neg a, if_neg (by omega), if_neg (by omega), if_neg a, if_pos b]
  by_cases c : x.op = 10 ∨ x.op = 14
  · rw [if_neg (by omega), if_neg a, if_pos c, if_neg a, if_neg b, if_pos c]
  by_cases d : x.op = 11 ∨ x.op = 12 ∨ x.op = 13
  · rw [if_neg (by omega), if_neg a, if_neg c, if_pos d, if_neg a, if_neg b, if_neg c, if_pos d]
  · rw [if_pos (by omega), if_neg a, if_neg b, if_neg c, if_neg d]
/-- A PROCEDURE USES ITS STACK WELL IN BOTH WAYS, OR IN NEITHER. -/
theorem walk_doc {n : Nat} {body : Bool} : ∀ (r : List In) (at0 : Nat) (nx : List (Int × Int)) (H : List Int), at0 + r.length = n → (∀ x ∈ r, InOk n x) → Rel n at0 nx H → docW n body at0 r nx = walkS (if body then 0 else 1) at0 r H
  | [], at0, nx, H, _, _, _ => rfl
  | x :: r, at0, nx, H, hn, hx, hR => by
    have hlen : at0 + 1 + r.length = n := by simp at hn; omega
    have hat : at0 < n := by simp at hn; omega
    have hxo := hx x (by simp)
    have IH := fun nx' H' hR' => walk_doc (body := body) r (at0 + 1) nx' H' hlen (fun y hy => hx y (by simp [hy])) hR'
    rw [docW, walkS]
    rcases hR.2.2 at0 (Nat.le_refl _) hat with ⟨g1, g2⟩ | ⟨v, g0, g1, g2, g3⟩
    · rw [gath_no nx _ g2, List.getD_eq_getElem?_getD, g1]
      simp
    · rw [gath_all g0 nx g3 g2]
      have hgd : H.getD at0 (-1) = v := by rw [List.getD_eq_getElem?_getD, g1]; rfl
      rw [hgd, if_neg (by omega)]
      simp only
      rw [if_neg (by omega)]
      by_cases h15 : x.op = 15
      · rw [if_pos h15]
        have hm : movesI x = (0, 0) := by unfold movesI; rw [if_neg (by omega), if_neg (by omega), if_neg (by omega), if_neg (by omega)]
        have hL : ∀ last : Int, leaveH last H at0 x = if v = last then some H else none := fun last => by
          unfold leaveH
          rw [hgd, hm]
          simp only
          rw [if_neg (by omega), if_pos h15]
          simp only [Int.sub_zero, Int.add_zero]
        rw [hL]
        cases body with
        | true =>
          by_cases e : v = 0
          · have e2 : (if v = (if true = true then (0 : Int) else 1) then some H else none) = some H := by simp [e]
            rw [if_neg (by simp [e]), e2]
            exact IH nx H hR.next
          · have e2 : (if v = (if true = true then (0 : Int) else 1) then some H else none) = none := by simp [e]
            rw [if_pos (by simp [e]), e2]
        | false =>
          by_cases e : v = 1
          · have e2 : (if v = (if false = true then (0 : Int) else 1) then some H else none) = some H := by simp [e]
            rw [if_neg (by simp [e]), e2]
            exact IH nx H hR.next
          · have e2 : (if v = (if false = true then (0 : Int) else 1) then some H else none) = none := by simp [e]
            rw [if_pos (by simp [e]), e2]
      · rw [if_neg h15]
        unfold leaveH
        rw [hgd, moves_down hxo h15]
        by_cases hd : v < (downUp x).1
        · rw [if_pos hd, if_pos hd]
        · rw [if_neg hd, if_neg hd, if_neg h15]
          have hup := up_pos x
          obtain ⟨h, hh⟩ : ∃ h, h = v - (downUp x).1 + (downUp x).2 := ⟨_, rfl⟩
          rw [← hh]
          have h0 : 0 ≤ h := by omega
          have apart : ∀ (t : Int) (nx' : List (Int × Int)), (at0 : Int) < t → t < (n : Int) → (∀ f ∈ nx', 0 ≤ f.2) → (∃ f ∈ nx', ∃ g ∈ nx', f.1 = t ∧ g.1 = t ∧ f.2 ≠ g.2) → docW n body (at0 + 1) r nx' = false := fun t nx' a1 a2 a3 a4 => doc_apart r (at0 + 1) nx' hlen (by omega) a2 a3 a4
          have hpg : ∀ f ∈ nx ++ goes at0 x h, 0 ≤ f.2 := fun f hf => by
            rcases List.mem_append.1 hf with hf | hf
            · exact hR.2.1 f hf
            · exact goes_pos h0 f hf
          by_cases h9 : x.op = 9
          · rw [if_pos h9]
            have hgo : goes at0 x h = [(x.a, h)] := by unfold goes; rw [if_pos (Or.inl h9), if_pos h9]; rfl
            obtain ⟨ja, jb⟩ := hxo.2.2.1 (Or.inl h9)
            by_cases hle : x.a ≤ (at0 : Int)
            · rw [if_pos ⟨Or.inl h9, hle⟩]
              unfold reachH
              rw [if_pos (Or.inl hle)]
            · rw [if_neg (fun c => hle c.2), if_neg (fun c => c.1 h9)]
              obtain ⟨t, ht⟩ : ∃ t : Nat, x.a = (t : Int) := ⟨x.a.toNat, by omega⟩
              rw [hgo] at hpg ⊢
              rw [ht] at hle jb hpg ⊢
              rcases reach_rel hR h0 (tt := t) (by omega) (by omega) with ⟨H', e1, e2⟩ | ⟨e1, f, hf, e2, e3⟩
              · rw [e1]
                exact IH _ H' e2.next
              · rw [e1]
                exact apart t _ (by omega) jb hpg ⟨f, List.mem_append_left _ hf, _, List.mem_append_right _ (List.mem_singleton.2 rfl), e2, rfl, e3⟩
          · rw [if_neg h9]
            by_cases h10 : x.op = 10
            · rw [if_pos h10]
              have hgo : goes at0 x h = [(x.a, h), ((at0 : Int) + 1, h)] := by unfold goes; rw [if_pos (Or.inr h10), if_neg h9]; rfl
              obtain ⟨ja, jb⟩ := hxo.2.2.1 (Or.inr h10)
              by_cases hle : x.a ≤ (at0 : Int)
              · rw [if_pos ⟨Or.inr h10, hle⟩]
                unfold reachH
                rw [if_pos (Or.inl hle)]
                rfl
              · rw [if_neg (fun c => hle c.2)]
                obtain ⟨t, ht⟩ : ∃ t : Nat, x.a = (t : Int) := ⟨x.a.toNat, by omega⟩
                rw [hgo] at hpg ⊢
                rw [ht] at hle jb hpg ⊢
                rcases reach_rel hR h0 (tt := t) (by omega) (by omega) with ⟨H', e1, e2⟩ | ⟨e1, f, hf, e2, e3⟩
                · rw [e1]
                  simp only [Option.bind_some]
                  by_cases hend : at0 + 1 = n
                  · rw [if_pos ⟨h9, hend⟩]
                    have : reachH H' at0 ((at0 + 1 : Nat) : Int) h = none := by
                      unfold reachH
                      rw [if_pos (Or.inr (by have := e2.1; omega))]
                    rw [this]
                  · rw [if_neg (fun c => hend c.2)]
                    have ee : nx ++ [((t : Int), h), ((at0 : Int) + 1, h)] = (nx ++ [((t : Int), h)]) ++ [(((at0 + 1 : Nat) : Int), h)] := by simp
                    rw [ee] at hpg ⊢
                    rcases reach_rel e2 h0 (tt := at0 + 1) (by omega) (by omega) with ⟨H2, k1, k2⟩ | ⟨k1, g, hg, k2, k3⟩
                    · rw [k1]
                      exact IH _ H2 k2.next
                    · rw [k1]
                      exact apart _ _ (by omega) (by omega) hpg ⟨g, List.mem_append_left _ hg, _, List.mem_append_right _ (List.mem_singleton.2 rfl), k2, rfl, k3⟩
                · rw [e1]
                  simp only [Option.bind_none]
                  by_cases hend : at0 + 1 = n
                  · rw [if_pos ⟨h9, hend⟩]
                  · rw [if_neg (fun c => hend c.2)]
                    exact apart t _ (by omega) jb hpg ⟨f, List.mem_append_left _ hf, ((t : Int), h), List.mem_append_right _ (by simp), e2, rfl, e3⟩
            · rw [if_neg h10, if_neg (fun c => by omega)]
              have hgo : goes at0 x h = [(((at0 + 1 : Nat) : Int), h)] := by unfold goes; rw [if_neg (by omega), if_neg h9]; simp
              by_cases hend : at0 + 1 = n
              · rw [if_pos ⟨h9, hend⟩]
                have : reachH H at0 ((at0 + 1 : Nat) : Int) h = none := by
                  unfold reachH
                  rw [if_pos (Or.inr (by have := hR.1; omega))]
                rw [this]
              · rw [if_neg (fun c => hend c.2)]
                rw [hgo] at hpg ⊢
                rcases reach_rel hR h0 (tt := at0 + 1) (by omega) (by omega) with ⟨H2, k1, k2⟩ | ⟨k1, g, hg, k2, k3⟩
                · rw [k1]
                  exact IH _ H2 k2.next
                · rw [k1]
                  exact apart _ _ (by omega) (by omega) hpg ⟨g, List.mem_append_left _ hg, _, List.mem_append_right _ (List.mem_singleton.2 rfl), k2, rfl, k3⟩
theorem heights_same (code : List In) (body : Bool) (h : ∀ x ∈ code, InOk code.length x) : docW code.length body 0 code [(0, 0)] = stackOk code body := by
  unfold stackOk
  cases code with
  | nil => rfl
  | cons x r =>
    refine walk_doc (x :: r) 0 [(0, 0)] _ (by simp) h ⟨by simp, by simp, fun tt _ ht => ?_⟩
    by_cases e : tt = 0
    · subst e
      exact Or.inr ⟨0, Int.le_refl _, by simp, ⟨_, List.mem_singleton.2 rfl, rfl⟩, by simp⟩
    · refine Or.inl ⟨?_, fun f hf => ?_⟩
      · rw [List.getElem?_set_ne (by omega), List.getElem?_replicate, if_pos ht]
      · simp at hf; rw [hf]; simp; omega
end Go.Proofs.YtdnbingddbakaaaDoor
