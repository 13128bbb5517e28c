/- A region that draws its order, whose first operations come one behind the other (a call among them may make memory) and whose others, behind these, only read. -/
import Derived.Deep.QuietTactic
import Derived.BigQuiet
import Derived.StillTail
import Derived.WalkKit
namespace Go.Proofs.Ytgpcbehohkhoaab
set_option linter.unusedVariables false
set_option linter.unusedSimpArgs false
open Go.RowKit

/-- Behind the head T is asked; other ways out are as they were. -/
def headQ (Q : Exit → Act → World → Prop) (T : Act → World → Prop) : Exit → Act → World → Prop
  | .normal => T
  | e => Q e

theorem wp_post {P : Program} {o : Oper} {a : Act} {w : World} {K : Act → World → Prop} {Q Q' : Exit → Act → World → Prop} (hp : ∀ c a w, Q (.panic c) a w → Q' (.panic c) a w) (ho : LetsOut Q → LetsOut Q') (h : o.wp P a w K Q) : o.wp P a w K Q' := by
  unfold Oper.wp at *
  generalize (execOp a.eval o).run P w = r at *
  cases r with
  | ok n w' =>
    cases n <;> simp only [Oper.upon] at h ⊢ <;>
      first
        | exact h
        | exact Calls.mono h (fun e w'' he => by cases e <;> first | exact he | exact hp _ _ _ he | exact ho he)
  | halt x w' =>
    cases x <;> simp only [Oper.upon] at h ⊢
    exact hp _ _ _ h

def headB (md : Region.Mode) (ops : Array Oper) (g : Nat) : Nat → Nat → Array Bool → Bool
  | 0, k, listed => Region.lexFrom md ops g k listed
  | f + 1, k, listed => decide (Region.ready md ops listed = [k]) && headB md ops g f (k + 1) (listed.setIfInBounds k true)

theorem wpAny_of_headSeq {P : Program} {md : Region.Mode} {ops : Array Oper} {Q : Exit → Act → World → Prop} {T : Act → World → Prop} {n g : Nat}
    (hT : ∀ (listed : Array Bool) (a : Act) (w : World), Region.lexFrom md ops g n listed = true → T a w → wpAny P md ops Q g listed a w) :
    ∀ (l : List Oper) (k : Nat) (listed : Array Bool) (a : Act) (w : World), (∀ j, j < l.length → l[j]? = ops[k + j]?) → k + l.length = n → headB md ops g l.length k listed = true → wpList P ops (headQ Q T) l a w → wpAny P md ops Q (l.length + g) listed a w
  | [], k, listed, a, w, _, hk, hB, h => by
    have : k = n := by simpa using hk
    subst this
    rw [List.length_nil, Nat.zero_add]
    exact hT listed a w hB h
  | o :: l, k, listed, a, w, hl, hk, hB, h => by
    have h0 : ops[k]? = some o := by simpa using (hl 0 (by simp)).symm
    simp only [List.length_cons, headB, Bool.and_eq_true, decide_eq_true_eq] at hB
    rw [List.length_cons, show l.length + 1 + g = (l.length + g) + 1 by omega]
    refine ⟨fun h1 => (by rw [hB.1] at h1; cases h1), fun i hi => ?_⟩
    rw [hB.1] at hi
    have hik : i = k := by simpa using hi
    subst hik
    have ih : ∀ a' w', wpList P ops (headQ Q T) l a' w' → wpAny P md ops Q (l.length + g) (listed.setIfInBounds i true) a' w' := fun a' w' h' =>
      wpAny_of_headSeq hT l (i + 1) _ a' w' (fun j hj => by have := hl (j + 1) (by simp; omega); simpa [Nat.add_assoc, Nat.add_comm 1 j] using this) (by simp only [List.length_cons] at hk; omega) hB.2 h'
    unfold wpOp
    simp only [h0]
    unfold wpList at h
    split
    · rename_i hw
      simp only [hw, if_true] at h
      rcases h with h | ⟨h1, h2⟩
      · exact Or.inl (Oper.wp_mono ih (wp_post (fun c a w h => h) (fun ⟨a, w, h⟩ => ⟨a, w, h⟩) h))
      · obtain ⟨a', w', h2⟩ := h2
        exact Or.inr ⟨h1, a', w', h2⟩
    · rename_i hw
      simp only [hw] at h
      exact ih _ _ h

/-- The law: n operations one behind the other, then all others, which only read. -/
theorem wp_region_head_quiet {P : Program} {id : Nat} {Q : Exit → Act → World → Prop} {a : Act} {w : World} {l : List Oper} (n : Nat) (hm : P.follows .mixedOrders = true) (hs : Region.noSelect l.toArray = true)
    (hn : n ≤ l.length) (hB : headB .any l.toArray (l.length - n) n 0 (Array.replicate l.length false) = true)
    (h : wpList P l.toArray (headQ Q fun a' w' => wpQuiet P l.toArray (fun w'' => ∃ m, w'' = w'.drewN m) (fun a'' => ∀ w'', (∃ m, w'' = w'.drewN m) → Q .normal a'' w'') (l.drop n) a') (l.take n) a w.drew) : (Code.region id l.toArray true).wp P Q a w := by
  have htl : (l.take n).length = n := by simp; omega
  have hdl : (l.drop n).length = l.length - n := by simp
  refine wp_region_any hm ?_
  have := wpAny_of_headSeq (P := P) (md := .any) (ops := l.toArray) (Q := Q) (n := n) (g := l.length - n) (T := fun a' w' => wpQuiet P l.toArray (fun w'' => ∃ m, w'' = w'.drewN m) (fun a'' => ∀ w'', (∃ m, w'' = w'.drewN m) → Q .normal a'' w'') (l.drop n) a') ?_ (l.take n) 0 (Array.replicate l.length false) a w.drew ?_ (by omega) (by rw [htl]; exact hB) h
  · rw [htl, show n + (l.length - n) = l.length by omega] at this
    simpa using this
  · intro listed a' w' hlex hq
    refine wpAny_of_quiet (C := fun w'' => ∃ m, w'' = w'.drewN m) (Q := fun a'' => ∀ w'', (∃ m, w'' = w'.drewN m) → Q .normal a'' w'') (fun _ w'' hw' h => h w'' hw') _ _ _ _ ⟨0, rfl⟩ ?_
    have h2 := wpAnyQ_lex (P := P) (C := fun w'' => ∃ m, w'' = w'.drewN m) (md := .any) hs (l.drop n) n listed a' (fun j => by simp [List.getElem?_drop]) (by rw [hdl]; exact hlex) hq
    rw [hdl] at h2
    exact h2
  · intro j hj
    rw [htl] at hj
    simp [hj]
end Go.Proofs.Ytgpcbehohkhoaab
