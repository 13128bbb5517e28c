/- Chapter 11, plainly: how a run ends, and how much it puts out. -/
import Derived.Test.YthikdpclifeonaaGreatDoorK23
namespace Go.Proofs.YthikdpclifeonaaGreatDoor
set_option linter.unusedVariables false
set_option linter.unusedSimpArgs false

/-- An end is one of seven. -/
def HowOk {α : Type} : Res α → Prop
  | .ok _ => True
  | .bad h => 1 ≤ h ∧ h ≤ 7
def Out2 (σ : St) : Prop := σ.out.length ≤ 200
theorem sum_how (n : Int) : HowOk (sumF n) := by unfold sumF; split <;> simp [HowOk]
theorem nums_how (p : ByteArray) (a b : Int) : HowOk (numsF p a b) := by
  unfold numsF
  split
  · trivial
  split
  · trivial
  split
  · exact sum_how _
  split
  · exact sum_how _
  exact sum_how _
theorem one_how (p : ByteArray) (v : Val) (σ : St) : HowOk (oneF p v σ).1 ∧ (oneF p v σ).2.out = σ.out := by
  unfold oneF
  split
  · cases v <;> first | exact ⟨by simp [HowOk], rfl⟩ | exact ⟨trivial, values_same _ σ⟩
  split
  · cases v <;> first | exact ⟨by simp [HowOk], rfl⟩ | exact ⟨trivial, values_same _ σ⟩
  split
  · exact ⟨trivial, rfl⟩
  split
  · exact ⟨trivial, rfl⟩
  exact ⟨trivial, rfl⟩
theorem two_how (p : ByteArray) (a b : Val) (σ : St) : HowOk (twoF p a b σ).1 ∧ (twoF p a b σ).2.out = σ.out := by
  unfold twoF
  split
  · exact ⟨trivial, rfl⟩
  split
  · exact ⟨trivial, rfl⟩
  cases a <;> first | exact ⟨by simp [HowOk], rfl⟩ | (cases b <;> first | exact ⟨nums_how _ _ _, rfl⟩ | exact ⟨by simp [HowOk], rfl⟩)
theorem put_how (v : Val) (σ : St) (h : Out2 σ) : HowOk (putF v σ).1 ∧ Out2 (putF v σ).2 := by
  unfold putF
  by_cases hl : σ.out.length < 200
  · rw [if_pos hl]
    have h1 := (show_same 1000).1 v ⟨[], 0⟩ σ
    cases hs : showF 1000 v ⟨[], 0⟩ σ with
    | mk r s =>
      rw [hs] at h1
      have h2 : s.out = σ.out := h1
      cases r with
      | bad q =>
        have := (show_bad 1000).1 _ _ _ _ _ hs
        subst this
        exact ⟨by simp [HowOk], by show s.out.length ≤ 200; rw [h2]; exact h⟩
      | ok w => exact ⟨trivial, by show (s.out ++ [w.txt]).length ≤ 200; rw [h2]; simp; omega⟩
  · rw [if_neg hl]
    exact ⟨by simp [HowOk], h⟩
theorem prim_how (p : ByteArray) (vs : List Val) (σ : St) (h : Out2 σ) : HowOk (primF p vs σ).1 ∧ Out2 (primF p vs σ).2 := by
  unfold primF
  split
  · match vs with
    | [] => exact ⟨by simp [HowOk], h⟩
    | [a] =>
      simp only
      split
      · exact put_how a σ h
      · have := one_how p a σ
        exact ⟨this.1, by show (oneF p a σ).2.out.length ≤ 200; rw [this.2]; exact h⟩
    | [a, b] =>
      have := two_how p a b σ
      exact ⟨this.1, by show (twoF p a b σ).2.out.length ≤ 200; rw [this.2]; exact h⟩
    | _ :: _ :: _ :: _ => exact ⟨by simp [HowOk], h⟩
  · exact ⟨by simp [HowOk], h⟩
theorem call_how (PP : List Pro) (n : Nat) (c : Mc) (h : Out2 c.st) : HowOk (callM PP n c).1 ∧ Out2 (callM PP n c).2.st := by
  unfold callM
  simp only
  cases c.stack.getD (c.stack.length - n - 1) .nil with
  | prim p =>
    simp only
    have h := prim_how p (c.stack.drop (c.stack.length - n - 1 + 1)) c.st h
    cases hp : primF p (c.stack.drop (c.stack.length - n - 1 + 1)) c.st with
    | mk r s => rw [hp] at h; cases r <;> first | exact ⟨trivial, h.2⟩ | exact h
  | proc i =>
    simp only
    cases c.st.procs[i]? with
    | none => exact ⟨by simp [HowOk], h⟩
    | some q =>
      simp only
      split
      · split
        · cases c.stack.drop (c.stack.length - n - 1 + 1) <;> exact ⟨trivial, h⟩
        · exact ⟨by simp [HowOk], h⟩
      · exact ⟨by simp [HowOk], h⟩
  | num n => exact ⟨by simp [HowOk], h⟩
  | tru b => exact ⟨by simp [HowOk], h⟩
  | sym s => exact ⟨by simp [HowOk], h⟩
  | nil => exact ⟨by simp [HowOk], h⟩
  | pair i => exact ⟨by simp [HowOk], h⟩
theorem ins_how (PP : List Pro) (x : In) (c : Mc) (h : Out2 c.st) : HowOk (insM PP x c).1 ∧ Out2 (insM PP x c).2.st := by
  refine ins_cases (fun r => HowOk r.1 ∧ Out2 r.2.st) PP x c (fun _ => ⟨trivial, h⟩) (fun _ => ⟨trivial, h⟩) (fun _ => ⟨trivial, ?_⟩) (fun _ => ⟨trivial, h⟩) (fun _ => ?_) (fun _ => ⟨trivial, h⟩) (fun _ => ⟨trivial, h⟩) (fun _ => call_how PP _ c h) (fun _ => ⟨trivial, h⟩) (fun _ => ?_) (fun _ => ?_) (fun _ => ?_) (fun _ => ⟨trivial, h⟩) (fun _ => ⟨trivial, h⟩) (fun _ => ?_) ⟨trivial, h⟩
  · show (quotedF x.quote c.st).2.out.length ≤ 200
    rw [show (quotedF x.quote c.st).2.out = c.st.out from quoted_same _ _]
    exact h
  · cases c.glob.getD x.a.toNat none <;> first | exact ⟨trivial, h⟩ | exact ⟨by simp [HowOk], h⟩
  · by_cases z : c.top = .tru false
    · rw [if_pos z]; exact ⟨trivial, h⟩
    · rw [if_neg z]; exact ⟨trivial, h⟩
  · cases (spotsF c.st.rows c.env)[x.a.toNat]? with
    | none => exact ⟨trivial, h⟩
    | some p => exact ⟨trivial, h⟩
  · cases c.glob.getD x.a.toNat none <;> first | exact ⟨trivial, h⟩ | exact ⟨by simp [HowOk], h⟩
  · unfold leaveM
    cases c.calls.getLast? <;> exact ⟨trivial, h⟩
theorem step_how (PP : List Pro) (c : Mc) (h : Out2 c.st) : HowOk (stepM PP c).1 ∧ Out2 (stepM PP c).2.st := by
  unfold stepM
  split
  · exact ⟨by simp [HowOk], h⟩
  · exact ins_how PP _ _ h
theorem loop_how (PP : List Pro) : ∀ (f : Nat) (c : Mc), Out2 c.st → HowOk (loopM PP f c).1 ∧ Out2 (loopM PP f c).2.st
  | 0, c, h => ⟨by simp [loopM, HowOk], h⟩
  | f + 1, c, h => by
    rw [loopM]
    have hs := step_how PP c h
    cases hq : stepM PP c with
    | mk r d =>
      rw [hq] at hs
      cases r with
      | bad b => exact hs
      | ok b =>
        cases b with
        | false => exact ⟨trivial, hs.2⟩
        | true => exact loop_how PP f d hs.2
/-- A run comes to an end in one of seven ways, with no more put out than may be. -/
theorem run_how (PP : List Pro) : ∀ (l : List Nat) (c : Mc), Out2 c.st → 1 ≤ (runM PP l c).1 ∧ (runM PP l c).1 ≤ 7 ∧ Out2 (runM PP l c).2.st
  | [], c, h => ⟨by simp [runM], by simp [runM], h⟩
  | s :: r, c, h => by
    rw [runM]
    have hl := loop_how PP (c.left + 1) { c with p := s, next := 0, env := [] } h
    cases hq : loopM PP (c.left + 1) { c with p := s, next := 0, env := [] } with
    | mk q d =>
      rw [hq] at hl
      cases q with
      | bad b => exact ⟨hl.1.1, hl.1.2, hl.2⟩
      | ok u => exact run_how PP r d hl.2
end Go.Proofs.YthikdpclifeonaaGreatDoor
