/- Chapter 7: MORE STEPS, NO LESS, in plain words. -/
import Derived.Test.YthooljlikllnpaaDoorK29
namespace Go.Proofs.YthooljlikllnpaaDoor
set_option linter.unusedVariables false

/-- What is told with more steps, beside what is told with fewer. -/
def Mr {α : Type} (m : Nat) (r r' : Res α × St) : Prop :=
  match r.1 with
  | .ok v => r' = (.ok v, more m r.2)
  | .bad h => if h = 2 then ∃ l, r'.2.out = r.2.out ++ l else r' = (.bad h, more m r.2)
theorem Mr.pure {α : Type} {m : Nat} {r : Res α × St} (h : ∀ s, r ≠ (.bad 2, s)) : Mr m r (r.1, more m r.2) := by
  obtain ⟨x, s⟩ := r
  cases x with
  | ok v => rfl
  | bad q =>
    show if q = 2 then _ else _
    by_cases hq : q = 2
    · subst hq; exact absurd rfl (h s)
    · rw [if_neg hq]
theorem Mr.bad {α : Type} {m : Nat} (h : Int) (τ : St) (hh : h ≠ 2) : Mr m ((.bad h, τ) : Res α × St) (.bad h, more m τ) := by
  show (if h = 2 then _ else _ : Prop)
  rw [if_neg hh]
theorem Mr.bind {α β : Type} {m : Nat} {r r' : Res α × St} {k k' : α → St → Res β × St} (h : Mr m r r') (hk : ∀ v, r.1 = .ok v → Mr m (k v r.2) (k' v (more m r.2))) (hx : ∀ v σ, ∃ l, (k' v σ).2.out = σ.out ++ l) : Mr m (bindR r k) (bindR r' k') := by
  obtain ⟨x, s⟩ := r
  cases x with
  | ok v =>
    have e : r' = (.ok v, more m s) := h
    rw [e]
    exact hk v rfl
  | bad q =>
    by_cases hq : q = 2
    · subst hq
      obtain ⟨l, hl⟩ : ∃ l, r'.2.out = s.out ++ l := h
      show ∃ l, (bindR r' k').2.out = s.out ++ l
      obtain ⟨y, t⟩ := r'
      cases y with
      | bad q => exact ⟨l, hl⟩
      | ok v =>
        obtain ⟨l2, h2⟩ := hx v t
        exact ⟨l ++ l2, by show (k' v t).2.out = _; rw [h2]; rw [show t.out = s.out ++ l from hl, List.append_assoc]⟩
    · have e : r' = (.bad q, more m s) := by
        have : (if q = 2 then _ else _ : Prop) := h
        rw [if_neg hq] at this
        exact this
      rw [e]
      show (if q = 2 then _ else _ : Prop)
      rw [if_neg hq]
      rfl
theorem all_more (m F : Nat) (g g' : Cor → St → Res Val × St) (hg : ∀ c σ, σ.left < F → Mr m (g c σ) (g' c (more m σ))) (x : ∀ c σ, Ext σ (g c σ).2) (x' : ∀ c σ, Ext σ (g' c σ).2) : ∀ (l : List Cor) (σ : St), σ.left < F → Mr m (allF g l σ) (allF g' l (more m σ))
  | [], σ, _ => rfl
  | c :: r, σ, hF => by
    rw [allF, allF]
    refine (hg c σ hF).bind (fun v _ => ?_) (fun v τ => ?_)
    · refine (all_more m F g g' hg x x' r _ (Nat.lt_of_le_of_lt (x c σ).1 hF)).bind (fun vs _ => rfl) (fun vs τ => ⟨[], by simp⟩)
    · exact ((all_ext g' x' r τ).bind fun vs ρ => Ext.refl ρ).2
theorem last_more (m F : Nat) (g g' : Cor → St → Res Val × St) (hg : ∀ c σ, σ.left < F → Mr m (g c σ) (g' c (more m σ))) (x : ∀ c σ, Ext σ (g c σ).2) (x' : ∀ c σ, Ext σ (g' c σ).2) : ∀ (l : List Cor) (u : Val) (σ : St), σ.left < F → Mr m (lastF g l u σ) (lastF g' l u (more m σ))
  | [], u, σ, _ => rfl
  | c :: r, u, σ, hF => by
    rw [lastF, lastF]
    refine (hg c σ hF).bind (fun v _ => ?_) (fun v τ => (last_ext g' x' r v τ).2)
    exact last_more m F g g' hg x x' r v _ (Nat.lt_of_le_of_lt (x c σ).1 hF)
theorem show_bad : ∀ (f : Nat), (∀ v w σ h s, showF f v w σ = (.bad h, s) → h = 7) ∧ (∀ v w σ h s, tailF f v w σ = (.bad h, s) → h = 7)
  | 0 => ⟨fun _ _ _ _ _ e => by rw [showF] at e; cases e; rfl, fun _ _ _ _ _ e => by rw [tailF] at e; cases e; rfl⟩
  | f + 1 => by
    obtain ⟨ih1, ih2⟩ := show_bad f
    constructor
    · intro v w σ h s e
      rw [showF] at e
      by_cases hn : 300 < w.nodes + 1
      · rw [if_pos hn] at e
        cases e
        rfl
      rw [if_neg hn] at e
      cases v with
      | num n => cases e
      | tru b => cases e
      | sym s => cases e
      | nil => cases e
      | prim s => cases e
      | proc i => cases e
      | pair i =>
        simp only at e
        cases h : showF f (valuesF i σ).1.1 (Wrt.put { w with nodes := w.nodes + 1 } [40]) (valuesF i σ).2 with
        | mk r t =>
          rw [h] at e
          cases r with
          | bad q => cases e; exact ih1 _ _ _ _ _ h
          | ok w2 => exact ih2 _ _ _ _ _ e
    · intro v w σ h s e
      cases v with
      | pair i =>
        simp only [tailF] at e
        cases h : showF f (valuesF i σ).1.1 (Wrt.put w [32]) (valuesF i σ).2 with
        | mk r t =>
          rw [h] at e
          cases r with
          | bad q => cases e; exact ih1 _ _ _ _ _ h
          | ok w2 => exact ih2 _ _ _ _ _ e
      | nil => simp only [tailF] at e; cases e
      | num n =>
        simp only [tailF] at e
        cases h : showF f (Val.num n) (Wrt.put w [32, 46, 32]) σ with
        | mk r t =>
          rw [h] at e
          cases r with
          | bad q => cases e; exact ih1 _ _ _ _ _ h
          | ok w2 => cases e
      | tru n =>
        simp only [tailF] at e
        cases h : showF f (Val.tru n) (Wrt.put w [32, 46, 32]) σ with
        | mk r t =>
          rw [h] at e
          cases r with
          | bad q => cases e; exact ih1 _ _ _ _ _ h
          | ok w2 => cases e
      | sym n =>
        simp only [tailF] at e
        cases h : showF f (Val.sym n) (Wrt.put w [32, 46, 32]) σ with
        | mk r t =>
          rw [h] at e
          cases r with
          | bad q => cases e; exact ih1 _ _ _ _ _ h
          | ok w2 => cases e
      | prim n =>
        simp only [tailF] at e
        cases h : showF f (Val.prim n) (Wrt.put w [32, 46, 32]) σ with
        | mk r t =>
          rw [h] at e
          cases r with
          | bad q => cases e; exact ih1 _ _ _ _ _ h
          | ok w2 => cases e
      | proc n =>
        simp only [tailF] at e
        cases h : showF f (Val.proc n) (Wrt.put w [32, 46, 32]) σ with
        | mk r t =>
          rw [h] at e
          cases r with
          | bad q => cases e; exact ih1 _ _ _ _ _ h
          | ok w2 => cases e
theorem put_no2 (v : Val) (σ s : St) : putF v σ ≠ (.bad 2, s) := by
  unfold putF
  intro e
  split at e
  · cases h : showF 1000 v ⟨[], 0⟩ σ with
    | mk r t =>
      rw [h] at e
      cases r with
      | bad q =>
        have := (show_bad 1000).1 _ _ _ _ _ h
        subst this
        cases e
      | ok w => cases e
  · cases e
theorem one_no2 (p : ByteArray) (v : Val) (σ s : St) : oneF p v σ ≠ (.bad 2, s) := by
  unfold oneF
  intro e
  split at e
  · cases v <;> cases e
  split at e
  · cases v <;> cases e
  split at e
  · cases e
  split at e
  · cases e
  cases e
theorem sum_no2 (n : Int) : sumF n ≠ .bad 2 := by
  unfold sumF
  split <;> simp
theorem nums_no2 (p : ByteArray) (a b : Int) : numsF p a b ≠ .bad 2 := by
  unfold numsF
  split
  · simp
  split
  · simp
  split
  · exact sum_no2 _
  split
  · exact sum_no2 _
  exact sum_no2 _
theorem two_no2 (p : ByteArray) (a b : Val) (σ s : St) : twoF p a b σ ≠ (.bad 2, s) := by
  unfold twoF
  intro e
  split at e
  · cases e
  split at e
  · cases e
  cases a with
  | num x =>
    cases b with
    | num y => exact nums_no2 p x y (congrArg Prod.fst e)
    | _ => cases e
  | _ => cases e
theorem prim_no2 (p : ByteArray) (vs : List Val) (σ s : St) : primF p vs σ ≠ (.bad 2, s) := by
  unfold primF
  intro e
  split at e
  · match vs, e with
    | [], e => cases e
    | [a], e =>
      simp only at e
      split at e
      · exact put_no2 a σ s e
      · exact one_no2 p a σ s e
    | [a, b], e => exact two_no2 p a b σ s e
    | _ :: _ :: _ :: _, e => cases e
  · cases e
theorem set_no2 (c : Cor) (v : Val) (e : List Nat) (σ s : St) : setF c v e σ ≠ (.bad 2, s) := by
  unfold setF
  intro h
  split at h
  · cases h' : (spotsF σ.rows e)[c.index.toNat]? with
    | none => rw [h'] at h; cases h
    | some x => rw [h'] at h; cases h
  split at h
  · cases h
  · cases h
theorem more_calls (m : Nat) (σ : St) (n : Nat) : ({ (more m σ) with calls := n } : St) = more m { σ with calls := n } := rfl
theorem call_more (m F : Nat) (g g' : Cor → List Nat → St → Res Val × St) (hg : ∀ c e σ, σ.left < F → Mr m (g c e σ) (g' c e (more m σ))) (x' : ∀ c e σ, Ext σ (g' c e σ).2) (vs : List Val) (σ : St) (hF : σ.left < F) : Mr m (callF g vs σ) (callF g' vs (more m σ)) := by
  have nb : ∀ (h : Int) (τ : St), h ≠ 2 → Mr m ((.bad h, τ) : Res Val × St) (.bad h, more m τ) := fun h τ hh => by
    show (if h = 2 then _ else _ : Prop)
    rw [if_neg hh]
  unfold callF
  match vs with
  | [] => exact nb 4 σ (by decide)
  | .num _ :: _ => exact nb 4 σ (by decide)
  | .tru _ :: _ => exact nb 4 σ (by decide)
  | .sym _ :: _ => exact nb 4 σ (by decide)
  | .nil :: _ => exact nb 4 σ (by decide)
  | .pair _ :: _ => exact nb 4 σ (by decide)
  | .prim p :: r =>
    show Mr m (primF p r σ) (primF p r (more m σ))
    rw [prim_more]
    exact Mr.pure (fun s => prim_no2 p r σ s)
  | .proc i :: r =>
    have e1 : (more m σ).procs = σ.procs := rfl
    have e2 : (more m σ).calls = σ.calls := rfl
    have e3 : (more m σ).rows = σ.rows := rfl
    simp only [e1, e2]
    cases hp : σ.procs[i]? with
    | none => exact nb 4 σ (by decide)
    | some q =>
      simp only
      by_cases h1 : (r.length : Int) = q.args
      · rw [if_pos h1, if_pos h1]
        by_cases h2 : σ.calls < 200
        · rw [if_pos h2, if_pos h2]
          have w1 : withF r (more m σ) = more m (withF r σ) := by cases r <;> rfl
          have w2 : withE r q.env (more m σ) = withE r q.env σ := by cases r <;> rfl
          rw [w1, w2]
          exact (hg q.body _ _ (Nat.lt_of_le_of_lt (withF_ext r σ).1 hF)).bind (fun v _ => rfl) (fun v τ => ⟨[], by simp⟩)
        · rw [if_neg h2, if_neg h2]; exact nb 7 σ (by decide)
      · rw [if_neg h1, if_neg h1]; exact nb 5 σ (by decide)
theorem evalB_more (m F : Nat) (g g' : Cor → List Nat → St → Res Val × St) (hg : ∀ c e σ, σ.left < F → Mr m (g c e σ) (g' c e (more m σ))) (x : ∀ c e σ, Ext σ (g c e σ).2) (x' : ∀ c e σ, Ext σ (g' c e σ).2) (c : Cor) (e : List Nat) (τ : St) (hF : τ.left < F) : Mr m (evalB g c e τ) (evalB g' c e (more m τ)) := by
  unfold evalB
  by_cases k1 : c.kind = 1
  · rw [if_pos k1, if_pos k1]; rfl
  rw [if_neg k1, if_neg k1]
  by_cases k2 : c.kind = 2
  · rw [if_pos k2, if_pos k2]; rfl
  rw [if_neg k2, if_neg k2]
  by_cases k3 : c.kind = 3
  · rw [if_pos k3, if_pos k3, quoted_more]; rfl
  rw [if_neg k3, if_neg k3]
  by_cases k4 : c.kind = 4
  · rw [if_pos k4, if_pos k4]; rfl
  rw [if_neg k4, if_neg k4]
  by_cases k5 : c.kind = 5
  · rw [if_pos k5, if_pos k5]
    have e2 : (more m τ).glob = τ.glob := rfl
    rw [e2]
    cases h : globF (c.lib, c.own) τ.glob with
    | none => exact Mr.bad 3 τ (by decide)
    | some v => rfl
  rw [if_neg k5, if_neg k5]
  by_cases k6 : c.kind = 6
  · rw [if_pos k6, if_pos k6]; rfl
  rw [if_neg k6, if_neg k6]
  by_cases k7 : c.kind = 7
  · rw [if_pos k7, if_pos k7]
    refine (hg _ e τ hF).bind (fun v _ => ?_) (fun v ρ => ?_)
    · have hl := Nat.lt_of_le_of_lt (x (c.kids.getD 0 cor0) e τ).1 hF
      by_cases hv : v = .tru false
      · rw [if_pos hv, if_pos hv]; exact hg _ e _ hl
      · rw [if_neg hv, if_neg hv]; exact hg _ e _ hl
    · by_cases hv : v = .tru false
      · rw [if_pos hv]; exact (x' _ e ρ).2
      · rw [if_neg hv]; exact (x' _ e ρ).2
  rw [if_neg k7, if_neg k7]
  by_cases k8 : c.kind = 8
  · rw [if_pos k8, if_pos k8]; rfl
  rw [if_neg k8, if_neg k8]
  by_cases k9 : c.kind = 9
  · rw [if_pos k9, if_pos k9]
    refine (all_more m F (fun k => g k e) (fun k => g' k e) (fun k σ h => hg k e σ h) (fun k σ => x k e σ) (fun k σ => x' k e σ) c.kids τ hF).bind (fun vs _ => ?_) (fun vs ρ => (call_ext g' x' vs ρ).2)
    exact call_more m F g g' hg x' vs _ (Nat.lt_of_le_of_lt (all_ext (fun k => g k e) (fun k σ => x k e σ) c.kids τ).1 hF)
  rw [if_neg k9, if_neg k9]
  by_cases k12 : c.kind = 12
  · rw [if_pos k12, if_pos k12]
    exact last_more m F (fun k => g k e) (fun k => g' k e) (fun k σ h => hg k e σ h) (fun k σ => x k e σ) (fun k σ => x' k e σ) c.kids .nil τ hF
  rw [if_neg k12, if_neg k12]
  refine (hg _ e τ hF).bind (fun v _ => ?_) (fun v ρ => (set_ext c v e ρ).2)
  rw [set_more]
  exact Mr.pure (fun s => set_no2 c v e _ s)
/-- MORE STEPS, NO LESS. -/
theorem eval_more (m : Nat) : ∀ (f f' : Nat) (c : Cor) (e : List Nat) (σ : St), σ.left < f → σ.left + m < f' → Mr m (evalF f c e σ) (evalF f' c e (more m σ))
  | 0, _, _, _, _, h, _ => by omega
  | f + 1, 0, _, _, _, _, h => by omega
  | f + 1, f' + 1, c, e, σ, h1, h2 => by
    rw [evalF]
    by_cases h0 : σ.left = 0
    · rw [if_pos h0]
      exact (eval_ext (f' + 1) c e (more m σ)).2
    rw [if_neg h0, evalF]
    have hm : (more m σ).left = σ.left + m := rfl
    rw [if_neg (by rw [hm]; omega)]
    have es : ({ (more m σ) with left := (more m σ).left - 1 } : St) = more m { σ with left := σ.left - 1 } := by
      have : σ.left + m - 1 = σ.left - 1 + m := by omega
      simp [more, this]
    rw [es]
    exact evalB_more m (min f (f' - m)) (evalF f) (evalF f') (fun c e τ h => eval_more m f f' c e τ (by omega) (by omega)) (eval_ext f) (eval_ext f') c e _ (by show σ.left - 1 < min f (f' - m); omega)
/-- How much fuel there is does not matter, if there is enough. -/
theorem eval_fuel (f f' : Nat) (c : Cor) (e : List Nat) (σ : St) (h1 : σ.left < f) (h2 : σ.left < f') : (∀ s, evalF f c e σ ≠ (.bad 2, s)) → evalF f' c e σ = evalF f c e σ := by
  intro hb
  have h := eval_more 0 f f' c e σ h1 (by omega)
  have e0 : ∀ τ : St, more 0 τ = τ := fun τ => rfl
  rw [e0] at h
  cases hr : evalF f c e σ with
  | mk x s =>
    rw [hr] at h
    cases x with
    | ok v => exact h
    | bad q =>
      by_cases hq : q = 2
      · subst hq; exact absurd hr (hb s)
      · have : (if q = 2 then _ else _ : Prop) := h
        rw [if_neg hq] at this
        exact this
/-- MORE STEPS, NO LESS: of runs. -/
theorem run_more (m : Nat) : ∀ (l : List Cor) (σ : St), (∃ r, (runF l (more m σ)).2.out = (runF l σ).2.out ++ r) ∧ ((runF l σ).1 ≠ 2 → runF l (more m σ) = ((runF l σ).1, more m (runF l σ).2))
  | [], σ => ⟨⟨[], by simp [runF, more]⟩, fun _ => rfl⟩
  | c :: r, σ => by
    have h := eval_more m (σ.left + 1) ((more m σ).left + 1) c [] σ (by omega) (by show σ.left + m < σ.left + m + 1; omega)
    have gr : ∀ l τ, ∃ q, (runF l τ).2.out = τ.out ++ q := by
      intro l
      induction l with
      | nil => intro τ; exact ⟨[], by simp [runF]⟩
      | cons d t ih =>
        intro τ
        rw [runF]
        obtain ⟨_, q1, h1⟩ := eval_ext (τ.left + 1) d [] τ
        cases he : evalF (τ.left + 1) d [] τ with
        | mk x s =>
          rw [he] at h1
          cases x with
          | bad h => exact ⟨q1, h1⟩
          | ok v =>
            obtain ⟨q2, h2⟩ := ih s
            exact ⟨q1 ++ q2, by simp only; rw [h2, h1, List.append_assoc]⟩
    rw [runF, runF]
    cases he : evalF (σ.left + 1) c [] σ with
    | mk x s =>
      rw [he] at h
      cases x with
      | ok v =>
        have e1 : evalF ((more m σ).left + 1) c [] (more m σ) = (.ok v, more m s) := h
        rw [e1]
        exact run_more m r s
      | bad q =>
        by_cases hq : q = 2
        · subst hq
          obtain ⟨l, hl⟩ : ∃ l, (evalF ((more m σ).left + 1) c [] (more m σ)).2.out = s.out ++ l := h
          refine ⟨?_, fun hn => absurd rfl hn⟩
          cases he' : evalF ((more m σ).left + 1) c [] (more m σ) with
          | mk y t =>
            rw [he'] at hl
            cases y with
            | bad h => exact ⟨l, hl⟩
            | ok v =>
              obtain ⟨q2, h2⟩ := gr r t
              exact ⟨l ++ q2, by simp only; rw [h2, hl, List.append_assoc]⟩
        · have e1 : evalF ((more m σ).left + 1) c [] (more m σ) = (.bad q, more m s) := by
            have : (if q = 2 then _ else _ : Prop) := h
            rw [if_neg hq] at this
            exact this
          rw [e1]
          exact ⟨⟨[], by simp [more]⟩, fun _ => rfl⟩
end Go.Proofs.YthooljlikllnpaaDoor
