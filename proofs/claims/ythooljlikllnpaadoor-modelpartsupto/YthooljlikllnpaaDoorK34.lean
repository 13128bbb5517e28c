/- Chapter 7: plain: what is right can be run; texts that are not empty; who changes what. -/
import Derived.Test.YthooljlikllnpaaDoorK31
namespace Go.Proofs.YthooljlikllnpaaDoor
set_option linter.unusedVariables false
set_option linter.unusedSimpArgs false
open Go.RowKit

/-- Rows, procedures and calls as they were. -/
def Qt (σ σ' : St) : Prop := σ'.rows = σ.rows ∧ σ'.procs = σ.procs ∧ σ'.calls = σ.calls
theorem Qt.refl (σ : St) : Qt σ σ := ⟨rfl, rfl, rfl⟩
theorem Qt.trans {a b c : St} (h : Qt a b) (k : Qt b c) : Qt a c := ⟨k.1.trans h.1, k.2.1.trans h.2.1, k.2.2.trans h.2.2⟩
theorem listed_qt (ds : List Dat) (σ : St) : Qt σ (listedF ds σ).2 := by
  cases ds <;> exact ⟨rfl, rfl, rfl⟩
theorem quoted_qt (d : Dat) (σ : St) : Qt σ (quotedF d σ).2 := by
  unfold quotedF
  split
  · exact ⟨rfl, rfl, rfl⟩
  split
  · exact ⟨rfl, rfl, rfl⟩
  split
  · exact ⟨rfl, rfl, rfl⟩
  exact listed_qt _ _
theorem values_qt (i : Nat) (σ : St) : Qt σ (valuesF i σ).2 := by
  unfold valuesF
  cases h : σ.pairs[i]? with
  | none => exact ⟨rfl, rfl, rfl⟩
  | some p =>
    cases p with
    | made a b => exact ⟨rfl, rfl, rfl⟩
    | unmade d r =>
      have q := (quoted_qt d σ).trans (listed_qt r (quotedF d σ).2)
      exact ⟨q.1, q.2.1, q.2.2⟩
theorem show_qt : ∀ (f : Nat), (∀ v w σ, Qt σ (showF f v w σ).2) ∧ (∀ v w σ, Qt σ (tailF f v w σ).2)
  | 0 => ⟨fun _ _ _ => by simp [showF, Qt], fun _ _ _ => by simp [tailF, Qt]⟩
  | f + 1 => by
    obtain ⟨ih1, ih2⟩ := show_qt f
    constructor
    · intro v w σ
      rw [showF]
      split
      · exact ⟨rfl, rfl, rfl⟩
      cases v with
      | num n => exact ⟨rfl, rfl, rfl⟩
      | tru b => exact ⟨rfl, rfl, rfl⟩
      | sym s => exact ⟨rfl, rfl, rfl⟩
      | nil => exact ⟨rfl, rfl, rfl⟩
      | prim s => exact ⟨rfl, rfl, rfl⟩
      | proc i => exact ⟨rfl, rfl, rfl⟩
      | pair i =>
        have hv := values_qt i σ
        have h1 := ih1 (valuesF i σ).1.1 (Wrt.put { w with nodes := w.nodes + 1 } [40]) (valuesF i σ).2
        simp only
        cases h : showF f (valuesF i σ).1.1 (Wrt.put { w with nodes := w.nodes + 1 } [40]) (valuesF i σ).2 with
        | mk r s =>
          rw [h] at h1
          cases r with
          | bad h => exact hv.trans h1
          | ok w2 => exact (hv.trans h1).trans (ih2 (valuesF i σ).1.2 w2 s)
    · intro v w σ
      cases v with
      | pair i =>
        have hv := values_qt i σ
        have h1 := ih1 (valuesF i σ).1.1 (Wrt.put w [32]) (valuesF i σ).2
        simp only [tailF]
        cases h : showF f (valuesF i σ).1.1 (Wrt.put w [32]) (valuesF i σ).2 with
        | mk r s =>
          rw [h] at h1
          cases r with
          | bad h => exact hv.trans h1
          | ok w2 => exact (hv.trans h1).trans (ih2 (valuesF i σ).1.2 w2 s)
      | nil => simp [tailF, Qt]
      | num n =>
        have h1 := ih1 (Val.num n) (Wrt.put w [32, 46, 32]) σ
        simp only [tailF]
        cases h : showF f (Val.num n) (Wrt.put w [32, 46, 32]) σ with
        | mk r s =>
          rw [h] at h1
          cases r <;> exact h1
      | tru n =>
        have h1 := ih1 (Val.tru n) (Wrt.put w [32, 46, 32]) σ
        simp only [tailF]
        cases h : showF f (Val.tru n) (Wrt.put w [32, 46, 32]) σ with
        | mk r s =>
          rw [h] at h1
          cases r <;> exact h1
      | sym n =>
        have h1 := ih1 (Val.sym n) (Wrt.put w [32, 46, 32]) σ
        simp only [tailF]
        cases h : showF f (Val.sym n) (Wrt.put w [32, 46, 32]) σ with
        | mk r s =>
          rw [h] at h1
          cases r <;> exact h1
      | prim n =>
        have h1 := ih1 (Val.prim n) (Wrt.put w [32, 46, 32]) σ
        simp only [tailF]
        cases h : showF f (Val.prim n) (Wrt.put w [32, 46, 32]) σ with
        | mk r s =>
          rw [h] at h1
          cases r <;> exact h1
      | proc n =>
        have h1 := ih1 (Val.proc n) (Wrt.put w [32, 46, 32]) σ
        simp only [tailF]
        cases h : showF f (Val.proc n) (Wrt.put w [32, 46, 32]) σ with
        | mk r s =>
          rw [h] at h1
          cases r <;> exact h1
theorem put_qt (v : Val) (σ : St) : Qt σ (putF v σ).2 := by
  unfold putF
  split
  · have h1 := (show_qt 1000).1 v ⟨[], 0⟩ σ
    cases h : showF 1000 v ⟨[], 0⟩ σ with
    | mk r s =>
      rw [h] at h1
      cases r with
      | bad h => exact h1
      | ok w => exact h1
  · exact Qt.refl σ
theorem one_qt (p : ByteArray) (v : Val) (σ : St) : Qt σ (oneF p v σ).2 := by
  unfold oneF
  split
  · cases v <;> first | exact Qt.refl σ | exact values_qt _ σ
  split
  · cases v <;> first | exact Qt.refl σ | exact values_qt _ σ
  split
  · exact Qt.refl σ
  split
  · exact Qt.refl σ
  exact Qt.refl σ
theorem two_qt (p : ByteArray) (a b : Val) (σ : St) : Qt σ (twoF p a b σ).2 := by
  unfold twoF
  split
  · exact ⟨rfl, rfl, rfl⟩
  split
  · exact Qt.refl σ
  cases a <;> first | exact Qt.refl σ | (cases b <;> exact Qt.refl σ)
theorem prim_qt (p : ByteArray) (vs : List Val) (σ : St) : Qt σ (primF p vs σ).2 := by
  unfold primF
  split
  · match vs with
    | [] => exact Qt.refl σ
    | [a] =>
      simp only
      split
      · exact put_qt a σ
      · exact one_qt p a σ
    | [a, b] => exact two_qt p a b σ
    | _ :: _ :: _ :: _ => exact Qt.refl σ
  · exact Qt.refl σ
/-- What is written is no less than what was there. -/
theorem show_grow : ∀ (f : Nat), (∀ v w σ x s, showF f v w σ = (.ok x, s) → w.txt.length ≤ x.txt.length) ∧ (∀ v w σ x s, tailF f v w σ = (.ok x, s) → w.txt.length ≤ x.txt.length)
  | 0 => ⟨fun _ _ _ _ _ e => by (rw [showF] at e; cases e), fun _ _ _ _ _ e => by (rw [tailF] at e; cases e)⟩
  | f + 1 => by
    obtain ⟨ih1, ih2⟩ := show_grow f
    constructor
    · intro v w σ x s e
      rw [showF] at e
      by_cases hn : 300 < w.nodes + 1
      · rw [if_pos hn] at e
        cases e
      rw [if_neg hn] at e
      cases v with
      | num n => cases e; simp [Wrt.put]
      | tru b => cases e; simp [Wrt.put]
      | sym s => cases e; simp [Wrt.put]
      | nil => cases e; simp [Wrt.put]
      | prim s => cases e; simp [Wrt.put]
      | proc i => cases e; simp [Wrt.put]
      | pair i =>
        simp only at e
        cases h : showF f (valuesF i σ).1.1 (Wrt.put { w with nodes := w.nodes + 1 } [40]) (valuesF i σ).2 with
        | mk r t =>
          rw [h] at e
          cases r with
          | bad q => cases e
          | ok w2 =>
            have h1 := ih1 _ _ _ _ _ h
            have h2 := ih2 _ _ _ _ _ e
            simp [Wrt.put] at h1
            omega
    · intro v w σ x s e
      cases v with
      | pair i =>
        simp only [tailF] at e
        cases h : showF f (valuesF i σ).1.1 (Wrt.put w [32]) (valuesF i σ).2 with
        | mk r t =>
          rw [h] at e
          cases r with
          | bad q => cases e
          | ok w2 =>
            have h1 := ih1 _ _ _ _ _ h
            have h2 := ih2 _ _ _ _ _ e
            simp [Wrt.put] at h1
            omega
      | nil => simp only [tailF] at e; cases e; simp [Wrt.put]
      | num n =>
        simp only [tailF] at e
        cases h : showF f (Val.num n) (Wrt.put w [32, 46, 32]) σ with
        | mk r t =>
          rw [h] at e
          cases r with
          | bad q => cases e
          | ok w2 =>
            have h1 := ih1 _ _ _ _ _ h
            cases e
            simp [Wrt.put] at h1 ⊢
            omega
      | tru n =>
        simp only [tailF] at e
        cases h : showF f (Val.tru n) (Wrt.put w [32, 46, 32]) σ with
        | mk r t =>
          rw [h] at e
          cases r with
          | bad q => cases e
          | ok w2 =>
            have h1 := ih1 _ _ _ _ _ h
            cases e
            simp [Wrt.put] at h1 ⊢
            omega
      | sym n =>
        simp only [tailF] at e
        cases h : showF f (Val.sym n) (Wrt.put w [32, 46, 32]) σ with
        | mk r t =>
          rw [h] at e
          cases r with
          | bad q => cases e
          | ok w2 =>
            have h1 := ih1 _ _ _ _ _ h
            cases e
            simp [Wrt.put] at h1 ⊢
            omega
      | prim n =>
        simp only [tailF] at e
        cases h : showF f (Val.prim n) (Wrt.put w [32, 46, 32]) σ with
        | mk r t =>
          rw [h] at e
          cases r with
          | bad q => cases e
          | ok w2 =>
            have h1 := ih1 _ _ _ _ _ h
            cases e
            simp [Wrt.put] at h1 ⊢
            omega
      | proc n =>
        simp only [tailF] at e
        cases h : showF f (Val.proc n) (Wrt.put w [32, 46, 32]) σ with
        | mk r t =>
          rw [h] at e
          cases r with
          | bad q => cases e
          | ok w2 =>
            have h1 := ih1 _ _ _ _ _ h
            cases e
            simp [Wrt.put] at h1 ⊢
            omega
theorem show_ne (f : Nat) (v : Val) (σ : St) (x : Wrt) (s : St) (e : showF f v ⟨[], 0⟩ σ = (.ok x, s)) (hv : ∀ q, v = .sym q → q.size ≠ 0) (hi : ∀ n, v = .num n → Lib.itoa n ≠ []) : x.txt ≠ [] := by
  cases f with
  | zero => rw [showF] at e; cases e
  | succ f =>
    rw [showF] at e
    rw [if_neg (by decide)] at e
    cases v with
    | num n => cases e; simpa [Wrt.put] using hi n rfl
    | tru b => cases e; simp [Wrt.put]
    | sym q =>
      cases e
      have := hv q rfl
      intro h
      apply this
      have h' : q.data.toList = [] := by simpa [Wrt.put] using h
      show q.data.size = 0
      rw [← Array.length_toList, h']
      rfl
    | nil => cases e; simp [Wrt.put]
    | prim s => cases e; simp [Wrt.put]
    | proc i => cases e; simp [Wrt.put]
    | pair i =>
      simp only at e
      cases h : showF f (valuesF i σ).1.1 (Wrt.put { (⟨[], 0⟩ : Wrt) with nodes := 0 + 1 } [40]) (valuesF i σ).2 with
      | mk r t =>
        rw [h] at e
        cases r with
        | bad q => cases e
        | ok w2 =>
          have h1 := (show_grow f).1 _ _ _ _ _ h
          have h2 := (show_grow f).2 _ _ _ _ _ e
          simp [Wrt.put] at h1
          intro h0
          rw [h0] at h2
          simp at h2
          rw [h2] at h1
          simp at h1
/-- Rows stay as long as they are. -/
structure RX (σ σ' : St) : Prop where
  len : σ.rows.length ≤ σ'.rows.length
  lens : ∀ r, r < σ.rows.length → (σ'.rows.getD r []).length = (σ.rows.getD r []).length
theorem RX.refl (σ : St) : RX σ σ := ⟨Nat.le_refl _, fun _ _ => rfl⟩
theorem RX.trans {a b c : St} (h : RX a b) (k : RX b c) : RX a c := ⟨Nat.le_trans h.len k.len, fun r hr => (k.lens r (Nat.lt_of_lt_of_le hr h.len)).trans (h.lens r hr)⟩
theorem RX.of {a b : St} (h : b.rows = a.rows) : RX a b := ⟨by rw [h]; exact Nat.le_refl _, fun _ _ => by rw [h]⟩
theorem cnt_rx {a b : St} (h : RX a b) : ∀ (e : List Nat), (∀ r ∈ e, r < a.rows.length) → cnt b.rows e = cnt a.rows e
  | [], _ => rfl
  | r :: e, he => by
    rw [cnt, cnt, h.lens r (he r (by simp)), cnt_rx h e (fun x hx => he x (by simp [hx]))]
theorem RX.with (r : List Val) (σ : St) : RX σ (withF r σ) := by
  cases r with
  | nil => exact RX.of rfl
  | cons a t =>
    refine ⟨by simp [withF], fun i hi => ?_⟩
    simp [withF, List.getD, List.getElem?_append_left hi]
theorem RX.set (σ : St) (r q : Nat) (v : Val) : RX σ { σ with rows := σ.rows.set r ((σ.rows.getD r []).set q v) } := by
  refine ⟨by simp, fun i hi => ?_⟩
  by_cases e : r = i
  · subst e
    simp [List.getD, hi]
  · simp [List.getD, List.getElem?_set_ne e]
/-- What is right, where so many parameters are around. -/
inductive Gd : Int → Cor → Prop
  | mk (ar : Int) (c : Cor) : (0 ≤ ar ∧ ar ≤ 600000) → wkids c.kind c.kids.length = 0 → wfields c ar = 0 → c.kids.length ≤ 3000 → (c.kind = 3 → SmD c.quote) → (∀ k ∈ c.kids, Gd (if c.kind = 8 then ar + c.index else ar) k) → Gd ar c
theorem chk_up : ∀ (f : Nat) (d : Dat) (n : Nat), (chk f d n).1 = 0 → alone d = 0 ∧ (d.kind = 4 → ∃ g, f = g + 1 ∧ (chkL (chk g) d.kids (n + 1)).1 = 0)
  | 0, d, n, h => by simp [chk] at h
  | f + 1, d, n, h => by
    unfold chk at h
    by_cases a : 2000 < n + 1
    · rw [if_pos a] at h; simp at h
    rw [if_neg a] at h
    by_cases b : alone d = 0
    · rw [if_pos b] at h
      refine ⟨b, fun h4 => ⟨f, rfl, ?_⟩⟩
      rw [if_pos h4] at h
      exact h
    · rw [if_neg b] at h
      exact absurd h b
theorem chkL_all (g : Dat → Nat → Int × Nat) : ∀ (l : List Dat) (n : Nat), (chkL g l n).1 = 0 → ∀ k ∈ l, ∃ n', (g k n').1 = 0
  | [], n, _, k, hk => by simp at hk
  | d :: r, n, h, k, hk => by
    unfold chkL at h
    by_cases e : (g d n).1 = 0
    · rw [if_pos e] at h
      rcases List.mem_cons.1 hk with rfl | hk
      · exact ⟨n, e⟩
      · exact chkL_all g r _ h k hk
    · rw [if_neg e] at h
      exact absurd h e
theorem smd_of : ∀ (f : Nat) (d : Dat) (n : Nat), (chk f d n).1 = 0 → SmD d
  | 0, d, n, h => by simp [chk] at h
  | f + 1, d, n, h => by
    obtain ⟨ha, h4⟩ := chk_up (f + 1) d n h
    have hk : d.kind = 1 ∨ d.kind = 2 ∨ d.kind = 3 ∨ d.kind = 4 := by
      unfold alone at ha
      by_cases k1 : d.kind = 1
      · exact Or.inl k1
      by_cases k2 : d.kind = 2
      · exact Or.inr (Or.inl k2)
      by_cases k3 : d.kind = 3
      · exact Or.inr (Or.inr (Or.inl k3))
      by_cases k4 : d.kind = 4
      · exact Or.inr (Or.inr (Or.inr k4))
      simp [k1, k2, k3, k4] at ha
    refine .mk d hk (fun k3 => ?_) (fun k1 => ?_) (fun k4 k hk => ?_)
    · unfold alone at ha
      rw [if_neg (by omega), if_neg (by omega), if_pos k3] at ha
      by_cases hn : namedB d.name
      · unfold namedB at hn
        simp only [Bool.and_eq_true, decide_eq_true_eq] at hn
        omega
      · rw [if_neg hn] at ha
        simp at ha
    · unfold alone at ha
      rw [if_pos k1] at ha
      by_cases hn : rangeB d.n
      · exact hn
      · rw [if_neg hn] at ha
        simp at ha
    · obtain ⟨g, hg, hl⟩ := h4 k4
      obtain rfl : f = g := by omega
      obtain ⟨n', hn'⟩ := chkL_all _ _ _ hl k hk
      exact smd_of f k n' hn'
theorem ckC_ge : ∀ (f : Nat) (ar : Int) (c : Cor) (n : Nat), n + 1 ≤ (ckC f ar c n).2
  | 0, ar, c, n => by simp [ckC]
  | f + 1, ar, c, n => by
    have hL : ∀ (l : List Cor) (ar : Int) (k : Nat), k ≤ (ckL (ckC f ar) l k).2 := by
      intro l ar
      induction l with
      | nil => intro k; exact Nat.le_refl _
      | cons d r ih =>
        intro k
        unfold ckL
        have h1 := ckC_ge f ar d k
        split
        · have h2 := ih (ckC f ar d k).2
          omega
        · omega
    unfold ckC
    split
    · exact Nat.le_refl _
    split
    · split
      · exact hL _ _ _
      · exact Nat.le_refl _
    · exact Nat.le_refl _
theorem ckL_all (f : Nat) (ar : Int) : ∀ (l : List Cor) (n : Nat), n ≤ 3000 → (ckL (ckC f ar) l n).1 = 0 → n + l.length ≤ 3000 ∧ ∀ k ∈ l, ∃ n', n' ≤ 3000 ∧ (ckC f ar k n').1 = 0
  | [], n, hn, _ => ⟨hn, fun k hk => by simp at hk⟩
  | c :: r, n, hn, h => by
    unfold ckL at h
    by_cases e : (ckC f ar c n).1 = 0
    · rw [if_pos e] at h
      have h1 := ckC_ge f ar c n
      have h2 := ckC_le f ar c n hn e
      obtain ⟨q1, q2⟩ := ckL_all f ar r _ h2 h
      refine ⟨by simp; omega, fun k hk => ?_⟩
      rcases List.mem_cons.1 hk with rfl | hk
      · exact ⟨n, hn, e⟩
      · exact q2 k hk
    · rw [if_neg e] at h
      exact absurd h e
/-- What nothing is wrong with is right. -/
theorem gd_of : ∀ (f : Nat) (ar : Int) (c : Cor) (n : Nat), 0 ≤ ar → ar + 2000 * f ≤ 600000 → n ≤ 3000 → (ckC f ar c n).1 = 0 → Gd ar c
  | 0, ar, c, n, _, _, hn, h => by simp [ckC] at h
  | f + 1, ar, c, n, ha, hb, hn, h => by
    unfold ckC at h
    by_cases a : 3000 < n + 1
    · rw [if_pos a] at h
      simp at h
    rw [if_neg a] at h
    by_cases b : wkids c.kind c.kids.length = 0
    · rw [if_pos b] at h
      by_cases d : wfields c ar = 0
      · rw [if_pos d] at h
        obtain ⟨q1, q2⟩ := ckL_all f _ c.kids (n + 1) (by omega) h
        refine .mk ar c ⟨ha, by omega⟩ b d (by omega) (fun k3 => ?_) (fun k hk => ?_)
        · have d' := d
          unfold wfields at d'
          rw [if_neg (by omega), if_neg (by omega), if_neg (by omega), if_neg (by omega), if_neg (by omega), if_pos k3] at d'
          unfold wrong wrongFrom at d'
          by_cases z : (chk 40 c.quote 0).1 = 0
          · exact smd_of 40 _ 0 z
          · rw [if_neg z] at d'
            exact absurd d' z
        · obtain ⟨n', hn', hk'⟩ := q2 k hk
          by_cases k8 : c.kind = 8
          · have d' := d
            unfold wfields at d'
            rw [if_neg (by omega), if_neg (by omega), if_neg (by omega), if_pos k8] at d'
            by_cases z : 0 ≤ c.index ∧ c.index ≤ 2000
            · rw [if_pos k8] at hk' ⊢
              exact gd_of f _ k n' (by omega) (by omega) hn' hk'
            · rw [if_neg z] at d'
              simp at d'
          · rw [if_neg k8] at hk' ⊢
            exact gd_of f _ k n' ha (by omega) hn' hk'
      · rw [if_neg d] at h
        exact absurd h d
    · rw [if_neg b] at h
      exact absurd h b
/-- Procedures whose bodies are right. -/
def Sc (σ : St) : Prop := ∀ q ∈ σ.procs, 0 ≤ q.args ∧ q.args ≤ 2000 ∧ (∀ r ∈ q.env, r < σ.rows.length) ∧ Gd ((cnt σ.rows q.env : Nat) + q.args) q.body
theorem Sc.rx {a b : St} (h : Sc a) (hp : b.procs = a.procs) (x : RX a b) : Sc b := by
  intro q hq
  rw [hp] at hq
  obtain ⟨h1, h2, h3, h4⟩ := h q hq
  refine ⟨h1, h2, fun r hr => Nat.lt_of_lt_of_le (h3 r hr) x.len, ?_⟩
  rw [cnt_rx x q.env h3]
  exact h4
theorem Sc.qt {a b : St} (h : Sc a) (x : Qt a b) : Sc b := h.rx x.2.1 (RX.of x.1)
end Go.Proofs.YthooljlikllnpaaDoor
