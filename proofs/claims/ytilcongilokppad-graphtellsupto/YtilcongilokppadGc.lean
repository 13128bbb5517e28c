/- Plain mathematics: rings, told apart by two walks. -/
import Derived.Test.YtilcongilokppadGb
namespace Go.Proofs.Ytilcongilokppad
set_option linter.unusedVariables false
set_option linter.unusedSimpArgs false

/-- a needs b, by way of as many others as there are, or is b. -/
inductive Rs (N : Nat → List Nat) : Nat → Nat → Prop
  | refl (a : Nat) : Rs N a a
  | step {a b c : Nat} : b ∈ N a → Rs N b c → Rs N a c
theorem Rs.trans {N : Nat → List Nat} {a b c : Nat} (h : Rs N a b) (h' : Rs N b c) : Rs N a c := by
  induction h with
  | refl => exact h'
  | step h1 h2 ih => exact .step h1 (ih h')
theorem Rs.one {N : Nat → List Nat} {a b : Nat} (h : b ∈ N a) : Rs N a b := .step h (.refl _)
/-- a needs b, by way of others or not. -/
def Rch (N : Nat → List Nat) (a b : Nat) : Prop := ∃ m ∈ N a, Rs N m b
theorem Rch.of_ne {N : Nat → List Nat} {a b : Nat} (h : Rs N a b) (hne : a ≠ b) : Rch N a b := by
  cases h with
  | refl => exact absurd rfl hne
  | step h1 h2 => exact ⟨_, h1, h2⟩
theorem Rch.rs {N : Nat → List Nat} {a b : Nat} (h : Rch N a b) : Rs N a b := by
  obtain ⟨m, h1, h2⟩ := h
  exact .step h1 h2
theorem Rch.more {N : Nat → List Nat} {a b c : Nat} (h : Rch N a b) (h' : Rs N b c) : Rch N a c := by
  obtain ⟨m, h1, h2⟩ := h
  exact ⟨m, h1, h2.trans h'⟩
theorem Rs.rch {N : Nat → List Nat} {a b c : Nat} (h : Rs N a b) (h' : Rch N b c) : Rch N a c := by
  cases h with
  | refl => exact h'
  | step h1 h2 => exact ⟨_, h1, h2.trans h'.rs⟩
theorem Rs.last {N : Nat → List Nat} {a b : Nat} (h : Rs N a b) : a = b ∨ ∃ p, Rs N a p ∧ b ∈ N p := by
  induction h with
  | refl => exact Or.inl rfl
  | step h1 h2 ih =>
    rcases ih with rfl | ⟨p, hp, hb⟩
    · exact Or.inr ⟨_, .refl _, h1⟩
    · exact Or.inr ⟨p, .step h1 hp, hb⟩
theorem Rch.last {N : Nat → List Nat} {a b : Nat} (h : Rch N a b) : ∃ p, Rs N a p ∧ b ∈ N p := by
  obtain ⟨m, h1, h2⟩ := h
  rcases h2.last with rfl | ⟨p, hp, hb⟩
  · exact ⟨a, .refl _, h1⟩
  · exact ⟨p, .step h1 hp, hb⟩
theorem Rs.lt {n : Nat} {N : Nat → List Nat} (hN : ∀ k, k < n → ∀ m ∈ N k, m < n) {a b : Nat} (h : Rs N a b) (ha : a < n) : b < n := by
  induction h with
  | refl => exact ha
  | step h1 h2 ih => exact ih (hN _ ha _ h1)

/-- In the order in which a walk leaves them: what u needs was left ahead of it, or leads to all that was left since. -/
def Leaves (n : Nat) (N : Nat → List Nat) (out : List Nat) : Prop :=
  ∀ (p u : Nat), out[p]? = some u → ∀ w ∈ N u, (∃ q : Nat, q < p ∧ out[q]? = some w) ∨ ∃ q : Nat, p ≤ q ∧ out[q]? = some w ∧ ∀ (r x : Nat), p ≤ r → r ≤ q → out[r]? = some x → Rs N w x

/-- The walk along the ways: out is left, path is being gone, i were begun with. -/
structure Walk (n : Nat) (N : Nat → List Nat) (i : Nat) (out path gone : List Nat) (met : Nat → Bool) : Prop where
  len : gone.length = n
  met : ∀ k, k < n → (met k = true ↔ k ∈ out ∨ k ∈ path)
  nd : (out ++ path).Nodup
  lt : ∀ k, k ∈ out ++ path → k < n
  ahead : ∀ k, k < i → k ∈ out ++ path
  chain : ∀ (t a b : Nat), path[t]? = some a → path[t + 1]? = some b → b ∈ N a
  done : ∀ a, a ∈ path → ∀ (t m : Nat), t < gone.getD a 0 → (N a)[t]? = some m → m ∈ out ++ path
  fresh : ∀ a, a < n → a ∉ out ++ path → gone.getD a 0 = 0
  most : ∀ a, a < n → gone.getD a 0 ≤ (N a).length
  leaves : ∀ (p u : Nat), out[p]? = some u → ∀ w ∈ N u, (∃ q : Nat, q < p ∧ out[q]? = some w) ∨ (∃ q : Nat, p ≤ q ∧ out[q]? = some w ∧ ∀ (r x : Nat), p ≤ r → r ≤ q → out[r]? = some x → Rs N w x) ∨
    (w ∈ path ∧ ∀ (r x : Nat), p ≤ r → out[r]? = some x → Rs N w x)

section
variable {n : Nat} {N : Nat → List Nat} {i : Nat} {out path gone : List Nat} {met : Nat → Bool}

theorem Walk.start (n : Nat) (N : Nat → List Nat) : Walk n N 0 [] [] (List.replicate n 0) (fun _ => false) :=
  ⟨by simp, by simp, by simp, by simp, fun k hk => by omega, by simp, by simp, fun a ha _ => by simp [List.getD, ha], fun a ha => by simp [List.getD, ha], by simp⟩

/-- All on the path lead to its end. -/
theorem chain_end : ∀ (path : List Nat) (e : Nat), (∀ (t a b : Nat), (path ++ [e])[t]? = some a → (path ++ [e])[t + 1]? = some b → b ∈ N a) → ∀ a ∈ path ++ [e], Rs N a e
  | [], e, _, a, ha => by
    simp at ha
    subst ha
    exact .refl _
  | x :: path, e, h, a, ha => by
    have ih := chain_end path e fun t a b h1 h2 => h (t + 1) a b (by simpa using h1) (by simpa using h2)
    rcases List.mem_cons.1 ha with rfl | ha
    · cases path with
      | nil => exact .step (h 0 a e (by simp) (by simp)) (.refl _)
      | cons y path => exact .step (h 0 a y (by simp) (by simp)) (ih y (by simp))
    · exact ih a ha

theorem Walk.known (h : Walk n N i out path gone met) (hi : i ∈ out ++ path) : Walk n N (i + 1) out path gone met := by
  refine { h with ahead := fun k hk => ?_ }
  by_cases e : k = i
  · subst e
    exact hi
  · exact h.ahead k (by omega)

/-- One is entered: from nowhere, or from the path's end. -/
theorem Walk.enter (h : Walk n N i out path gone met) {k : Nat} (hk : k < n) (hm : met k = false) (hc : ∀ p e, path = p ++ [e] → k ∈ N e) : Walk n N i out (path ++ [k]) gone (fun m => if m = k then true else met m) := by
  have hko : k ∉ out ++ path := fun c => by
    have := (h.met k hk).2 (List.mem_append.1 c)
    rw [hm] at this
    cases this
  have ho : ∀ m, m ∈ out ++ path → m ∈ out ++ (path ++ [k]) := fun m hm => by
    rcases List.mem_append.1 hm with q | q
    · exact List.mem_append_left _ q
    · exact List.mem_append_right _ (List.mem_append_left _ q)
  refine ⟨h.len, fun m hmn => ?_, ?_, fun m hmm => ?_, fun m hmi => ho m (h.ahead m hmi), fun t a b ha hb => ?_, fun a ha t m ht hx => ?_, fun a ha han => h.fresh a ha fun c => han (ho a c), h.most, fun p u hu w hw => ?_⟩
  · by_cases e : m = k
    · subst e
      simp
    · have := h.met m hmn
      simp [e, this]
  · rw [← List.append_assoc, List.nodup_append]
    refine ⟨h.nd, by simp, ?_⟩
    intro a ha b hb e
    simp at hb
    subst hb e
    exact hko ha
  · rw [← List.append_assoc] at hmm
    rcases List.mem_append.1 hmm with q | q
    · exact h.lt m q
    · simp at q
      subst q
      exact hk
  · by_cases ht : t + 1 < path.length
    · rw [List.getElem?_append_left (by omega)] at ha
      rw [List.getElem?_append_left (by omega)] at hb
      exact h.chain t a b ha hb
    · have hlt : t + 1 < (path ++ [k]).length := (List.getElem?_eq_some_iff.1 hb).1
      simp at hlt
      have e1 : t + 1 = path.length := by omega
      rw [e1] at hb
      simp at hb
      subst hb
      rw [List.getElem?_append_left (by omega)] at ha
      refine hc (path.take t) a ?_
      have : path.take (t + 1) = path.take t ++ [a] := by rw [List.take_add_one, ha]; rfl
      rw [← this, e1, List.take_length]
  · rcases List.mem_append.1 ha with q | q
    · exact ho m (h.done a q t m ht hx)
    · simp at q
      subst q
      rw [h.fresh a hk hko] at ht
      omega
  · rcases h.leaves p u hu w hw with q | q | ⟨q, r⟩
    · exact Or.inl q
    · exact Or.inr (Or.inl q)
    · exact Or.inr (Or.inr ⟨List.mem_append_left _ q, r⟩)

/-- A way is gone that leads to one that was met: or will be. -/
theorem Walk.go (h : Walk n N i out path gone met) {p : List Nat} {at' m : Nat} (hp : path = p ++ [at']) (hm : (N at')[gone.getD at' 0]? = some m) (hmet : m ∈ out ++ path) : Walk n N i out path (gone.set at' (gone.getD at' 0 + 1)) met := by
  have hatp : at' ∈ path := by simp [hp]
  have hat : at' < n := h.lt at' (List.mem_append_right _ hatp)
  have hl := h.len
  have hlt := (List.getElem?_eq_some_iff.1 hm).1
  refine { h with len := by simpa using hl, done := fun a ha t x ht hx => ?_, fresh := fun a ha han => ?_, most := fun a ha => ?_ }
  · rw [set_at (by omega)] at ht
    by_cases e : a = at'
    · subst e
      rw [if_pos rfl] at ht
      by_cases e2 : t = gone.getD a 0
      · subst e2
        rw [hm] at hx
        cases hx
        exact hmet
      · exact h.done a ha t x (by omega) hx
    · rw [if_neg e] at ht
      exact h.done a ha t x ht hx
  · rw [set_at (by omega), if_neg]
    · exact h.fresh a ha han
    · rintro rfl
      exact han (List.mem_append_right _ hatp)
  · rw [set_at (by omega)]
    split
    · rename_i e
      subst e
      omega
    · exact h.most a ha

/-- .. and the other way round: gone first, entered then. -/
theorem Walk.goEnter (h : Walk n N i out path gone met) {p : List Nat} {at' m : Nat} (hp : path = p ++ [at']) (hN : ∀ k, k < n → ∀ m ∈ N k, m < n) (hm : (N at')[gone.getD at' 0]? = some m) (hmet : met m = false) :
    Walk n N i out (path ++ [m]) (gone.set at' (gone.getD at' 0 + 1)) (fun x => if x = m then true else met x) := by
  have hatp : at' ∈ path := by simp [hp]
  have hat : at' < n := h.lt at' (List.mem_append_right _ hatp)
  have hmN : m ∈ N at' := List.mem_of_getElem? hm
  have hmn := hN at' hat m hmN
  have h1 := h.enter hmn hmet fun p' e he => by
    have := he.symm.trans hp
    have : [e] = [at'] := (List.append_inj' this rfl).2
    simp at this
    subst this
    exact hmN
  have hl := h.len
  have hlt := (List.getElem?_eq_some_iff.1 hm).1
  have hmp : m ∈ out ++ (path ++ [m]) := by simp
  refine { h1 with len := by simpa using hl, done := fun a ha t x ht hx => ?_, fresh := fun a ha han => ?_, most := fun a ha => ?_ }
  · rw [set_at (by omega)] at ht
    by_cases e : a = at'
    · subst e
      rw [if_pos rfl] at ht
      by_cases e2 : t = gone.getD a 0
      · subst e2
        rw [hm] at hx
        cases hx
        exact hmp
      · exact h1.done a ha t x (by omega) hx
    · rw [if_neg e] at ht
      exact h1.done a ha t x ht hx
  · rw [set_at (by omega), if_neg]
    · exact h1.fresh a ha han
    · rintro rfl
      exact han (List.mem_append_right _ (List.mem_append_left _ hatp))
  · rw [set_at (by omega)]
    split
    · rename_i e
      subst e
      omega
    · exact h1.most a ha

theorem mem_at {l : List Nat} {x : Nat} (h : x ∈ l) : ∃ q : Nat, l[q]? = some x := List.mem_iff_getElem?.1 h

/-- The path's end is left. -/
theorem Walk.leave {p : List Nat} {e : Nat} (h : Walk n N i out (p ++ [e]) gone met) (hg : (N e).length ≤ gone.getD e 0) : Walk n N i (out ++ [e]) p gone met := by
  have hsame : ∀ k, k ∈ out ++ (p ++ [e]) ↔ k ∈ out ++ [e] ++ p := fun k => by
    simp only [List.mem_append, List.mem_singleton]
    constructor
    · rintro (a | a | a)
      · exact Or.inl (Or.inl a)
      · exact Or.inr a
      · exact Or.inl (Or.inr a)
    · rintro ((a | a) | a)
      · exact Or.inl a
      · exact Or.inr (Or.inr a)
      · exact Or.inr (Or.inl a)
  have hend := chain_end p e h.chain
  have hperm : (out ++ [e] ++ p).Perm (out ++ (p ++ [e])) := by
    rw [List.append_assoc]
    exact List.Perm.append_left _ List.perm_append_comm
  have hto : ∀ (r x : Nat), (out ++ [e])[r]? = some x → out[r]? = some x ∨ (r = out.length ∧ x = e) := fun r x hx => by
    by_cases hr : r < out.length
    · rw [List.getElem?_append_left hr] at hx
      exact Or.inl hx
    · have hlt : r < (out ++ [e]).length := (List.getElem?_eq_some_iff.1 hx).1
      simp at hlt
      have e1 : r = out.length := by omega
      subst e1
      simp at hx
      exact Or.inr ⟨rfl, hx.symm⟩
  have hfrom : ∀ (r x : Nat), out[r]? = some x → (out ++ [e])[r]? = some x := fun r x hx => by
    rw [List.getElem?_append_left (List.getElem?_eq_some_iff.1 hx).1]
    exact hx
  refine ⟨h.len, fun k hk => ?_, hperm.nodup_iff.2 h.nd, fun k hk => h.lt k ((hsame k).2 hk), fun k hk => (hsame k).1 (h.ahead k hk), fun t a b ha hb => ?_, fun a ha t m ht hm => ?_, fun a ha han => h.fresh a ha fun c => han ((hsame a).1 c), h.most, fun q u hu w hw => ?_⟩
  · have h1 := h.met k hk
    have h2 := hsame k
    rw [List.mem_append] at h2
    rw [h1, h2, List.mem_append]
  · have h1 := (List.getElem?_eq_some_iff.1 hb).1
    refine h.chain t a b ?_ ?_
    · rw [List.getElem?_append_left (by omega)]
      exact ha
    · rw [List.getElem?_append_left h1]
      exact hb
  · exact (hsame m).1 (h.done a (List.mem_append_left _ ha) t m ht hm)
  · rcases hto q u hu with hu2 | ⟨rfl, rfl⟩
    · rcases h.leaves q u hu2 w hw with ⟨q', a, b⟩ | ⟨q', a, b, c⟩ | ⟨a, b⟩
      · exact Or.inl ⟨q', a, hfrom _ _ b⟩
      · refine Or.inr (Or.inl ⟨q', a, hfrom _ _ b, fun r x h1 h2 hx => ?_⟩)
        have hq' := (List.getElem?_eq_some_iff.1 b).1
        rcases hto r x hx with hx | ⟨rfl, rfl⟩
        · exact c r x h1 h2 hx
        · omega
      · have hall : ∀ (r x : Nat), q ≤ r → (out ++ [e])[r]? = some x → Rs N w x := fun r x h1 hx => by
          rcases hto r x hx with hx | ⟨rfl, rfl⟩
          · exact b r x h1 hx
          · exact hend w a
        rcases List.mem_append.1 a with a | a
        · exact Or.inr (Or.inr ⟨a, hall⟩)
        · simp at a
          subst a
          have hq := (List.getElem?_eq_some_iff.1 hu2).1
          exact Or.inr (Or.inl ⟨out.length, by omega, by simp, fun r x h1 h2 hx => hall r x h1 hx⟩)
    · obtain ⟨t, ht⟩ := mem_at hw
      have htl := (List.getElem?_eq_some_iff.1 ht).1
      have hmw := h.done u (by simp) t w (by omega) ht
      have hall : w ∈ p ++ [u] → ∀ (r x : Nat), out.length ≤ r → (out ++ [u])[r]? = some x → Rs N w x := fun hwp r x h1 hx => by
        rcases hto r x hx with hx | ⟨rfl, rfl⟩
        · have := (List.getElem?_eq_some_iff.1 hx).1
          omega
        · exact hend w hwp
      rcases List.mem_append.1 hmw with a | a
      · obtain ⟨q', hq'⟩ := mem_at a
        exact Or.inl ⟨q', (List.getElem?_eq_some_iff.1 hq').1, hfrom _ _ hq'⟩
      · rcases List.mem_append.1 a with b | b
        · exact Or.inr (Or.inr ⟨b, hall a⟩)
        · simp at b
          subst b
          exact Or.inr (Or.inl ⟨out.length, Nat.le_refl _, by simp, fun r x h1 h2 hx => hall a r x h1 hx⟩)

/-- What a walk left in the end. -/
structure Left (n : Nat) (N : Nat → List Nat) (out : List Nat) : Prop where
  nd : out.Nodup
  lt : ∀ k ∈ out, k < n
  all : ∀ k, k < n → k ∈ out
  leaves : Leaves n N out
theorem Walk.left (h : Walk n N n out [] gone met) : Left n N out :=
  ⟨by simpa using h.nd, fun k hk => h.lt k (by simpa using hk), fun k hk => by simpa using h.ahead k hk, fun p u hu w hw => by
    rcases h.leaves p u hu w hw with a | a | ⟨a, b⟩
    · exact Or.inl a
    · exact Or.inr a
    · simp at a⟩

/-- How much is to be gone yet. -/
def togo (N : Nat → List Nat) (gone : List Nat) : Nat → Nat
  | 0 => 0
  | k + 1 => togo N gone k + ((N k).length - gone.getD k 0)
theorem togo_set {N : Nat → List Nat} {gone : List Nat} {a : Nat} (ha : a < gone.length) (hg : gone.getD a 0 < (N a).length) : ∀ n, (n ≤ a → togo N (gone.set a (gone.getD a 0 + 1)) n = togo N gone n) ∧ (a < n → togo N (gone.set a (gone.getD a 0 + 1)) n + 1 = togo N gone n)
  | 0 => ⟨fun _ => rfl, fun h => by omega⟩
  | n + 1 => by
    have ih := togo_set ha hg n
    unfold togo
    rw [set_at ha]
    refine ⟨fun h => ?_, fun h => ?_⟩
    · rw [ih.1 (by omega), if_neg (by omega)]
    · by_cases e : n = a
      · subst e
        rw [ih.1 (Nat.le_refl _), if_pos rfl]
        omega
      · rw [if_neg e]
        have := ih.2 (by omega)
        omega
end

/-- A way along the needs, all of it among those of the list. -/
inductive Via (N : Nat → List Nat) (S : Nat → Prop) : Nat → Nat → Prop
  | refl {a : Nat} : S a → Via N S a a
  | step {a b c : Nat} : S a → b ∈ N a → Via N S b c → Via N S a c

theorem Via.rs {N : Nat → List Nat} {S : Nat → Prop} {a b : Nat} (h : Via N S a b) : Rs N a b := by
  induction h with
  | refl => exact .refl _
  | step _ h1 _ ih => exact .step h1 ih
theorem Via.mono {N : Nat → List Nat} {S T : Nat → Prop} (hs : ∀ k, S k → T k) {a b : Nat} (h : Via N S a b) : Via N T a b := by
  induction h with
  | refl h => exact .refl (hs _ h)
  | step h1 h2 _ ih => exact .step (hs _ h1) h2 ih

theorem idx_inj {l : List Nat} (h : l.Nodup) {a b x : Nat} (ha : l[a]? = some x) (hb : l[b]? = some x) : a = b := by
  obtain ⟨la, ea⟩ := List.getElem?_eq_some_iff.1 ha
  obtain ⟨lb, eb⟩ := List.getElem?_eq_some_iff.1 hb
  have hp := List.pairwise_iff_getElem.1 h
  rcases Nat.lt_trichotomy a b with c | c | c
  · exact absurd (ea.trans eb.symm) (hp a b la lb c)
  · exact c
  · exact absurd (eb.trans ea.symm) (hp b a lb la c)

/-- The heart: of a way to i, all of it left no later than i, i leads to all. -/
theorem back {n : Nat} {N : Nat → List Nat} {out : List Nat} (h : Left n N out) {i : Nat} {pi : Nat} (hi : out[pi]? = some i) {a : Nat} (hv : Via N (fun k => ∃ p : Nat, p ≤ pi ∧ out[p]? = some k) a i) :
    Rs N i a ∧ ∀ (pa : Nat), out[pa]? = some a → ∀ (v pv : Nat), out[pv]? = some v → pa ≤ pv → pv ≤ pi → ∃ b pb : Nat, pv ≤ pb ∧ out[pb]? = some b ∧ Rs N i b ∧ Rs N b v := by
  induction hv with
  | refl hs =>
    refine ⟨.refl _, fun pa hpa v pv hv h1 h2 => ?_⟩
    have : pa = pi := idx_inj h.nd hpa hi
    subst this
    have : pv = pa := by omega
    subst this
    rw [hpa] at hv
    cases hv
    exact ⟨_, pv, Nat.le_refl _, hpa, .refl _, .refl _⟩
  | @step a b c hs hb hv ih =>
    obtain ⟨ih1, ih2⟩ := ih hi
    obtain ⟨pa, hpa, hao⟩ := hs
    have key : ∀ (pa : Nat), out[pa]? = some a → pa ≤ pi → ∀ (v pv : Nat), out[pv]? = some v → pa ≤ pv → pv ≤ pi → ∃ b pb : Nat, pv ≤ pb ∧ out[pb]? = some b ∧ Rs N c b ∧ Rs N b v := by
      intro pa hao hpa v pv hv' h1 h2
      rcases h.leaves pa a hao b hb with ⟨q, hq, hqb⟩ | ⟨q, hq, hqb, hall⟩
      · exact ih2 q hqb v pv hv' (by omega) h2
      · by_cases hqv : pv ≤ q
        · exact ⟨b, q, hqv, hqb, ih1, hall pv v h1 hqv hv'⟩
        · exact ih2 q hqb v pv hv' (by omega) h2
    refine ⟨?_, fun pa' hpa' v pv hv' h1 h2 => ?_⟩
    · obtain ⟨b', pb, _, _, h3, h4⟩ := key pa hao hpa a pa hao (Nat.le_refl _) hpa
      exact h3.trans h4
    · exact key pa' hpa' (by omega) v pv hv' h1 h2

/-- Nothing needs itself: then of any that lack something among them there are none. -/
theorem no_ring {n : Nat} {N : Nat → List Nat} (hN : ∀ k, k < n → ∀ m ∈ N k, m < n) (hr : ∀ k, k < n → ¬ Rch N k k) (S : Nat → Prop) (hS : ∀ k, k < n → S k → ∃ m ∈ N k, S m) : ∀ k, k < n → ¬ S k := by
  have : ∀ (c k : Nat), ((List.range n).filter fun m => @decide (Rch N k m) (Classical.propDecidable _)).length ≤ c → k < n → ¬ S k := by
    intro c
    induction c with
    | zero =>
      intro k hc hk hs
      obtain ⟨m, hm, _⟩ := hS k hk hs
      have : m ∈ (List.range n).filter fun m => @decide (Rch N k m) (Classical.propDecidable _) := by
        rw [List.mem_filter]
        exact ⟨List.mem_range.2 (hN k hk m hm), by simpa using ⟨m, hm, .refl _⟩⟩
      have := List.length_pos_of_mem this
      omega
    | succ c ih =>
      intro k hc hk hs
      obtain ⟨m, hm, hms⟩ := hS k hk hs
      have hmn := hN k hk m hm
      refine ih m ?_ hmn hms
      have hnd : ((List.range n).filter fun x => @decide (Rch N m x) (Classical.propDecidable _)).Nodup := List.Pairwise.filter _ List.nodup_range
      have hin : m ∈ (List.range n).filter fun x => @decide (Rch N k x) (Classical.propDecidable _) := by
        rw [List.mem_filter]
        exact ⟨List.mem_range.2 hmn, by simpa using ⟨m, hm, .refl _⟩⟩
      have hle := nodup_len (m :: (List.range n).filter fun x => @decide (Rch N m x) (Classical.propDecidable _)) ((List.range n).filter fun x => @decide (Rch N k x) (Classical.propDecidable _)) ?_ ?_
      · simp at hle
        omega
      · rw [List.nodup_cons]
        refine ⟨fun q => ?_, hnd⟩
        rw [List.mem_filter] at q
        exact hr m hmn (by simpa using q.2)
      · intro x hx
        rcases List.mem_cons.1 hx with rfl | hx
        · exact hin
        · rw [List.mem_filter] at hx ⊢
          refine ⟨hx.1, ?_⟩
          have : Rch N m x := by simpa using hx.2
          simpa using ⟨m, hm, this.rs⟩
  intro k hk
  exact this _ k (Nat.le_refl _) hk
end Go.Proofs.Ytilcongilokppad
