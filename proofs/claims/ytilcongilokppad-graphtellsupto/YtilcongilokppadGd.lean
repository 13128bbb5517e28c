/- Plain mathematics: what is gathered back along the users. -/
import Derived.Test.YtilcongilokppadGc
namespace Go.Proofs.Ytilcongilokppad
set_option linter.unusedVariables false
set_option linter.unusedSimpArgs false

/-- While those are gathered that lead to one: of the first j all users were looked at, of the next one t. -/
structure Gat (n : Nat) (N U : Nat → List Nat) (met0 : Nat → Bool) (fr : Nat) (out : List Nat) (j t : Nat) (met : Nat → Bool) : Prop where
  nd : out.Nodup
  lt : ∀ k ∈ out, k < n
  mem : ∀ k, k < n → (met k = true ↔ met0 k = true ∨ k ∈ out)
  new : ∀ k ∈ out, met0 k = false
  via : ∀ k ∈ out, Via N (fun x => x ∈ out) k fr
  closed : ∀ (p a : Nat), p < j → out[p]? = some a → ∀ k ∈ U a, met k = true
  part : ∀ a : Nat, out[j]? = some a → ∀ (s k : Nat), s < t → (U a)[s]? = some k → met k = true
  first : out = [] ∨ fr ∈ out

section
variable {n : Nat} {N U : Nat → List Nat} {met0 met : Nat → Bool} {fr j t : Nat} {out : List Nat}

theorem Gat.old (h : met0 fr = true) : Gat n N U met0 fr [] 0 0 met0 :=
  ⟨by simp, by simp, by simp, by simp, by simp, by simp, by simp, Or.inl rfl⟩
theorem Gat.new' (hf : fr < n) (h : met0 fr = false) : Gat n N U met0 fr [fr] 0 0 (fun x => if x = fr then true else met0 x) := by
  refine ⟨by simp, by simpa using hf, fun k hk => ?_, by simpa using h, fun k hk => ?_, fun p a hp => by omega, fun a ha s k hs => by omega, Or.inr (by simp)⟩
  · by_cases e : k = fr
    · simp [e]
    · simp [e]
  · simp at hk
    subst hk
    exact .refl (by simp)

theorem Gat.met_lt (h : Gat n N U met0 fr out j t met) (w : Web n N U) {a k : Nat} (ha : out[j]? = some a) (hk : (U a)[t]? = some k) : k < n := w.users a (h.lt a (List.mem_of_getElem? ha)) k (List.mem_of_getElem? hk)

theorem Gat.known (h : Gat n N U met0 fr out j t met) {a k : Nat} (ha : out[j]? = some a) (hk : (U a)[t]? = some k) (hm : met k = true) : Gat n N U met0 fr out j (t + 1) met := by
  refine { h with part := fun a' ha' s x hs hx => ?_ }
  rw [ha] at ha'
  cases ha'
  by_cases e : s = t
  · subst e
    rw [hk] at hx
    cases hx
    exact hm
  · exact h.part a ha s x (by omega) hx

theorem Gat.enter (h : Gat n N U met0 fr out j t met) (w : Web n N U) {a k : Nat} (ha : out[j]? = some a) (hk : (U a)[t]? = some k) (hm : met k = false) : Gat n N U met0 fr (out ++ [k]) j (t + 1) (fun x => if x = k then true else met x) := by
  have hkn := h.met_lt w ha hk
  have hao : a ∈ out := List.mem_of_getElem? ha
  have han := h.lt a hao
  have haN : a ∈ N k := (w.user han hkn).1 (List.mem_of_getElem? hk)
  have hne : met0 k = false ∧ k ∉ out := by
    have := h.mem k hkn
    constructor
    · cases e : met0 k with
      | false => rfl
      | true =>
        rw [this.2 (Or.inl e)] at hm
        cases hm
    · intro c
      rw [this.2 (Or.inr c)] at hm
      cases hm
  have hmet : ∀ x, met x = true → (if x = k then true else met x) = true := fun x hx => by simp [hx]
  have hj := (List.getElem?_eq_some_iff.1 ha).1
  refine ⟨?_, fun x hx => ?_, fun x hx => ?_, fun x hx => ?_, fun x hx => ?_, fun p b hp hb x hx => ?_, fun b hb s x hs hx => ?_, ?_⟩
  · rw [List.nodup_append]
    refine ⟨h.nd, by simp, ?_⟩
    intro x hx y hy e
    simp at hy
    subst hy e
    exact hne.2 hx
  · rcases List.mem_append.1 hx with q | q
    · exact h.lt x q
    · simp at q
      subst q
      exact hkn
  · by_cases e : x = k
    · simp [e]
    · have := h.mem x hx
      simp [e, this]
  · rcases List.mem_append.1 hx with q | q
    · exact h.new x q
    · simp at q
      subst q
      exact hne.1
  · have hs : ∀ y, y ∈ out → y ∈ out ++ [k] := fun y hy => List.mem_append_left _ hy
    rcases List.mem_append.1 hx with q | q
    · exact (h.via x q).mono hs
    · simp at q
      subst q
      exact .step (by simp) haN ((h.via a hao).mono hs)
  · rw [List.getElem?_append_left (by omega)] at hb
    exact hmet x (h.closed p b hp hb x hx)
  · rw [List.getElem?_append_left hj] at hb
    rw [ha] at hb
    cases hb
    by_cases e : s = t
    · subst e
      rw [hk] at hx
      cases hx
      simp
    · exact hmet x (h.part a ha s x (by omega) hx)
  · rcases h.first with q | q
    · subst q
      simp at ha
    · exact Or.inr (List.mem_append_left _ q)

theorem Gat.next (h : Gat n N U met0 fr out j t met) {a : Nat} (ha : out[j]? = some a) (ht : (U a).length ≤ t) : Gat n N U met0 fr out (j + 1) 0 met := by
  refine { h with closed := fun p b hp hb k hk => ?_, part := fun b hb s k hs => by omega }
  by_cases e : p = j
  · subst e
    rw [ha] at hb
    cases hb
    obtain ⟨s, hs⟩ := mem_at hk
    have := (List.getElem?_eq_some_iff.1 hs).1
    exact h.part a ha s k (by omega) hs
  · exact h.closed p b (by omega) hb k hk

/-- What was gathered. -/
structure Ring (n : Nat) (N U : Nat → List Nat) (met0 : Nat → Bool) (fr : Nat) (out : List Nat) (met : Nat → Bool) : Prop where
  nd : out.Nodup
  lt : ∀ k ∈ out, k < n
  mem : ∀ k, k < n → (met k = true ↔ met0 k = true ∨ k ∈ out)
  new : ∀ k ∈ out, met0 k = false
  via : ∀ k ∈ out, Via N (fun x => x ∈ out) k fr
  closed : ∀ a ∈ out, ∀ k ∈ U a, met k = true
  has : met fr = true

theorem Gat.ring (h : Gat n N U met0 fr out out.length 0 met) (hf : met fr = true) : Ring n N U met0 fr out met :=
  ⟨h.nd, h.lt, h.mem, h.new, h.via, fun a ha k hk => by
    obtain ⟨p, hp⟩ := mem_at ha
    exact h.closed p a (List.getElem?_eq_some_iff.1 hp).1 hp k hk, hf⟩
end

/-- Those that were left behind place q were gathered. -/
structure Lea (n : Nat) (N U : Nat → List Nat) (out : List Nat) (q : Nat) (met : Nat → Bool) (least : Nat) : Prop where
  le : least ≤ n
  ahead : ∀ p k : Nat, q ≤ p → out[p]? = some k → met k = true
  closed : ∀ a, a < n → met a = true → ∀ k ∈ U a, met k = true
  sound : least < n → Rch N least least
  full : ∀ k, k < n → met k = true → Rch N k k → least ≤ k

section
variable {n : Nat} {N U : Nat → List Nat} {met met' : Nat → Bool} {i q least : Nat} {out R : List Nat}

theorem Lea.start (out : List Nat) : Lea n N U out out.length (fun _ => false) n := by
  refine ⟨Nat.le_refl _, fun p k hp hk => ?_, fun a _ h => by simp at h, fun h => by omega, fun k _ h => by simp at h⟩
  have := (List.getElem?_eq_some_iff.1 hk).1
  omega

/-- By the users one comes back. -/
theorem closed_back (w : Web n N U) (hc : ∀ a, a < n → met a = true → ∀ k ∈ U a, met k = true) {a b : Nat} (h : Rs N a b) (ha : a < n) (hb : met b = true) : met a = true := by
  induction h with
  | refl => exact hb
  | @step a b c h1 h2 ih =>
    have hbn := w.needs a ha b h1
    exact hc b hbn (ih hbn hb) a ((w.user hbn ha).2 h1)

theorem Lea.keep (h : Lea n N U out (q + 1) met least) (r : Ring n N U met i R met') {k : Nat} (hk : k < n) (hm : met k = true) : met' k = true := (r.mem k hk).2 (Or.inl hm)
theorem Lea.mets (h : Lea n N U out (q + 1) met least) (l : Left n N out) (hi : out[q]? = some i) (r : Ring n N U met i R met') : ∀ (p k : Nat), q ≤ p → out[p]? = some k → met' k = true := by
  intro p k hp hk
  by_cases e : p = q
  · subst e
    rw [hi] at hk
    cases hk
    exact r.has
  · exact h.keep r (l.lt k (List.mem_of_getElem? hk)) (h.ahead p k (by omega) hk)
theorem Lea.close (h : Lea n N U out (q + 1) met least) (w : Web n N U) (r : Ring n N U met i R met') : ∀ a, a < n → met' a = true → ∀ k ∈ U a, met' k = true := by
  intro a ha hm k hk
  rcases (r.mem a ha).1 hm with c | c
  · exact h.keep r (w.users a ha k hk) (h.closed a ha c k hk)
  · exact r.closed a c k hk
/-- Each that is gathered is one with i. -/
theorem Lea.one (h : Lea n N U out (q + 1) met least) (l : Left n N out) (hi : out[q]? = some i) (r : Ring n N U met i R met') : ∀ k ∈ R, Rs N k i ∧ Rs N i k := by
  intro k hk
  have hv := r.via k hk
  refine ⟨hv.rs, (back l hi (hv.mono fun x hx => ?_)).1⟩
  obtain ⟨p, hp⟩ := mem_at (l.all x (r.lt x hx))
  refine ⟨p, ?_, hp⟩
  refine Classical.byContradiction fun c => ?_
  have := h.ahead p x (by omega) hp
  rw [r.new x hx] at this
  cases this
/-- Who is gathered and needs itself, is with another one, or needs itself outright. -/
theorem Lea.ringed (h : Lea n N U out (q + 1) met least) (w : Web n N U) (r : Ring n N U met i R met') {k : Nat} (hk : k ∈ R) (hr : Rch N k k) : 1 < R.length ∨ R.length = 1 ∧ k ∈ N k := by
  have hkn := r.lt k hk
  obtain ⟨p, hp, hpk⟩ := hr.last
  have hpn : p < n := hp.lt w.needs hkn
  have hpm : met' p = true := r.closed k hk p ((w.user hkn hpn).2 hpk)
  have hpR : p ∈ R := by
    rcases (r.mem p hpn).1 hpm with c | c
    · have := closed_back w h.closed hp hkn c
      rw [r.new k hk] at this
      cases this
    · exact c
  by_cases e : p = k
  · subst e
    have := List.length_pos_of_mem hk
    by_cases c : R.length = 1
    · exact Or.inr ⟨c, hpk⟩
    · exact Or.inl (by omega)
  · left
    have := nodup_len [p, k] R (by simp [e]) (by simp [hpR, hk])
    simp at this
    omega
theorem Lea.no (h : Lea n N U out (q + 1) met least) (w : Web n N U) (l : Left n N out) (hi : out[q]? = some i) (r : Ring n N U met i R met') (hb : ¬ (1 < R.length ∨ R.length = 1 ∧ i ∈ N i)) : Lea n N U out q met' least := by
  refine ⟨h.le, h.mets l hi r, h.close w r, h.sound, fun k hk hm hr => ?_⟩
  rcases (r.mem k hk).1 hm with c | c
  · exact h.full k hk c hr
  · exfalso
    rcases h.ringed w r c hr with d | ⟨d, e⟩
    · exact hb (Or.inl d)
    · have hki : k = i := by
        refine Classical.byContradiction fun hne => ?_
        have hiR : i ∈ R := by
          have : ∀ a b, Via N (fun x => x ∈ R) a b → b ∈ R := fun a b hv => by
            induction hv with
            | refl h => exact h
            | step _ _ _ ih => exact ih
          exact this _ _ (r.via k c)
        have := nodup_len [k, i] R (by simp [hne]) (by simp [hiR, c])
        simp at this
        omega
      subst hki
      exact hb (Or.inr ⟨d, e⟩)
theorem Lea.yes (h : Lea n N U out (q + 1) met least) (w : Web n N U) (l : Left n N out) (hi : out[q]? = some i) (r : Ring n N U met i R met') (hb : 1 < R.length ∨ R.length = 1 ∧ i ∈ N i) {m : Nat} (hm : m ∈ R) (hl : ∀ k ∈ R, m ≤ k) : Lea n N U out q met' (min least m) := by
  have hle := h.le
  have hmn := r.lt m hm
  refine ⟨by omega, h.mets l hi r, h.close w r, fun hlt => ?_, fun k hk hmk hr => ?_⟩
  · by_cases c : least ≤ m
    · rw [Nat.min_eq_left c] at hlt ⊢
      exact h.sound hlt
    · rw [Nat.min_eq_right (by omega)]
      obtain ⟨h1, h2⟩ := h.one l hi r m hm
      have hii : Rch N i i := by
        rcases hb with hb | ⟨_, hb⟩
        · have : ∃ k ∈ R, k ≠ i := by
            refine Classical.byContradiction fun q => ?_
            have hall : ∀ k ∈ R, k ∈ [i] := fun k hk => by
              simp
              exact Classical.byContradiction fun e => q ⟨k, hk, e⟩
            have := nodup_len R [i] r.nd hall
            simp at this
            omega
          obtain ⟨k, hkR, hne⟩ := this
          obtain ⟨a, b⟩ := h.one l hi r k hkR
          exact b.rch (Rch.of_ne a hne)
        · exact ⟨i, hb, .refl _⟩
      exact h1.rch (hii.more h2)
  · rcases (r.mem k hk).1 hmk with c | c
    · have := h.full k hk c hr
      omega
    · have := hl k c
      omega
theorem Lea.done (h : Lea n N U out 0 met least) (l : Left n N out) : least ≤ n ∧ (least < n → Rch N least least) ∧ ∀ k, k < n → Rch N k k → least ≤ k := by
  refine ⟨h.le, h.sound, fun k hk hr => ?_⟩
  obtain ⟨p, hp⟩ := mem_at (l.all k hk)
  exact h.full k hk (h.ahead p k (Nat.zero_le _) hp) hr
end
end Go.Proofs.Ytilcongilokppad
