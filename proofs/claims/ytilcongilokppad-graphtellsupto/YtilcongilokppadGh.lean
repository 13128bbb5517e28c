/- Plain mathematics: who needs whom, by names; a search that goes on from what it has seen. -/
import Derived.Test.YtilcongilokppadGg
namespace Go.Proofs.Ytilcongilokppad
set_option linter.unusedVariables false
set_option linter.unusedSimpArgs false

/-- What the first node that is called s needs. -/
def nee : List Nd → ByteArray → List ByteArray
  | [], _ => []
  | nd :: l, s => if nd.name = s then nd.needs else nee l s
theorem nee_none : ∀ {l : List Nd} {s : ByteArray}, (∀ nd ∈ l, nd.name ≠ s) → nee l s = []
  | [], _, _ => rfl
  | nd :: l, s, h => by
    unfold nee
    rw [if_neg (h nd (by simp))]
    exact nee_none fun m hm => h m (by simp [hm])
theorem nee_at : ∀ {l : List Nd}, (l.map Nd.name).Nodup → ∀ {nd : Nd}, nd ∈ l → nee l nd.name = nd.needs
  | x :: l, hn, nd, h => by
    unfold nee
    simp only [List.map_cons, List.nodup_cons] at hn
    rcases List.mem_cons.1 h with rfl | h
    · rw [if_pos rfl]
    · have hne : ¬ x.name = nd.name := fun e => hn.1 (by rw [e]; exact List.mem_map.2 ⟨nd, h, rfl⟩)
      rw [if_neg hne, nee_at hn.2 h]
theorem nee_of : ∀ {l : List Nd} {s m : ByteArray}, m ∈ nee l s → ∃ nd ∈ l, nd.name = s ∧ m ∈ nd.needs
  | [], s, m, h => by cases h
  | x :: l, s, m, h => by
    unfold nee at h
    split at h
    · rename_i e
      exact ⟨x, by simp, e, h⟩
    · obtain ⟨nd, h1, h2, h3⟩ := nee_of h
      exact ⟨nd, by simp [h1], h2, h3⟩

/-- By way of as many as there are. -/
inductive RsB (l : List Nd) : ByteArray → ByteArray → Prop
  | refl (a : ByteArray) : RsB l a a
  | step {a b c : ByteArray} : RsB l a b → c ∈ nee l b → RsB l a c
def RchB (l : List Nd) (a b : ByteArray) : Prop := ∃ m, RsB l a m ∧ b ∈ nee l m

/-- While it is searched: what was seen, what was gone through; of the last one so many. -/
structure Sea (l : List Nd) (fr to : ByteArray) (seen todo pr : List ByteArray) (x : ByteArray) (k : Nat) : Prop where
  all : fr :: seen = pr ++ [x] ++ todo
  shut : ∀ y ∈ pr, ∀ n ∈ nee l y, n ∈ seen ∧ n ≠ to
  part : ∀ n ∈ (nee l x).take k, n ∈ seen ∧ n ≠ to
  rch : ∀ y ∈ fr :: seen, RsB l fr y
  nd : seen.Nodup
  from_ : ∀ y ∈ seen, ∃ nd ∈ l, y ∈ nd.needs
/-- .. between two. -/
structure Seb (l : List Nd) (fr to : ByteArray) (seen todo pr : List ByteArray) : Prop where
  all : fr :: seen = pr ++ todo
  shut : ∀ y ∈ pr, ∀ n ∈ nee l y, n ∈ seen ∧ n ≠ to
  rch : ∀ y ∈ fr :: seen, RsB l fr y
  nd : seen.Nodup
  from_ : ∀ y ∈ seen, ∃ nd ∈ l, y ∈ nd.needs
section
variable {l : List Nd} {fr to x n : ByteArray} {seen todo pr : List ByteArray} {k : Nat}
theorem Seb.start (l : List Nd) (fr to : ByteArray) : Seb l fr to [] [fr] [] :=
  ⟨rfl, by simp, fun y hy => by simp at hy; subst hy; exact .refl _, by simp, by simp⟩
theorem Seb.pop (h : Seb l fr to seen (x :: todo) pr) : Sea l fr to seen todo pr x 0 :=
  ⟨by rw [h.all]; simp, h.shut, by simp, h.rch, h.nd, h.from_⟩
theorem Sea.back (h : Sea l fr to seen todo pr x k) (hk : (nee l x).length ≤ k) : Seb l fr to seen todo (pr ++ [x]) := by
  refine ⟨h.all, fun y hy => ?_, h.rch, h.nd, h.from_⟩
  rcases List.mem_append.1 hy with q | q
  · exact h.shut y q
  · simp at q
    subst q
    have := h.part
    rwa [List.take_of_length_le hk] at this
theorem Sea.x_in (h : Sea l fr to seen todo pr x k) : RsB l fr x := h.rch x (by rw [h.all]; simp)
theorem take_next {α : Type} {l : List α} {i : Nat} {x : α} (h : l[i]? = some x) : l.take (i + 1) = l.take i ++ [x] := by
  rw [List.take_add_one, h]
  rfl
theorem Sea.old (h : Sea l fr to seen todo pr x k) (hn : (nee l x)[k]? = some n) (hne : n ≠ to) (hin : n ∈ seen) : Sea l fr to seen todo pr x (k + 1) := by
  refine ⟨h.all, h.shut, fun m hm => ?_, h.rch, h.nd, h.from_⟩
  rw [take_next hn] at hm
  rcases List.mem_append.1 hm with q | q
  · exact h.part m q
  · simp at q
    subst q
    exact ⟨hin, hne⟩
theorem Sea.new (h : Sea l fr to seen todo pr x k) (hn : (nee l x)[k]? = some n) (hne : n ≠ to) (hin : n ∉ seen) : Sea l fr to (seen ++ [n]) (todo ++ [n]) pr x (k + 1) := by
  have hm := List.mem_of_getElem? hn
  refine ⟨by rw [← List.cons_append, h.all]; simp, fun y hy m hm => ⟨by simp [(h.shut y hy m hm).1], (h.shut y hy m hm).2⟩, fun m hm => ?_, fun y hy => ?_, ?_, fun y hy => ?_⟩
  · rw [take_next hn] at hm
    rcases List.mem_append.1 hm with q | q
    · exact ⟨by simp [(h.part m q).1], (h.part m q).2⟩
    · simp at q
      subst q
      exact ⟨by simp, hne⟩
  · rw [← List.cons_append] at hy
    rcases List.mem_append.1 hy with q | q
    · exact h.rch y q
    · simp at q
      subst q
      exact .step h.x_in hm
  · rw [List.nodup_append]
    refine ⟨h.nd, by simp, fun a ha b hb e => ?_⟩
    simp at hb
    subst hb e
    exact hin ha
  · rcases List.mem_append.1 hy with q | q
    · exact h.from_ y q
    · simp at q
      subst q
      obtain ⟨nd, h1, _, h3⟩ := nee_of hm
      exact ⟨nd, h1, h3⟩
theorem Sea.found (h : Sea l fr to seen todo pr x k) (hn : (nee l x)[k]? = some to) : RchB l fr to := ⟨x, h.x_in, List.mem_of_getElem? hn⟩
theorem Seb.lost (h : Seb l fr to seen [] pr) : ¬ RchB l fr to := by
  rintro ⟨m, hm, ht⟩
  have hall : fr :: seen = pr := by simpa using h.all
  have key : m ∈ pr := by
    clear ht
    induction hm with
    | refl => rw [← hall]; simp
    | step h1 h2 ih => rw [← hall]; simp [(h.shut _ ih _ h2).1]
  exact (h.shut m key to ht).2 rfl
theorem nodupB_len {α : Type} [DecidableEq α] : ∀ (a b : List α), a.Nodup → (∀ x ∈ a, x ∈ b) → a.length ≤ b.length
  | [], b, _, _ => by simp
  | x :: a, b, h, hs => by
    simp only [List.nodup_cons] at h
    have h1 := nodupB_len a (b.erase x) h.2 (fun y hy => (List.mem_erase_of_ne (fun e : y = x => h.1 (e ▸ hy))).2 (hs y (by simp [hy])))
    have h2 := List.length_erase_of_mem (hs x (by simp))
    have h3 : 0 < b.length := List.length_pos_of_mem (hs x (by simp))
    simp only [List.length_cons]
    omega
/-- How much all need. -/
def costB (l : List Nd) : Nat := (l.flatMap Nd.needs).length
theorem Seb.len (h : Seb l fr to seen todo pr) : seen.length ≤ costB l :=
  nodupB_len seen _ h.nd fun y hy => by
    obtain ⟨nd, h1, h2⟩ := h.from_ y hy
    exact List.mem_flatMap.2 ⟨nd, h1, h2⟩
theorem Sea.len (h : Sea l fr to seen todo pr x k) : seen.length ≤ costB l :=
  nodupB_len seen _ h.nd fun y hy => by
    obtain ⟨nd, h1, h2⟩ := h.from_ y hy
    exact List.mem_flatMap.2 ⟨nd, h1, h2⟩
end

/- By names, and by numbers. -/
section
variable {l : List Nd} {S : List ByteArray} {N : Nat → List Nat}
theorem at_rank (hr : Ranks l S) (hN : IsN l S N) {i : Nat} {a : ByteArray} (hi : S[i]? = some a) : ∃ nd ∈ l, nd.name = a ∧ nee l a = nd.needs ∧ N i = nd.needs.filterMap (plc S) := by
  have hm : a ∈ l.map Nd.name := hr.perm.mem_iff.1 (List.mem_of_getElem? hi)
  obtain ⟨nd, hn, rfl⟩ := List.mem_map.1 hm
  exact ⟨nd, hn, rfl, nee_at (hr.perm.nodup_iff.1 hr.nodup) hn, hN nd hn i (plc_at hr.nodup hi)⟩
theorem step_to (hr : Ranks l S) (hN : IsN l S N) {i j : Nat} {a : ByteArray} (hi : S[i]? = some a) (hj : j ∈ N i) : ∃ b, S[j]? = some b ∧ b ∈ nee l a := by
  obtain ⟨nd, hn, rfl, h2, h3⟩ := at_rank hr hN hi
  rw [h3] at hj
  obtain ⟨b, hb, hp⟩ := List.mem_filterMap.1 hj
  exact ⟨b, (plc_some hp).2, by rw [h2]; exact hb⟩
theorem step_back (hr : Ranks l S) (hno : ∀ nd ∈ l, ¬ Lacks S nd) (hN : IsN l S N) {i : Nat} {a b : ByteArray} (hi : S[i]? = some a) (hb : b ∈ nee l a) : ∃ j, S[j]? = some b ∧ j ∈ N i := by
  obtain ⟨nd, hn, rfl, h2, h3⟩ := at_rank hr hN hi
  rw [h2] at hb
  cases hp : plc S b with
  | none => exact absurd ⟨b, hb, hp⟩ (hno nd hn)
  | some j => exact ⟨j, (plc_some hp).2, by rw [h3]; exact List.mem_filterMap.2 ⟨b, hb, hp⟩⟩
theorem RsB.front {a b c : ByteArray} (h : b ∈ nee l a) (h' : RsB l b c) : RsB l a c := by
  induction h' with
  | refl => exact .step (.refl _) h
  | step h1 h2 ih => exact .step ih h2
theorem rs_to (hr : Ranks l S) (hN : IsN l S N) {i j : Nat} (h : Rs N i j) : ∀ {a : ByteArray}, S[i]? = some a → ∃ b, S[j]? = some b ∧ RsB l a b := by
  induction h with
  | refl => exact fun {a} ha => ⟨a, ha, .refl _⟩
  | step h1 h2 ih =>
    intro a ha
    obtain ⟨b, hb, hm⟩ := step_to hr hN ha h1
    obtain ⟨c, hc, hs⟩ := ih hb
    exact ⟨c, hc, .front hm hs⟩
theorem rs_back (hr : Ranks l S) (hno : ∀ nd ∈ l, ¬ Lacks S nd) (hN : IsN l S N) {a b : ByteArray} (h : RsB l a b) {i : Nat} (hi : S[i]? = some a) : ∃ j, S[j]? = some b ∧ Rs N i j := by
  induction h with
  | refl => exact ⟨i, hi, .refl _⟩
  | step h1 h2 ih =>
    obtain ⟨j, hj, hs⟩ := ih
    obtain ⟨k, hk, hm⟩ := step_back hr hno hN hj h2
    exact ⟨k, hk, hs.trans (.one hm)⟩
theorem rank_unique (hr : Ranks l S) {i j : Nat} {a : ByteArray} (hi : S[i]? = some a) (hj : S[j]? = some a) : i = j := by
  have := (plc_at hr.nodup hi).symm.trans (plc_at hr.nodup hj)
  simpa using this
theorem rch_iff (hr : Ranks l S) (hno : ∀ nd ∈ l, ¬ Lacks S nd) (hN : IsN l S N) {i : Nat} {a : ByteArray} (hi : S[i]? = some a) : Rch N i i ↔ RchB l a a := by
  constructor
  · intro h
    obtain ⟨p, h1, h2⟩ := h.last
    obtain ⟨b, hb, hs⟩ := rs_to hr hN h1 hi
    obtain ⟨c, hc, hm⟩ := step_to hr hN hb h2
    rw [hi] at hc
    cases hc
    exact ⟨b, hs, hm⟩
  · rintro ⟨m, hs, hm⟩
    obtain ⟨p, hp, h1⟩ := rs_back hr hno hN hs hi
    obtain ⟨j, hj, h2⟩ := step_back hr hno hN hp hm
    obtain rfl := rank_unique hr hi hj
    cases h1 with
    | refl => exact ⟨_, h2, .refl _⟩
    | step q1 q2 => exact ⟨_, q1, q2.trans (.one h2)⟩
end
/-- What Order tells of a ring. -/
theorem Tells.ring {l : List Nd} {out : List ByteArray} {who : ByteArray} (h : Tells l out who 9) : RchB l who who ∧ (∃ nd ∈ l, nd.name = who) ∧ ∀ nd ∈ l, ltB nd.name who = true → ¬ RchB l nd.name nd.name := by
  cases h with
  | cycle S N r who hr hno hN hlt hrr hle hS =>
    refine ⟨(rch_iff hr hno hN hS).1 hrr, ?_, fun nd hn hb hc => ?_⟩
    · obtain ⟨nd, hn, e⟩ := List.mem_map.1 (hr.perm.mem_iff.1 (List.mem_of_getElem? hS))
      exact ⟨nd, hn, e⟩
    · obtain ⟨i, hi, hil⟩ := hr.rank hn
      have hSi := (plc_some hi).2
      have h1 := hle i hil ((rch_iff hr hno hN hSi).2 hc)
      have h2 := asc_lt hr.asc hSi hS hb
      omega
end Go.Proofs.Ytilcongilokppad
