/- Plain mathematics: the least one that may, again and again. -/
import Derived.Test.YtilcongilokppadGa
namespace Go.Proofs.Ytilcongilokppad
set_option linter.unusedVariables false
set_option linter.unusedSimpArgs false

/-- Who needs whom, and who is needed by whom, of n. -/
structure Web (n : Nat) (N U : Nat → List Nat) : Prop where
  needs : ∀ k, k < n → ∀ m ∈ N k, m < n
  users : ∀ k, k < n → ∀ m ∈ U k, m < n
  both : ∀ i k, i < n → k < n → (U i).count k = (N k).count i

theorem Web.user {n : Nat} {N U : Nat → List Nat} (h : Web n N U) {i k : Nat} (hi : i < n) (hk : k < n) : k ∈ U i ↔ i ∈ N k := by
  rw [← List.count_pos_iff, ← List.count_pos_iff, h.both i k hi hk]

/-- How much of what k needs does not stand there yet. -/
def lacks (N : Nat → List Nat) (out : List Nat) (k : Nat) : Nat := (N k).countP fun m => decide (m ∉ out)

theorem lacks_nil (N : Nat → List Nat) (k : Nat) : lacks N [] k = (N k).length := by
  unfold lacks
  rw [List.countP_eq_length]
  simp
theorem lacks_zero {N : Nat → List Nat} {out : List Nat} {k : Nat} : lacks N out k = 0 ↔ ∀ m ∈ N k, m ∈ out := by
  unfold lacks
  rw [List.countP_eq_zero]
  simp
theorem countP_more (out : List Nat) (x : Nat) (hx : x ∉ out) : ∀ l : List Nat, l.countP (fun m => decide (m ∉ out)) = l.countP (fun m => decide (m ∉ out ++ [x])) + l.count x
  | [] => rfl
  | a :: l => by
    rw [List.countP_cons, List.countP_cons, List.count_cons, countP_more out x hx l]
    by_cases e : a = x
    · subst e
      simp [hx]
      omega
    · have : ¬ (a == x) = true := by simpa using e
      by_cases h : a ∈ out <;> simp [h, e]
      omega
theorem lacks_more (N : Nat → List Nat) {out : List Nat} {x : Nat} (hx : x ∉ out) (k : Nat) : lacks N out k = lacks N (out ++ [x]) k + (N k).count x := countP_more out x hx _

/-- At each place stands the least one of those, not ahead, whose needs are all ahead. -/
def Greedy (n : Nat) (N : Nat → List Nat) (out : List Nat) : Prop :=
  ∀ t x, out[t]? = some x → (∀ m ∈ N x, m ∈ out.take t) ∧ x ∉ out.take t ∧ x < n ∧ ∀ y, y < n → y ∉ out.take t → (∀ m ∈ N y, m ∈ out.take t) → x ≤ y

theorem Greedy.nodup {n : Nat} {N : Nat → List Nat} {out : List Nat} (h : Greedy n N out) : out.Nodup := by
  refine List.pairwise_iff_getElem.2 fun i j hi hj hij e => ?_
  refine (h j _ (List.getElem?_eq_getElem hj)).2.1 ?_
  rw [List.mem_iff_getElem?]
  exact ⟨i, by rw [List.getElem?_take, if_pos hij, List.getElem?_eq_getElem hi, e]⟩
theorem Greedy.lt {n : Nat} {N : Nat → List Nat} {out : List Nat} (h : Greedy n N out) : ∀ x ∈ out, x < n := by
  intro x hx
  obtain ⟨t, ht⟩ := List.mem_iff_getElem?.1 hx
  exact (h t x ht).2.2.1
theorem Greedy.closed {n : Nat} {N : Nat → List Nat} {out : List Nat} (h : Greedy n N out) : ∀ x ∈ out, ∀ m ∈ N x, m ∈ out := by
  intro x hx m hm
  obtain ⟨t, ht⟩ := List.mem_iff_getElem?.1 hx
  exact List.mem_of_mem_take ((h t x ht).1 m hm)
theorem Greedy.snoc {n : Nat} {N : Nat → List Nat} {out : List Nat} {x : Nat} (h : Greedy n N out) (hx : x < n) (hn : x ∉ out) (hm : ∀ m ∈ N x, m ∈ out)
    (hl : ∀ y, y < n → y ∉ out → (∀ m ∈ N y, m ∈ out) → x ≤ y) : Greedy n N (out ++ [x]) := by
  intro t y hy
  by_cases ht : t < out.length
  · rw [List.getElem?_append_left ht] at hy
    rw [List.take_append_of_le_length (by omega)]
    exact h t y hy
  · have ht' : t = out.length := by
      have := (List.getElem?_eq_some_iff.1 hy).1
      simp at this
      omega
    subst ht'
    simp at hy
    subst hy
    rw [List.take_left]
    exact ⟨hm, hn, hx, hl⟩

/-- While what is open is reckoned: i were looked at. -/
structure Fill (n : Nat) (N : Nat → List Nat) (i : Nat) (h op : List Nat) : Prop where
  len : op.length = n
  hp : Heap h h.length
  hn : h.Nodup
  mem : ∀ k, k ∈ h ↔ k < i ∧ N k = []
  cnt : ∀ k, k < i → op.getD k 0 = (N k).length

/-- Between two takings. -/
structure Kahn (n : Nat) (N : Nat → List Nat) (out h op : List Nat) : Prop where
  len : op.length = n
  hp : Heap h h.length
  hn : h.Nodup
  cnt : ∀ k, k < n → op.getD k 0 = lacks N out k
  mem : ∀ k, k ∈ h ↔ k < n ∧ k ∉ out ∧ lacks N out k = 0
  gr : Greedy n N out

/-- x was taken, and of its users j were told. -/
structure Told (n : Nat) (N U : Nat → List Nat) (out : List Nat) (x j : Nat) (h op : List Nat) : Prop where
  len : op.length = n
  hp : Heap h h.length
  hn : h.Nodup
  xn : x < n
  xo : x ∉ out
  cnt : ∀ k, k < n → op.getD k 0 + ((U x).take j).count k = lacks N (out ++ [x]) k + (N k).count x
  mem : ∀ k, k ∈ h ↔ k < n ∧ k ∉ out ++ [x] ∧ op.getD k 0 = 0
  gr : Greedy n N (out ++ [x])

theorem set_at {l : List Nat} {i : Nat} (hi : i < l.length) (v k : Nat) : (l.set i v).getD k 0 = if k = i then v else l.getD k 0 := by
  by_cases h : k = i
  · subst h
    simp [List.getD, hi]
  · rw [if_neg h, List.getD_eq_getElem?_getD, List.getElem?_set_ne (fun e => h e.symm), ← List.getD_eq_getElem?_getD]

theorem Fill.start (n : Nat) (N : Nat → List Nat) : Fill n N 0 [] (List.replicate n 0) :=
  ⟨by simp, fun k h0 hk => by simp at hk, List.nodup_nil, fun k => by simp, fun k hk => by omega⟩
theorem Fill.no {n : Nat} {N : Nat → List Nat} {i : Nat} {h op : List Nat} (f : Fill n N i h op) (hi : i < n) (hN : N i ≠ []) : Fill n N (i + 1) h (op.set i (N i).length) := by
  have hl := f.len
  refine ⟨by simpa using hl, f.hp, f.hn, fun k => ?_, fun k hk => ?_⟩
  · rw [f.mem]
    constructor
    · intro ⟨a, b⟩
      exact ⟨by omega, b⟩
    · intro ⟨a, b⟩
      refine ⟨?_, b⟩
      by_cases e : k = i
      · subst e
        exact absurd b hN
      · omega
  · rw [set_at (by omega)]
    by_cases e : k = i
    · subst e
      rw [if_pos rfl]
    · rw [if_neg e]
      exact f.cnt k (by omega)
theorem Fill.yes {n : Nat} {N : Nat → List Nat} {i : Nat} {h op h' : List Nat} (f : Fill n N i h op) (hi : i < n) (hN : N i = []) (hp : Heap h' h'.length) (hh : h'.Perm (h ++ [i])) : Fill n N (i + 1) h' (op.set i (N i).length) := by
  have hl := f.len
  have hni : i ∉ h := fun c => by
    have := ((f.mem i).1 c).1
    omega
  refine ⟨by simpa using hl, hp, ?_, fun k => ?_, fun k hk => ?_⟩
  · rw [hh.nodup_iff, List.nodup_append]
    refine ⟨f.hn, by simp, ?_⟩
    intro a ha b hb e
    simp at hb
    subst hb e
    exact hni ha
  · rw [hh.mem_iff, List.mem_append, f.mem]
    simp
    constructor
    · rintro (⟨a, b⟩ | rfl)
      · exact ⟨by omega, b⟩
      · exact ⟨by omega, hN⟩
    · rintro ⟨a, b⟩
      by_cases e : k = i
      · exact Or.inr e
      · exact Or.inl ⟨by omega, b⟩
  · rw [set_at (by omega)]
    by_cases e : k = i
    · subst e
      rw [if_pos rfl]
    · rw [if_neg e]
      exact f.cnt k (by omega)
theorem Fill.done {n : Nat} {N : Nat → List Nat} {h op : List Nat} (f : Fill n N n h op) : Kahn n N [] h op := by
  refine ⟨f.len, f.hp, f.hn, fun k hk => ?_, fun k => ?_, fun t x hx => by simp at hx⟩
  · rw [lacks_nil]
    exact f.cnt k hk
  · rw [f.mem, lacks_nil]
    simp

theorem Kahn.take {n : Nat} {N U : Nat → List Nat} {out h op : List Nat} (f : Kahn n N out h op) {x : Nat} {h' : List Nat} (hx : ∀ y ∈ h, x ≤ y) (hh : h.Perm (x :: h')) (hp : Heap h' h'.length) : Told n N U out x 0 h' op := by
  have hxh : x ∈ h := hh.mem_iff.2 (by simp)
  obtain ⟨hxn, hxo, hxl⟩ := (f.mem x).1 hxh
  have hnd := hh.nodup_iff.1 f.hn
  rw [List.nodup_cons] at hnd
  refine ⟨f.len, hp, hnd.2, hxn, hxo, fun k hk => ?_, fun k => ?_, f.gr.snoc hxn hxo (lacks_zero.1 hxl) fun y hy hyo hym => hx y ((f.mem y).2 ⟨hy, hyo, lacks_zero.2 hym⟩)⟩
  · rw [f.cnt k hk, lacks_more N hxo k]
    simp
  · have hm := f.mem k
    rw [hh.mem_iff] at hm
    simp only [List.mem_cons] at hm
    constructor
    · intro hk
      obtain ⟨a, b, c⟩ := hm.1 (Or.inr hk)
      refine ⟨a, ?_, ?_⟩
      · simp only [List.mem_append, List.mem_singleton]
        rintro (q | rfl)
        · exact b q
        · exact hnd.1 hk
      · rw [f.cnt k a]
        exact c
    · rintro ⟨a, b, c⟩
      simp only [List.mem_append, List.mem_singleton, not_or] at b
      rw [f.cnt k a] at c
      rcases hm.2 ⟨a, b.1, c⟩ with rfl | q
      · exact absurd rfl b.2
      · exact q

theorem count_take_lt {l : List Nat} {j k : Nat} (h : l[j]? = some k) : (l.take j).count k + 1 ≤ l.count k := by
  have h1 : l.take (j + 1) = l.take j ++ [k] := by rw [List.take_add_one, h]; rfl
  have h2 : (l.take (j + 1)).count k ≤ l.count k := (List.take_sublist _ _).count_le _
  rw [h1, List.count_append] at h2
  simp at h2
  omega

section
variable {n : Nat} {N U : Nat → List Nat} {out h op : List Nat} {x j k : Nat}

theorem Told.pos (f : Told n N U out x j h op) (w : Web n N U) (hk : (U x)[j]? = some k) : k < n ∧ 0 < op.getD k 0 ∧ k ∉ h ∧ k ∉ out ++ [x] := by
  have hkn := w.users x f.xn k (List.mem_of_getElem? hk)
  have h1 := count_take_lt hk
  rw [w.both x k f.xn hkn] at h1
  have h2 := f.cnt k hkn
  have h3 : 0 < op.getD k 0 := by omega
  have hxN : x ∈ N k := List.count_pos_iff.1 (by omega)
  refine ⟨hkn, h3, fun c => ?_, fun c => ?_⟩
  · have := ((f.mem k).1 c).2.2
    omega
  · obtain ⟨t, ht⟩ := List.mem_iff_getElem?.1 c
    have h4 := (f.gr t k ht).1 x hxN
    have hlt : t < (out ++ [x]).length := (List.getElem?_eq_some_iff.1 ht).1
    simp at hlt
    rw [List.take_append_of_le_length (by omega)] at h4
    exact f.xo (List.mem_of_mem_take h4)

theorem take_count (hk : (U x)[j]? = some k) (m : Nat) : ((U x).take (j + 1)).count m = ((U x).take j).count m + if m = k then 1 else 0 := by
  rw [List.take_add_one, hk, List.count_append]
  by_cases e : m = k
  · subst e
    simp
  · have : ¬ k = m := fun q => e q.symm
    simp [e, this]

theorem Told.no (f : Told n N U out x j h op) (w : Web n N U) (hk : (U x)[j]? = some k) (h1 : op.getD k 0 ≠ 1) : Told n N U out x (j + 1) h (op.set k (op.getD k 0 - 1)) := by
  obtain ⟨hkn, hpos, hkh, hko⟩ := f.pos w hk
  have hl := f.len
  refine ⟨by simpa using hl, f.hp, f.hn, f.xn, f.xo, fun m hm => ?_, fun m => ?_, f.gr⟩
  · have := f.cnt m hm
    rw [set_at (by omega), take_count hk]
    by_cases e : m = k
    · subst e
      rw [if_pos rfl, if_pos rfl]
      omega
    · rw [if_neg e, if_neg e]
      omega
  · rw [f.mem, set_at (by omega)]
    by_cases e : m = k
    · subst e
      rw [if_pos rfl]
      constructor
      · intro ⟨a, b, c⟩
        omega
      · intro ⟨a, b, c⟩
        omega
    · rw [if_neg e]
theorem Told.yes (f : Told n N U out x j h op) (w : Web n N U) (hk : (U x)[j]? = some k) (h1 : op.getD k 0 = 1) {h' : List Nat} (hp : Heap h' h'.length) (hh : h'.Perm (h ++ [k])) : Told n N U out x (j + 1) h' (op.set k (op.getD k 0 - 1)) := by
  obtain ⟨hkn, hpos, hkh, hko⟩ := f.pos w hk
  have hl := f.len
  refine ⟨by simpa using hl, hp, ?_, f.xn, f.xo, fun m hm => ?_, fun m => ?_, f.gr⟩
  · rw [hh.nodup_iff, List.nodup_append]
    refine ⟨f.hn, by simp, ?_⟩
    intro a ha b hb e
    simp at hb
    subst hb e
    exact hkh ha
  · have := f.cnt m hm
    rw [set_at (by omega), take_count hk]
    by_cases e : m = k
    · subst e
      rw [if_pos rfl, if_pos rfl]
      omega
    · rw [if_neg e, if_neg e]
      omega
  · rw [hh.mem_iff, List.mem_append, List.mem_singleton, f.mem, set_at (by omega)]
    by_cases e : m = k
    · subst e
      rw [if_pos rfl]
      constructor
      · intro _
        exact ⟨hkn, hko, by omega⟩
      · intro _
        exact Or.inr rfl
    · rw [if_neg e]
      constructor
      · rintro (q | q)
        · exact q
        · exact absurd q e
      · intro q
        exact Or.inl q
theorem Told.done (f : Told n N U out x (U x).length h op) (w : Web n N U) : Kahn n N (out ++ [x]) h op := by
  have hc : ∀ k, k < n → op.getD k 0 = lacks N (out ++ [x]) k := fun k hk => by
    have := f.cnt k hk
    rw [List.take_length, w.both x k f.xn hk] at this
    omega
  refine ⟨f.len, f.hp, f.hn, hc, fun k => ?_, f.gr⟩
  rw [f.mem]
  constructor
  · rintro ⟨a, b, c⟩
    rw [hc k a] at c
    exact ⟨a, b, c⟩
  · rintro ⟨a, b, c⟩
    rw [← hc k a] at c
    exact ⟨a, b, c⟩
end

/-- Where none may be taken: who does not stand there lacks one that does not. -/
theorem Kahn.stuck {n : Nat} {N : Nat → List Nat} {out op : List Nat} (f : Kahn n N out [] op) : ∀ k, k < n → k ∉ out → ∃ m ∈ N k, m ∉ out := by
  intro k hk hko
  refine Classical.byContradiction fun c => ?_
  have : ∀ m ∈ N k, m ∈ out := fun m hm => Classical.byContradiction fun q => c ⟨m, hm, q⟩
  have := (f.mem k).2 ⟨hk, hko, lacks_zero.2 this⟩
  simp at this
theorem nodup_len : ∀ (a b : List Nat), a.Nodup → (∀ x ∈ a, x ∈ b) → a.length ≤ b.length
  | [], b, _, _ => Nat.zero_le _
  | x :: a, b, hn, hs => by
    rw [List.nodup_cons] at hn
    have hxb := hs x (by simp)
    have := nodup_len a (b.erase x) hn.2 fun y hy => (List.mem_erase_of_ne (fun e : y = x => hn.1 (e ▸ hy))).2 (hs y (by simp [hy]))
    rw [List.length_erase_of_mem hxb] at this
    have := List.length_pos_of_mem hxb
    simp
    omega
theorem Greedy.len_le {n : Nat} {N : Nat → List Nat} {out : List Nat} (h : Greedy n N out) : out.length ≤ n := by
  have : out.length ≤ (List.range n).length := nodup_len _ _ h.nodup fun x hx => List.mem_range.2 (h.lt x hx)
  simpa using this
end Go.Proofs.Ytilcongilokppad
