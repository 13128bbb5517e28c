/- Plain mathematics: no matter how it is told. -/
import Derived.Test.YtilcongilokppadGf
namespace Go.Proofs.Ytilcongilokppad
set_option linter.unusedVariables false
set_option linter.unusedSimpArgs false

/-- The same names, that need the same, in whatever order. -/
structure Alike (l m : List Nd) : Prop where
  names : (l.map Nd.name).Perm (m.map Nd.name)
  to : ∀ nd ∈ l, ∃ x ∈ m, x.name = nd.name ∧ ∀ s, s ∈ nd.needs ↔ s ∈ x.needs
  back : ∀ nd ∈ m, ∃ x ∈ l, x.name = nd.name ∧ ∀ s, s ∈ nd.needs ↔ s ∈ x.needs

theorem Alike.refl (l : List Nd) : Alike l l := ⟨List.Perm.refl _, fun nd h => ⟨nd, h, rfl, fun _ => Iff.rfl⟩, fun nd h => ⟨nd, h, rfl, fun _ => Iff.rfl⟩⟩
theorem Alike.len {l m : List Nd} (h : Alike l m) : l.length = m.length := by simpa using h.names.length_eq

def turned (l : List Nd) : List Nd := (l.map fun nd => ⟨nd.name, nd.needs.reverse⟩).reverse
theorem Alike.turn (l : List Nd) : Alike l (turned l) := by
  refine ⟨?_, fun nd h => ⟨⟨nd.name, nd.needs.reverse⟩, ?_, rfl, by simp⟩, fun nd h => ?_⟩
  · unfold turned
    rw [List.map_reverse, List.map_map]
    exact (List.reverse_perm _).symm
  · unfold turned
    rw [List.mem_reverse]
    exact List.mem_map.2 ⟨nd, h, rfl⟩
  · unfold turned at h
    rw [List.mem_reverse] at h
    obtain ⟨x, hx, rfl⟩ := List.mem_map.1 h
    exact ⟨x, hx, rfl, by simp⟩

theorem ranks_same {l m : List Nd} {S T : List ByteArray} (h : Alike l m) (a : Ranks l S) (b : Ranks m T) : S = T :=
  asc_unique _ a.asc b.asc (a.perm.trans (h.names.trans b.perm.symm))
theorem lacks_same {S : List ByteArray} {a b : Nd} (h : ∀ s, s ∈ a.needs ↔ s ∈ b.needs) : Lacks S a ↔ Lacks S b :=
  ⟨fun ⟨s, h1, h2⟩ => ⟨s, (h s).1 h1, h2⟩, fun ⟨s, h1, h2⟩ => ⟨s, (h s).2 h1, h2⟩⟩
theorem isN_same {l m : List Nd} {S : List ByteArray} {N M : Nat → List Nat} (h : Alike l m) (hr : Ranks l S) (a : IsN l S N) (b : IsN m S M) : ∀ i, i < l.length → ∀ k, k ∈ N i ↔ k ∈ M i := by
  intro i hi k
  obtain ⟨nd, hn, hp, _⟩ := hr.at hi
  obtain ⟨x, hx, he, hs⟩ := h.to nd hn
  rw [a nd hn i hp, b x hx i (he ▸ hp), List.mem_filterMap, List.mem_filterMap]
  exact ⟨fun ⟨s, h1, h2⟩ => ⟨s, (hs s).1 h1, h2⟩, fun ⟨s, h1, h2⟩ => ⟨s, (hs s).2 h1, h2⟩⟩
theorem isN_lt {l : List Nd} {S : List ByteArray} {N : Nat → List Nat} (hr : Ranks l S) (a : IsN l S N) : ∀ i, i < l.length → ∀ k ∈ N i, k < l.length := by
  intro i hi k hk
  obtain ⟨nd, hn, hp, _⟩ := hr.at hi
  rw [a nd hn i hp] at hk
  exact hr.len ▸ filterMap_lt k hk
theorem rs_same {n : Nat} {N M : Nat → List Nat} (hN : ∀ i, i < n → ∀ k ∈ N i, k < n) (h : ∀ i, i < n → ∀ k, k ∈ N i ↔ k ∈ M i) {a b : Nat} (hr : Rs N a b) : a < n → Rs M a b := by
  induction hr with
  | refl => exact fun _ => .refl _
  | step h1 h2 ih => exact fun ha => .step ((h _ ha _).1 h1) (ih (hN _ ha _ h1))
theorem rch_same {n : Nat} {N M : Nat → List Nat} (hN : ∀ i, i < n → ∀ k ∈ N i, k < n) (h : ∀ i, i < n → ∀ k, k ∈ N i ↔ k ∈ M i) {a b : Nat} (ha : a < n) (hr : Rch N a b) : Rch M a b := by
  obtain ⟨m, h1, h2⟩ := hr
  exact ⟨m, (h a ha m).1 h1, rs_same hN h h2 (hN a ha m h1)⟩
theorem greedy_same {n : Nat} {N M : Nat → List Nat} (h : ∀ i, i < n → ∀ k, k ∈ N i ↔ k ∈ M i) {o o' : List Nat} (a : Greedy n N o) (b : Greedy n M o') (hl : o.length = o'.length) : o = o' := by
  have key : ∀ t, t ≤ o.length → o.take t = o'.take t := by
    intro t
    induction t with
    | zero => intro _; simp
    | succ t ih =>
      intro ht
      have e := ih (by omega)
      have h1 : o[t]? = some o[t] := List.getElem?_eq_getElem (by omega)
      have h2 : o'[t]? = some o'[t] := List.getElem?_eq_getElem (by omega)
      obtain ⟨a1, a2, a3, a4⟩ := a t _ h1
      obtain ⟨b1, b2, b3, b4⟩ := b t _ h2
      have c1 := a4 _ b3 (e ▸ b2) fun m hm => by rw [e]; exact b1 m ((h _ b3 m).1 hm)
      have c2 := b4 _ a3 (e ▸ a2) fun m hm => by rw [← e]; exact a1 m ((h _ a3 m).2 hm)
      rw [List.take_add_one, List.take_add_one, e, h1, h2, Nat.le_antisymm c1 c2]
  have := key o.length (Nat.le_refl _)
  rwa [List.take_length, hl, List.take_length] at this

/-- Where all may stand, none needs itself. -/
theorem greedy_no_ring {n : Nat} {N : Nat → List Nat} {o : List Nat} (h : Greedy n N o) (hl : o.length = n) {r : Nat} (hr : r < n) : ¬ Rch N r r := by
  have step : ∀ {a b : Nat}, Rs N a b → ∀ {p : Nat}, o[p]? = some a → ∃ q, q ≤ p ∧ o[q]? = some b := by
    intro a b hab
    induction hab with
    | refl => exact fun h => ⟨_, Nat.le_refl _, h⟩
    | step h1 h2 ih =>
      intro p hp
      obtain ⟨q, hq⟩ := mem_at ((h p _ hp).1 _ h1)
      rw [List.getElem?_take] at hq
      split at hq
      · rename_i hlt
        obtain ⟨q', a1, a2⟩ := ih hq
        exact ⟨q', by omega, a2⟩
      · cases hq
  intro ⟨m, hm, hrs⟩
  obtain ⟨p, hp⟩ := mem_at (h.all hl r hr)
  obtain ⟨q, hq⟩ := mem_at ((h p r hp).1 m hm)
  rw [List.getElem?_take] at hq
  split at hq
  · rename_i hlt
    obtain ⟨q', a1, a2⟩ := step hrs hq
    have := idx_inj h.nodup a2 hp
    omega
  · cases hq

theorem dup_not {l : List Nd} {S : List ByteArray} {x : ByteArray} (hr : Ranks l S) (h : dup [] (l.map Nd.name) = some x) : False := by
  have := (dup_none (l.map Nd.name) [] List.nodup_nil).2 (by simpa using hr.perm.nodup_iff.1 hr.nodup)
  rw [h] at this
  cases this
theorem Alike.ranks {l m : List Nd} {S : List ByteArray} (h : Alike l m) (a : Ranks m S) : Ranks l S := ⟨a.asc, a.perm.trans h.names.symm⟩
theorem Alike.symm {l m : List Nd} (h : Alike l m) : Alike m l := ⟨h.names.symm, h.back, h.to⟩

theorem none_cycle {l m : List Nd} {S T : List ByteArray} {nd : Nd} (h : Alike l m) (hr : Ranks l S) (hn : nd ∈ l) (hL : Lacks S nd) (hr' : Ranks m T) (hno : ∀ nd ∈ m, ¬ Lacks T nd) : False := by
  obtain rfl := ranks_same h hr hr'
  obtain ⟨x, hx, _, hs⟩ := h.to nd hn
  exact hno x hx ((lacks_same hs).1 hL)

theorem Tells.same {l m : List Nd} (h : Alike l m) {o o' : List ByteArray} {w w' : ByteArray} {e e' : Int} (a : Tells l o w e) (b : Tells m o' w' e') : e = e' ∧ o = o' ∧ (w = w' ∨ e = 8) := by
  cases a with
  | fit x hx =>
    cases b with
    | fit y hy => exact ⟨rfl, rfl, Or.inr rfl⟩
    | none T i nd hr _ _ _ _ => exact (dup_not (h.ranks hr) hx).elim
    | cycle T M r who hr _ _ _ _ _ _ => exact (dup_not (h.ranks hr) hx).elim
    | ok T M p out hr _ _ _ _ _ => exact (dup_not (h.ranks hr) hx).elim
  | none S i nd hr hn hp hL hl =>
    cases b with
    | fit y hy => exact (dup_not (h.symm.ranks hr) hy).elim
    | none T j x hr' hn' hp' hL' hl' =>
      obtain rfl := ranks_same h hr hr'
      refine ⟨rfl, rfl, Or.inl ?_⟩
      obtain ⟨y, hy, hye, hys⟩ := h.to nd hn
      obtain ⟨z, hz, hze, hzs⟩ := h.back x hn'
      have h1 := hl' y hy i (hye ▸ hp) ((lacks_same hys).1 hL)
      have h2 := hl z hz j (hze ▸ hp') ((lacks_same hzs).1 hL')
      have : i = j := by omega
      subst this
      have := (plc_some hp).2.symm.trans (plc_some hp').2
      simpa using this
    | cycle T M r who hr' hno' _ _ _ _ _ => exact (none_cycle h hr hn hL hr' hno').elim
    | ok T M p out hr' hno' _ _ _ _ => exact (none_cycle h hr hn hL hr' hno').elim
  | cycle S N r who hr hno hN hlt hrr hl hs =>
    cases b with
    | fit y hy => exact (dup_not (h.symm.ranks hr) hy).elim
    | none T j x hr' hn' hp' hL' hl' => exact (none_cycle h.symm hr' hn' hL' hr hno).elim
    | cycle T M r' who' hr' hno' hM hlt' hrr' hl' hs' =>
      obtain rfl := ranks_same h hr hr'
      have hlen := h.len
      have hsame := isN_same h hr hN hM
      have hback : ∀ i, i < l.length → ∀ k, k ∈ M i ↔ k ∈ N i := fun i hi k => (hsame i hi k).symm
      have hM2 : ∀ i, i < l.length → ∀ k ∈ M i, k < l.length := fun i hi k hk => hlen ▸ isN_lt hr' hM i (hlen ▸ hi) k hk
      have h1 := hl r' (by omega) (rch_same hM2 hback (by omega) hrr')
      have h2 := hl' r (by omega) (rch_same (isN_lt hr hN) hsame hlt hrr)
      have : r = r' := by omega
      subst this
      rw [hs] at hs'
      cases hs'
      exact ⟨rfl, rfl, Or.inl rfl⟩
    | ok T M p out hr' hno' hM hg hgl ho =>
      exfalso
      obtain rfl := ranks_same h hr hr'
      have hlen := h.len
      exact greedy_no_ring hg hgl (by omega) (rch_same (isN_lt hr hN) (isN_same h hr hN hM) hlt hrr)
  | ok S N p out hr hno hN hg hgl ho =>
    cases b with
    | fit y hy => exact (dup_not (h.symm.ranks hr) hy).elim
    | none T j x hr' hn' hp' hL' hl' => exact (none_cycle h.symm hr' hn' hL' hr hno).elim
    | cycle T M r' who' hr' hno' hM hlt' hrr' hl' hs' =>
      exfalso
      obtain rfl := ranks_same h hr hr'
      have hlen := h.len
      have hsame := isN_same h hr hN hM
      have hM2 : ∀ i, i < l.length → ∀ k ∈ M i, k < l.length := fun i hi k hk => hlen ▸ isN_lt hr' hM i (hlen ▸ hi) k hk
      exact greedy_no_ring hg hgl (by omega) (rch_same hM2 (fun i hi k => (hsame i hi k).symm) (by omega) hrr')
    | ok T M p' out' hr' hno' hM hg' hgl' ho' =>
      obtain rfl := ranks_same h hr hr'
      have hlen := h.len
      rw [← hlen] at hg' hgl'
      have := greedy_same (isN_same h hr hN hM) hg hg' (hgl.trans hgl'.symm)
      subst this
      rw [ho, ho']
      exact ⟨rfl, rfl, Or.inl rfl⟩
end Go.Proofs.Ytilcongilokppad
