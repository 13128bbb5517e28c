/- Plain mathematics: what follows from what Order tells. -/
import Derived.Test.YtilcongilokppadGe
namespace Go.Proofs.Ytilcongilokppad
set_option linter.unusedVariables false
set_option linter.unusedSimpArgs false

section
variable {l : List Nd} {S : List ByteArray} {N : Nat → List Nat} {o : List Nat} {out : List ByteArray}

theorem Greedy.all {n : Nat} (h : Greedy n N o) (hl : o.length = n) : ∀ i, i < n → i ∈ o := by
  intro i hi
  refine Classical.byContradiction fun c => ?_
  have := nodup_len (i :: o) (List.range n) (List.nodup_cons.2 ⟨c, h.nodup⟩) fun x hx => by
    rcases List.mem_cons.1 hx with rfl | hx
    · exact List.mem_range.2 hi
    · exact List.mem_range.2 (h.lt x hx)
  simp at this
  omega

theorem out_at (hS : S.length = l.length) (hg : ∀ i ∈ o, i < l.length) (ho : out = o.map (fun i => S.getD i ByteArray.empty)) {t i : Nat} (ht : o[t]? = some i) : ∃ s, S[i]? = some s ∧ out[t]? = some s := by
  have hi := hg i (List.mem_of_getElem? ht)
  have hi' : i < S.length := by omega
  refine ⟨S[i], List.getElem?_eq_getElem hi', ?_⟩
  subst ho
  rw [List.getElem?_map, ht]
  simp [List.getD, hi']
theorem out_back (ho : out = o.map (fun i => S.getD i ByteArray.empty)) {t : Nat} {s : ByteArray} (ht : out[t]? = some s) : ∃ i, o[t]? = some i ∧ S.getD i ByteArray.empty = s := by
  subst ho
  rw [List.getElem?_map] at ht
  cases e : o[t]? with
  | none => simp [e] at ht
  | some i =>
    simp [e] at ht
    exact ⟨i, rfl, by simpa using ht⟩

structure Done (l : List Nd) (out : List ByteArray) : Prop where
  nd : out.Nodup
  len : out.length = l.length
  perm : ∀ s, s ∈ out ↔ ∃ nd ∈ l, nd.name = s
  behind : ∀ nd ∈ l, ∀ m ∈ nd.needs, ∃ p q, plc out m = some p ∧ plc out nd.name = some q ∧ p < q
  least : ∀ (t : Nat) (x : ByteArray), out[t]? = some x → ∀ nd ∈ l, nd.name ∉ out.take t → ltB nd.name x = true → ∃ m ∈ nd.needs, m ∉ out.take t

theorem asc_lt (ha : Asc (fun s : ByteArray => s) S) {i k : Nat} {a b : ByteArray} (hi : S[i]? = some a) (hk : S[k]? = some b) (h : ltB a b = true) : i < k := by
  obtain ⟨li, ei⟩ := List.getElem?_eq_some_iff.1 hi
  obtain ⟨lk, ek⟩ := List.getElem?_eq_some_iff.1 hk
  have hp := List.pairwise_iff_getElem.1 ha
  rcases Nat.lt_trichotomy i k with c | c | c
  · exact c
  · subst c
    rw [ei] at ek
    subst ek
    rw [ltB_irrefl] at h
    cases h
  · have := hp k i lk li c
    rw [ei, ek] at this
    rw [ltB_asymm this] at h
    cases h

theorem done_of (hr : Ranks l S) (hno : ∀ nd ∈ l, ¬ Lacks S nd) (hN : IsN l S N) (hg : Greedy l.length N o) (hl : o.length = l.length) (ho : out = o.map (fun i => S.getD i ByteArray.empty)) : Done l out := by
  have hS := hr.len
  have hat : ∀ {t i : Nat}, o[t]? = some i → ∃ s, S[i]? = some s ∧ out[t]? = some s := fun h => out_at hS hg.lt ho h
  have hlen : out.length = l.length := by subst ho; simpa using hl
  have hnd : out.Nodup := by
    subst ho
    refine List.pairwise_map.2 ?_
    have h1 := hg.nodup
    rw [List.nodup_iff_pairwise_ne] at h1
    refine List.Pairwise.imp_of_mem (R := fun a b => a ≠ b) ?_ h1
    intro a b ha hb hab e
    have hla : a < S.length := by have := hg.lt a ha; omega
    have hlb : b < S.length := by have := hg.lt b hb; omega
    have e1 := plc_at hr.nodup (List.getElem?_eq_getElem hla)
    have e2 := plc_at hr.nodup (List.getElem?_eq_getElem hlb)
    have : S[a] = S[b] := by simpa [List.getD, hla, hlb] using e
    rw [this, e2] at e1
    simp at e1
    exact hab e1.symm
  have hplc : ∀ {t i : Nat} {s : ByteArray}, o[t]? = some i → S[i]? = some s → plc out s = some t := fun {t i s} h1 h2 => by
    obtain ⟨s', h3, h4⟩ := hat h1
    rw [h2] at h3
    cases h3
    exact plc_at hnd h4
  have hplace : ∀ nd ∈ l, ∃ i t, plc S nd.name = some i ∧ S[i]? = some nd.name ∧ o[t]? = some i ∧ plc out nd.name = some t := fun nd hn => by
    obtain ⟨i, hi, hlt⟩ := hr.rank hn
    obtain ⟨t, ht⟩ := mem_at (hg.all hl i hlt)
    exact ⟨i, t, hi, (plc_some hi).2, ht, hplc ht (plc_some hi).2⟩
  have htake : ∀ {t k : Nat} {s : ByteArray}, S[k]? = some s → (k ∈ o.take t ↔ s ∈ out.take t) := fun {t k s} hs => by
    constructor
    · intro h
      obtain ⟨p, hp⟩ := mem_at h
      rw [List.getElem?_take] at hp
      split at hp
      · rename_i hlt
        obtain ⟨s', h3, h4⟩ := hat hp
        rw [hs] at h3
        cases h3
        rw [List.mem_iff_getElem?]
        exact ⟨p, by rw [List.getElem?_take, if_pos hlt]; exact h4⟩
      · cases hp
    · intro h
      obtain ⟨p, hp⟩ := List.mem_iff_getElem?.1 h
      rw [List.getElem?_take] at hp
      split at hp
      · rename_i hlt
        obtain ⟨i, h1, h2⟩ := out_back ho hp
        have hin := hg.lt i (List.mem_of_getElem? h1)
        have hil : i < S.length := by omega
        have e1 := List.getElem?_eq_getElem hil
        have e2 : S[i] = s := by simpa [List.getD, hil] using h2
        rw [e2] at e1
        have a1 := plc_at hr.nodup e1
        rw [plc_at hr.nodup hs] at a1
        cases a1
        rw [List.mem_iff_getElem?]
        exact ⟨p, by rw [List.getElem?_take, if_pos hlt]; exact h1⟩
      · cases hp
  refine ⟨hnd, hlen, fun s => ?_, fun nd hn m hm => ?_, fun t x hx nd hn hnt hlt => ?_⟩
  · constructor
    · intro hs
      obtain ⟨t, ht⟩ := List.mem_iff_getElem?.1 hs
      obtain ⟨i, h1, h2⟩ := out_back ho ht
      have hin := hg.lt i (List.mem_of_getElem? h1)
      obtain ⟨nd, hn, _, h3⟩ := hr.at hin
      refine ⟨nd, hn, ?_⟩
      rw [List.getD_eq_getElem?_getD, h3] at h2
      simpa using h2
    · rintro ⟨nd, hn, rfl⟩
      obtain ⟨i, t, _, _, _, h4⟩ := hplace nd hn
      exact List.mem_of_getElem? (plc_some h4).2
  · obtain ⟨i, t, h1, h2, h3, h4⟩ := hplace nd hn
    have hk : ∃ k, plc S m = some k := by
      cases e : plc S m with
      | none => exact absurd ⟨m, hm, e⟩ (hno nd hn)
      | some k => exact ⟨k, rfl⟩
    obtain ⟨k, hk⟩ := hk
    have hkN : k ∈ N i := by
      rw [hN nd hn i h1]
      exact List.mem_filterMap.2 ⟨m, hm, hk⟩
    have := (hg t i h3).1 k hkN
    obtain ⟨p, hp⟩ := mem_at this
    rw [List.getElem?_take] at hp
    split at hp
    · rename_i hpt
      exact ⟨p, t, hplc hp (plc_some hk).2, h4, hpt⟩
    · cases hp
  · obtain ⟨i, h1, h2⟩ := out_back ho hx
    obtain ⟨k, t', h3, h4, h5, h6⟩ := hplace nd hn
    have hin := hg.lt i (List.mem_of_getElem? h1)
    obtain ⟨s, hs, hs'⟩ := hat h1
    rw [hx] at hs'
    cases hs'
    have hki := asc_lt hr.asc h4 hs hlt
    refine Classical.byContradiction fun c => ?_
    have hall : ∀ m ∈ nd.needs, m ∈ out.take t := fun m hm => Classical.byContradiction fun q => c ⟨m, hm, q⟩
    have := (hg t i h1).2.2.2 k (hr.len ▸ (plc_some h3).1) (fun q => hnt ((htake h4).1 q)) fun m hm => ?_
    · omega
    · rw [hN nd hn k h3] at hm
      obtain ⟨s, hs1, hs2⟩ := List.mem_filterMap.1 hm
      exact (htake (plc_some hs2).2).2 (hall s hs1)
end

theorem Tells.done {l : List Nd} {out : List ByteArray} {who : ByteArray} {e : Int} (h : Tells l out who e) : (e = 0 ∧ who = ByteArray.empty ∧ Done l out) ∨ (e ≠ 0 ∧ out = []) := by
  cases h with
  | fit x h => exact Or.inr ⟨by decide, rfl⟩
  | none S i nd h1 h2 h3 h4 h5 => exact Or.inr ⟨by decide, rfl⟩
  | cycle S N r who h1 h2 h3 h4 h5 h6 h7 => exact Or.inr ⟨by decide, rfl⟩
  | ok S N o out h1 h2 h3 h4 h5 h6 => exact Or.inl ⟨rfl, rfl, done_of h1 h2 h3 h4 h5 h6⟩

/-- The two that are asked first. -/
theorem alive_first {a b : ByteArray} (hab : a ≠ b) {out : List ByteArray} {who : ByteArray} {e : Int} (h : Tells [⟨a, [b]⟩, ⟨b, []⟩] out who e) : e = 0 ∧ out = [b, a] := by
  have hlk : ∀ S, Ranks [⟨a, [b]⟩, ⟨b, []⟩] S → ∀ nd ∈ ([⟨a, [b]⟩, ⟨b, []⟩] : List Nd), ¬ Lacks S nd := fun S hr nd hn ⟨s, hs, hp⟩ => by
    have hbS : b ∈ S := hr.perm.mem_iff.2 (by simp)
    simp at hn
    rcases hn with rfl | rfl
    · simp at hs
      subst hs
      exact plc_none.1 hp hbS
    · simp at hs
  have key : e = 0 ∧ Done [⟨a, [b]⟩, ⟨b, []⟩] out := by
    cases h with
    | fit x h =>
      simp [dup] at h
      exact absurd h.1.symm hab
    | none S i nd h1 h2 h3 h4 h5 => exact absurd h4 (hlk S h1 nd h2)
    | cycle S N r who h1 h2 h3 h4 h5 h6 h7 =>
      exfalso
      obtain ⟨ia, hia, _⟩ := h1.rank (nd := ⟨a, [b]⟩) (by simp)
      obtain ⟨ib, hib, _⟩ := h1.rank (nd := ⟨b, []⟩) (by simp)
      have hNb := h3 ⟨b, []⟩ (by simp) ib hib
      have hNa := h3 ⟨a, [b]⟩ (by simp) ia hia
      simp at hNb hNa
      simp at hib
      rw [List.filterMap_cons_some hib] at hNa
      simp at hNa
      obtain ⟨nd, hn, hp, _⟩ := h1.at h4
      simp at hn
      obtain ⟨m, hm, hrs⟩ := h5
      rcases hn with rfl | rfl
      · rw [hia] at hp
        cases hp
        rw [hNa] at hm
        simp at hm
        subst hm
        cases hrs with
        | refl =>
          have e1 := (plc_some hia).2
          rw [(plc_some hib).2] at e1
          simp at e1
          exact hab e1.symm
        | step q _ =>
          rw [hNb] at q
          simp at q
      · simp at hp
        rw [hib] at hp
        cases hp
        rw [hNb] at hm
        simp at hm
    | ok S N o out h1 h2 h3 h4 h5 h6 => exact ⟨rfl, done_of h1 h2 h3 h4 h5 h6⟩
  refine ⟨key.1, ?_⟩
  obtain ⟨p, q, hp, hq, hlt⟩ := key.2.behind ⟨a, [b]⟩ (by simp) b (by simp)
  have hl := key.2.len
  simp at hl hq
  have h1 := plc_some hp
  have h2 := plc_some hq
  have e1 : p = 0 := by omega
  have e2 : q = 1 := by omega
  subst e1 e2
  match out, hl, h1.2, h2.2 with
  | [x, y], _, e1, e2 =>
    simp at e1 e2
    rw [e1, e2]
theorem alive_second {c : ByteArray} {out : List ByteArray} {who : ByteArray} {e : Int} (h : Tells [⟨c, [c]⟩] out who e) : who = c ∧ e = 9 := by
  cases h with
  | fit x h => simp [dup] at h
  | none S i nd h1 h2 h3 h4 h5 =>
    exfalso
    simp at h2
    subst h2
    obtain ⟨s, hs, hp⟩ := h4
    simp at hs
    subst hs
    exact plc_none.1 hp (h1.perm.mem_iff.2 (by simp))
  | cycle S N r who h1 h2 h3 h4 h5 h6 h7 =>
    refine ⟨?_, rfl⟩
    have := h1.perm.mem_iff.1 (List.mem_of_getElem? h7)
    simpa using this
  | ok S N o out h1 h2 h3 h4 h5 h6 =>
    exfalso
    obtain ⟨p, q, hp, hq, hlt⟩ := (done_of h1 h2 h3 h4 h5 h6).behind ⟨c, [c]⟩ (by simp) c (by simp)
    simp at hq
    rw [hp] at hq
    cases hq
    omega
end Go.Proofs.Ytilcongilokppad
