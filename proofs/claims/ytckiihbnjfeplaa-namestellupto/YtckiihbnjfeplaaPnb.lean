/- What sets bring: the laws of chapter 2 that speak of sets, in plain mathematics. -/
import Derived.Test.YtckiihbnjfeplaaPna
namespace Go.Proofs.Ytckiihbnjfeplaa
set_option linter.unusedVariables false
set_option linter.unusedSimpArgs false
open Go.RowKit

/-- What package names tells of a set. -/
def ofL (s : St) (ex : List ByteArray) : Sum Int (List Pr) :=
  if form 12 s ≠ 0 then .inl (form 12 s) else if wex ex ≠ 0 then .inl (wex ex) else
  match br ex s with
  | .inl e => .inl e
  | .inr ps => .inr (srt (·.1) ps)

/-! ### Exports. -/
theorem wexFrom_ok : ∀ (l a : List ByteArray), wexFrom a l = 0 ↔ (∀ x ∈ l, namedB x = true) ∧ l.Nodup ∧ ∀ x ∈ l, x ∉ a
  | [], a => by simp [wexFrom]
  | s :: r, a => by
    unfold wexFrom
    by_cases h1 : namedB s = false
    · simp [h1]
    · have h1' : namedB s = true := by simpa using h1
      rw [if_neg h1]
      by_cases h2 : s ∈ a
      · simp [h2]
      · rw [if_neg h2, wexFrom_ok r (a ++ [s])]
        simp [h1', h2]
        intro h3
        constructor
        · rintro ⟨h4, h5⟩
          exact ⟨⟨fun hs => (h5 s hs).2 rfl, h4⟩, fun x hx => (h5 x hx).1⟩
        · rintro ⟨⟨h4, h4'⟩, h5⟩
          exact ⟨h4', fun x hx => ⟨h5 x hx, fun e => h4 (e ▸ hx)⟩⟩
theorem wex_ok {l : List ByteArray} (h : wex l = 0) : l.length ≤ 200 ∧ (∀ x ∈ l, namedB x = true) ∧ l.Nodup := by
  unfold wex at h
  split at h
  · cases h
  · obtain ⟨h1, h2, _⟩ := (wexFrom_ok l []).1 h
    exact ⟨by omega, h1, h2⟩

/-! ### Forms. -/
theorem form_up : ∀ (f : Nat) (s : St), form f s ≠ 4 → form (f + 1) s = form f s
  | 0, s, h => absurd rfl h
  | f + 1, s, h => by
    conv => lhs; unfold form
    conv => rhs; unfold form
    unfold form at h
    by_cases h1 : s.ly.kind = 1
    · simp only [if_pos h1]
    · simp only [if_neg h1] at h ⊢
      by_cases h2 : s.ly.kind < 2 ∨ 5 < s.ly.kind
      · simp only [if_pos h2]
      · simp only [if_neg h2] at h ⊢
        by_cases h3 : aloneS s.ly s.nk ≠ 0
        · simp only [if_pos h3]
        · simp only [if_neg h3] at h ⊢
          cases s with
          | last l => rfl
          | more l n k => exact form_up f k h

/-- A set that is right is the library, or one kid's. -/
theorem form_ok {f : Nat} {s : St} (h : form (f + 1) s = 0) : s.ly.kind = 1 ∨ ∃ l k, s = .more l 0 k ∧ (2 ≤ l.kind ∧ l.kind ≤ 5) ∧ (l.kind = 4 → namedB l.pre = true) ∧ (l.kind = 5 → l.asn.length = l.names.length ∧ l.asn.all namedB = true) ∧ form f k = 0 := by
  unfold form at h
  by_cases h1 : s.ly.kind = 1
  · exact Or.inl h1
  · right
    simp only [if_neg h1] at h
    by_cases h2 : s.ly.kind < 2 ∨ 5 < s.ly.kind
    · simp [if_pos h2] at h
    · simp only [if_neg h2] at h
      by_cases h3 : aloneS s.ly s.nk ≠ 0
      · simp only [if_pos h3] at h
        exact absurd h h3
      · simp only [if_neg h3] at h
        have h3' : aloneS s.ly s.nk = 0 := by simpa using h3
        unfold aloneS at h3'
        split at h3'
        · cases h3'
        · rename_i g1
          split at h3'
          · cases h3'
          · rename_i g2
            split at h3'
            · cases h3'
            · rename_i g3
              cases s with
              | last l => simp [St.nk] at g1
              | more l n k =>
                simp only [St.ly, St.nk] at *
                have hn : n = 0 := by
                  apply Classical.byContradiction
                  intro hn
                  exact g1 (Or.inl (by omega))
                subst hn
                refine ⟨l, k, rfl, by omega, ?_, ?_, h⟩
                · intro hk
                  cases hp : namedB l.pre with
                  | true => rfl
                  | false => exact absurd ⟨hk, hp⟩ g2
                · intro hk
                  refine ⟨?_, ?_⟩
                  · apply Classical.byContradiction
                    intro hl
                    exact g1 (Or.inr ⟨hk, hl⟩)
                  · cases hp : l.asn.all namedB with
                    | true => rfl
                    | false => exact absurd ⟨hk, hp⟩ g3

/-! ### What is brought: all of the library's, each called its own. -/
structure Good (ex : List ByteArray) (ps : List Pr) : Prop where
  nodup : (ps.map (·.1)).Nodup
  there : ∀ p ∈ ps, p.2 ∈ ex
  named : ∀ p ∈ ps, namedB p.1 = true
  few : ps.length ≤ ex.length

theorem callD_named : ∀ (ns asn : List ByteArray) (h : ByteArray), namedB h = true → asn.all namedB = true → namedB (callD ns asn h) = true
  | [], asn, h, hh, _ => by unfold callD; exact hh
  | n :: ns, [], h, hh, _ => by unfold callD; exact hh
  | n :: ns, a :: asn, h, hh, ha => by
    unfold callD
    simp at ha
    split
    · exact ha.1
    · exact callD_named ns asn h hh (by simpa using ha.2)

theorem good_lib {ex : List ByteArray} (h : wex ex = 0) : Good ex (ex.map fun x => (x, x)) := by
  obtain ⟨h1, h2, h3⟩ := wex_ok h
  refine ⟨?_, ?_, ?_, by simp⟩
  · rw [List.map_map, show ((fun x : Pr => x.1) ∘ fun x => (x, x)) = id from rfl, List.map_id]
    exact h3
  · intro p hp
    obtain ⟨x, hx, rfl⟩ := List.mem_map.1 hp
    exact hx
  · intro p hp
    obtain ⟨x, hx, rfl⟩ := List.mem_map.1 hp
    exact h2 x hx

theorem good_filter {ex : List ByteArray} {ps : List Pr} (h : Good ex ps) (q : Pr → Bool) : Good ex (ps.filter q) := by
  refine ⟨?_, fun p hp => h.there p (List.mem_filter.1 hp).1, fun p hp => h.named p (List.mem_filter.1 hp).1, Nat.le_trans (List.length_filter_le _ _) h.few⟩
  exact List.Sublist.nodup (List.Sublist.map _ List.filter_sublist) h.nodup

theorem ba_cancel {a b c : ByteArray} (h : a ++ b = a ++ c) : b = c := by
  have h' := congrArg (fun x : ByteArray => x.data.toList) h
  simp only [ByteArray.data_append, Array.toList_append] at h'
  exact ba_eq (List.append_cancel_left h')

theorem good_pref {ex : List ByteArray} {ps ps' : List Pr} {l : Ly} (h : Good ex ps) (hp : pref l ps = .inr ps') : Good ex ps' := by
  unfold pref at hp
  split at hp
  · rename_i ha
    cases hp
    refine ⟨?_, ?_, ?_, by simpa using h.few⟩
    · rw [List.map_map]
      have := h.nodup
      rw [List.nodup_iff_pairwise_ne, List.pairwise_map] at this ⊢
      refine this.imp ?_
      intro x y hne e
      exact hne (ba_cancel e)
    · intro p hp
      obtain ⟨x, hx, rfl⟩ := List.mem_map.1 hp
      exact h.there x hx
    · intro p hp
      obtain ⟨x, hx, rfl⟩ := List.mem_map.1 hp
      exact (List.all_eq_true.1 ha) x hx
  · cases hp

theorem good_rena {ex : List ByteArray} {ps ps' : List Pr} {l : Ly} (h : Good ex ps) (ha : l.asn.all namedB = true) (hp : rena l ps = .inr ps') : Good ex ps' := by
  unfold rena at hp
  split at hp
  · rename_i hn
    cases hp
    refine ⟨?_, ?_, ?_, by simpa using h.few⟩
    · rw [List.map_map]
      exact hn
    · intro p hp
      obtain ⟨x, hx, rfl⟩ := List.mem_map.1 hp
      exact h.there x hx
    · intro p hp
      obtain ⟨x, hx, rfl⟩ := List.mem_map.1 hp
      exact callD_named _ _ _ (h.named x hx) ha
  · cases hp

theorem good_step {ex : List ByteArray} {ps ps' : List Pr} {l : Ly} (h : Good ex ps) (hk : 2 ≤ l.kind ∧ l.kind ≤ 5) (ha : l.kind = 5 → l.asn.all namedB = true) (hp : step l ps = .inr ps') : Good ex ps' := by
  unfold step at hp
  split at hp
  · exact good_pref h hp
  · split at hp
    · split at hp
      · cases hp
        exact good_filter h _
      · split at hp
        · cases hp
          exact good_filter h _
        · exact good_rena h (ha (by omega)) hp
    · cases hp

theorem br_good {ex : List ByteArray} (hw : wex ex = 0) : ∀ (f : Nat) (s : St) (ps : List Pr), form f s = 0 → br ex s = .inr ps → Good ex ps
  | 0, s, ps, hf, _ => by cases hf
  | f + 1, s, ps, hf, hb => by
    rcases form_ok hf with h1 | ⟨l, k, rfl, h2, h4, h5, h6⟩
    · cases s with
      | last l =>
        simp only [br] at hb
        cases hb
        exact good_lib hw
      | more l n k =>
        simp only [St.ly] at h1
        simp only [br, if_pos h1] at hb
        cases hb
        exact good_lib hw
    · have hne : ¬ l.kind = 1 := by omega
      simp only [br, if_neg hne] at hb
      cases e : br ex k with
      | inl x => rw [e] at hb; cases hb
      | inr qs =>
        rw [e] at hb
        exact good_step (br_good hw f k qs h6 e) h2 (fun h => (h5 h).2) hb

/-! ### One layer more. -/
def onS (kind : Int) (s : St) (l : List ByteArray) : St := .more ⟨kind, ByteArray.empty, l, [], ByteArray.empty⟩ 0 s
def preS (p : ByteArray) (s : St) : St := .more ⟨4, ByteArray.empty, [], [], p⟩ 0 s
def renS (s : St) (n a : ByteArray) : St := .more ⟨5, ByteArray.empty, [n], [a], ByteArray.empty⟩ 0 s

theorem form_on {kind : Int} (hk : kind = 2 ∨ kind = 3) (f : Nat) (s : St) (l : List ByteArray) : form (f + 1) (onS kind s l) = form f s := by
  have e : aloneS ⟨kind, ByteArray.empty, l, [], ByteArray.empty⟩ 1 = 0 := by
    unfold aloneS
    rcases hk with rfl | rfl <;> simp
  unfold onS
  conv => lhs; unfold form
  simp only [St.ly, St.nk, e]
  rw [if_neg (by omega), if_neg (by omega)]
  simp
theorem form_pre {p : ByteArray} (hp : namedB p = true) (f : Nat) (s : St) : form (f + 1) (preS p s) = form f s := by
  have e : aloneS ⟨4, ByteArray.empty, [], [], p⟩ 1 = 0 := by
    unfold aloneS
    simp [hp]
  unfold preS
  conv => lhs; unfold form
  simp only [St.ly, St.nk, e]
  simp
theorem form_ren {a : ByteArray} (ha : namedB a = true) (f : Nat) (s : St) (n : ByteArray) : form (f + 1) (renS s n a) = form f s := by
  have e : aloneS ⟨5, ByteArray.empty, [n], [a], ByteArray.empty⟩ 1 = 0 := by
    unfold aloneS
    simp [ha]
  unfold renS
  conv => lhs; unfold form
  simp only [St.ly, St.nk, e]
  simp
theorem form_ren_no {a : ByteArray} (ha : namedB a = false) (f : Nat) (s : St) (n : ByteArray) : form (f + 1) (renS s n a) = 7 := by
  have e : aloneS ⟨5, ByteArray.empty, [n], [a], ByteArray.empty⟩ 1 = 7 := by
    unfold aloneS
    simp [ha]
  unfold renS
  conv => lhs; unfold form
  simp only [St.ly, St.nk, e]
  simp

theorem br_on {kind : Int} (hk : kind = 2 ∨ kind = 3) (ex : List ByteArray) (s : St) (l : List ByteArray) : br ex (onS kind s l) = match br ex s with | .inl e => .inl e | .inr ps => step ⟨kind, ByteArray.empty, l, [], ByteArray.empty⟩ ps := by
  unfold onS
  conv => lhs; unfold br
  simp only
  rw [if_neg (by omega)]
  cases br ex s <;> rfl
theorem br_pre (ex : List ByteArray) (s : St) (p : ByteArray) : br ex (preS p s) = match br ex s with | .inl e => .inl e | .inr ps => pref ⟨4, ByteArray.empty, [], [], p⟩ ps := by
  unfold preS
  conv => lhs; unfold br
  simp only
  rw [if_neg (by omega)]
  cases br ex s <;> simp [step]
theorem br_ren (ex : List ByteArray) (s : St) (n a : ByteArray) : br ex (renS s n a) = match br ex s with | .inl e => .inl e | .inr ps => if n ∈ ps.map (·.1) then rena ⟨5, ByteArray.empty, [n], [a], ByteArray.empty⟩ ps else .inl 6 := by
  unfold renS
  conv => lhs; unfold br
  simp only
  rw [if_neg (by omega)]
  cases br ex s with
  | inl e => rfl
  | inr ps =>
    simp only [step]
    rw [if_neg (by decide)]
    by_cases h : n ∈ ps.map (·.1)
    · rw [if_pos h, if_pos (by intro m hm; simp only [List.mem_singleton] at hm; subst hm; exact h), if_neg (by decide), if_neg (by decide)]
    · rw [if_neg h, if_neg (fun hm => h (hm n (by simp)))]

/-- What is told, where it is told. -/
theorem ofL_ok {s : St} {ex : List ByteArray} {x : List Pr} (h : ofL s ex = .inr x) : form 12 s = 0 ∧ wex ex = 0 ∧ ∃ ps, br ex s = .inr ps ∧ x = srt (·.1) ps := by
  unfold ofL at h
  by_cases h1 : form 12 s ≠ 0
  · simp [if_pos h1] at h
  · rw [if_neg h1] at h
    by_cases h2 : wex ex ≠ 0
    · simp [if_pos h2] at h
    · rw [if_neg h2] at h
      refine ⟨by simpa using h1, by simpa using h2, ?_⟩
      cases e : br ex s with
      | inl y => rw [e] at h; simp at h
      | inr ps => rw [e] at h; simp at h; exact ⟨ps, rfl, h.symm⟩
theorem ofL_mk {s : St} {ex : List ByteArray} {ps : List Pr} (h1 : form 12 s = 0) (h2 : wex ex = 0) (h3 : br ex s = .inr ps) : ofL s ex = .inr (srt (·.1) ps) := by
  unfold ofL
  simp [h1, h2, h3]

/-! ### NamesFrom. -/
theorem from_good {s : St} {ex : List ByteArray} {x : List Pr} (h : ofL s ex = .inr x) : Asc (·.1) x ∧ Good ex x := by
  obtain ⟨h1, h2, ps, h3, rfl⟩ := ofL_ok h
  have g := br_good h2 12 s ps h1 h3
  have hp := srt_perm (·.1) ps
  refine ⟨srt_asc _ g.nodup, (hp.map _).nodup_iff.2 g.nodup, ?_, ?_, by rw [hp.length_eq]; exact g.few⟩
  · intro p hpp
    exact g.there p (hp.mem_iff.1 hpp)
  · intro p hpp
    exact g.named p (hp.mem_iff.1 hpp)

/-! ### NamesOnly. -/
theorem step_only (l : List ByteArray) (ps : List Pr) : step ⟨2, ByteArray.empty, l, [], ByteArray.empty⟩ ps = if (∀ n ∈ l, n ∈ ps.map (·.1)) then .inr (ps.filter fun p => decide (p.1 ∈ l)) else .inl 6 := by
  unfold step
  simp
theorem step_except (l : List ByteArray) (ps : List Pr) : step ⟨3, ByteArray.empty, l, [], ByteArray.empty⟩ ps = if (∀ n ∈ l, n ∈ ps.map (·.1)) then .inr (ps.filter fun p => !decide (p.1 ∈ l)) else .inl 6 := by
  unfold step
  simp

theorem only_only {s : St} {ex a b : List ByteArray} {x : List Pr} (h : ofL (onS 2 (onS 2 s a) b) ex = .inr x) : ofL (onS 2 s b) ex = .inr x ∧ ofL (onS 2 s []) ex = .inr [] := by
  obtain ⟨h1, h2, ps, h3, rfl⟩ := ofL_ok h
  rw [form_on (Or.inl rfl), form_on (Or.inl rfl)] at h1
  have h11 : form 11 s = 0 := by rw [form_up 10 s (by rw [h1]; decide)]; exact h1
  rw [br_on (Or.inl rfl), br_on (Or.inl rfl)] at h3
  cases e : br ex s with
  | inl y => rw [e] at h3; cases h3
  | inr qs =>
    rw [e] at h3
    simp only [step_only] at h3
    by_cases ha : ∀ n ∈ a, n ∈ qs.map (·.1)
    · rw [if_pos ha] at h3
      simp only at h3
      by_cases hb : ∀ n ∈ b, n ∈ (qs.filter fun p => decide (p.1 ∈ a)).map (·.1)
      · rw [if_pos hb] at h3
        cases h3
        have hb' : ∀ n ∈ b, n ∈ a ∧ n ∈ qs.map (·.1) := by
          intro n hn
          obtain ⟨p, hp, rfl⟩ := List.mem_map.1 (hb n hn)
          obtain ⟨hp1, hp2⟩ := List.mem_filter.1 hp
          exact ⟨by simpa using hp2, List.mem_map_of_mem hp1⟩
        refine ⟨?_, ?_⟩
        · rw [ofL_mk (ps := qs.filter fun p => decide (p.1 ∈ b)) (by rw [form_on (Or.inl rfl)]; exact h11) h2]
          · rw [List.filter_filter]
            refine congrArg Sum.inr (congrArg _ (List.filter_congr ?_))
            intro p _
            by_cases hpb : p.1 ∈ b
            · simp [hpb, (hb' _ hpb).1]
            · simp [hpb]
          · rw [br_on (Or.inl rfl), e]
            simp only [step_only]
            rw [if_pos (fun n hn => (hb' n hn).2)]
        · rw [ofL_mk (ps := []) (by rw [form_on (Or.inl rfl)]; exact h11) h2]
          · rfl
          · rw [br_on (Or.inl rfl), e]
            simp [step_only]
      · rw [if_neg hb] at h3; cases h3
    · rw [if_neg ha] at h3; cases h3

/-! ### NamesParted. -/
/-- What an error is: 0 where there is none. -/
def errOf : Sum Int (List Pr) → Int
  | .inl e => e
  | .inr _ => 0

theorem aloneS_ne (l : Ly) (n : Nat) : aloneS l n = 0 ∨ aloneS l n = 5 ∨ aloneS l n = 7 := by
  unfold aloneS
  split
  · simp
  · split
    · simp
    · split <;> simp

theorem ofL_ne {s : St} {ex : List ByteArray} {e : Int} (h : ofL s ex = .inl e) : e ≠ 0 := by
  unfold ofL at h
  by_cases h1 : form 12 s ≠ 0
  · rw [if_pos h1] at h; cases h; exact h1
  · rw [if_neg h1] at h
    by_cases h2 : wex ex ≠ 0
    · rw [if_pos h2] at h; cases h; exact h2
    · rw [if_neg h2] at h
      have hb : ∀ t x, br ex t = .inl x → x ≠ 0 := by
        intro t
        induction t with
        | last l => intro x hx; cases hx
        | more l n k ih =>
          intro x hx
          simp only [br] at hx
          split at hx
          · cases hx
          · cases ek : br ex k with
            | inl y => rw [ek] at hx; cases hx; exact ih _ ek
            | inr ps =>
              rw [ek] at hx
              simp only [step, pref, rena] at hx
              split at hx
              · split at hx
                · cases hx
                · cases hx; decide
              · split at hx
                · split at hx
                  · cases hx
                  · split at hx
                    · cases hx
                    · split at hx
                      · cases hx
                      · cases hx; decide
                · cases hx; decide
      cases eb : br ex s with
      | inl y => rw [eb] at h; cases h; exact hb _ _ eb
      | inr ps => rw [eb] at h; cases h

theorem parted_err {s : St} {ex l : List ByteArray} (he : errOf (ofL s ex) ≠ 0) : errOf (ofL (onS 2 s l) ex) = errOf (ofL (onS 3 s l) ex) := by
  unfold ofL at he ⊢
  rw [form_on (Or.inl rfl), form_on (Or.inr rfl)]
  by_cases h1 : form 11 s ≠ 0
  · rw [if_pos h1, if_pos h1]
  · rw [if_neg h1, if_neg h1]
    have h1' : form 12 s = 0 := by rw [form_up 11 s (by simp at h1; rw [h1]; decide)]; simpa using h1
    by_cases h2 : wex ex ≠ 0
    · rw [if_pos h2, if_pos h2]
    · rw [if_neg h2, if_neg h2]
      rw [if_neg (by simp [h1']), if_neg h2] at he
      rw [br_on (Or.inl rfl), br_on (Or.inr rfl)]
      cases e : br ex s with
      | inl y => rfl
      | inr ps => rw [e] at he; exact absurd rfl he

theorem parted_same {s : St} {ex l : List ByteArray} {x a b : List Pr} (hx : ofL s ex = .inr x) (ha : ofL (onS 2 s l) ex = .inr a) (hb : ofL (onS 3 s l) ex = .inr b) : srt (·.1) (a ++ b) = x := by
  obtain ⟨h1, h2, ps, h3, rfl⟩ := ofL_ok hx
  obtain ⟨_, _, asn, h4, rfl⟩ := ofL_ok ha
  obtain ⟨_, _, bs, h5, rfl⟩ := ofL_ok hb
  have g := br_good h2 12 s ps h1 h3
  rw [br_on (Or.inl rfl), h3] at h4
  rw [br_on (Or.inr rfl), h3] at h5
  simp only [step_only] at h4
  simp only [step_except] at h5
  by_cases hl : ∀ n ∈ l, n ∈ ps.map (·.1)
  · rw [if_pos hl] at h4 h5
    cases h4
    cases h5
    refine srt_eq _ g.nodup ?_
    exact ((srt_perm _ _).append (srt_perm _ _)).trans (List.filter_append_perm _ _)
  · rw [if_neg hl] at h4; cases h4

/-! ### NamesPrefix. -/
theorem pref_pref {p q : ByteArray} {ps qs rs : List Pr} (h1 : pref ⟨4, ByteArray.empty, [], [], q⟩ ps = .inr qs) (h2 : pref ⟨4, ByteArray.empty, [], [], p⟩ qs = .inr rs) : pref ⟨4, ByteArray.empty, [], [], p ++ q⟩ ps = .inr rs := by
  unfold pref at h1 h2 ⊢
  split at h1
  · cases h1
    split at h2
    · rename_i h2'
      cases h2
      rw [List.all_map] at h2'
      rw [if_pos]
      · rw [List.map_map]
        refine congrArg Sum.inr (List.map_congr_left ?_)
        intro x _
        simp [ByteArray.append_assoc]
      · rw [← h2']
        refine congrArg (fun f => ps.all f) ?_
        funext x
        simp [ByteArray.append_assoc]
    · cases h2
  · cases h1

theorem prefix_err {s : St} {ex : List ByteArray} {p q : ByteArray} (hp : namedB p = true) (hq : namedB q = true) (hpq : namedB (p ++ q) = true) (h : errOf (ofL (preS p (preS q s)) ex) ≠ 0 ∨ errOf (ofL (preS (p ++ q) s) ex) ≠ 0) :
    errOf (ofL (preS p (preS q s)) ex) = errOf (ofL (preS (p ++ q) s) ex) ∨ errOf (ofL (preS p (preS q s)) ex) = 4 ∨ errOf (ofL (preS p (preS q s)) ex) = 7 := by
  unfold ofL at h ⊢
  rw [form_pre hp, form_pre hq, form_pre hpq] at h ⊢
  by_cases h4 : form 10 s = 4
  · right; left
    rw [if_pos (by rw [h4]; decide)]
    exact h4
  · rw [form_up 10 s h4] at h ⊢
    by_cases h1 : form 10 s ≠ 0
    · rw [if_pos h1, if_pos h1]; exact Or.inl rfl
    · rw [if_neg h1, if_neg h1] at h ⊢
      by_cases h2 : wex ex ≠ 0
      · rw [if_pos h2, if_pos h2]; exact Or.inl rfl
      · rw [if_neg h2, if_neg h2] at h ⊢
        rw [br_pre, br_pre, br_pre] at h ⊢
        cases e : br ex s with
        | inl y => exact Or.inl rfl
        | inr ps =>
          rw [e] at h
          simp only at h ⊢
          cases e1 : pref ⟨4, ByteArray.empty, [], [], q⟩ ps with
          | inl y =>
            unfold pref at e1
            split at e1
            · cases e1
            · cases e1; exact Or.inr (Or.inr rfl)
          | inr qs =>
            rw [e1] at h
            simp only at h ⊢
            cases e2 : pref ⟨4, ByteArray.empty, [], [], p⟩ qs with
            | inl y =>
              unfold pref at e2
              split at e2
              · cases e2
              · cases e2; exact Or.inr (Or.inr rfl)
            | inr rs =>
              rw [pref_pref e1 e2]
              exact Or.inl rfl

theorem prefix_same {s : St} {ex : List ByteArray} {p q : ByteArray} {a b : List Pr} (ha : ofL (preS p (preS q s)) ex = .inr a) (hb : ofL (preS (p ++ q) s) ex = .inr b) : a = b ∧ ∀ x ∈ b, ∃ t, x.1 = (p ++ q) ++ t := by
  obtain ⟨h1, h2, ps, h3, rfl⟩ := ofL_ok ha
  obtain ⟨_, _, qs, h4, rfl⟩ := ofL_ok hb
  rw [br_pre, br_pre] at h3
  rw [br_pre] at h4
  cases e : br ex s with
  | inl y => rw [e] at h4; cases h4
  | inr rs =>
    rw [e] at h3 h4
    simp only at h3 h4
    cases e1 : pref ⟨4, ByteArray.empty, [], [], q⟩ rs with
    | inl y => rw [e1] at h3; cases h3
    | inr ts =>
      rw [e1] at h3
      simp only at h3
      rw [pref_pref e1 h3] at h4
      cases h4
      refine ⟨rfl, ?_⟩
      intro x hx
      have hx' := (srt_perm _ _).mem_iff.1 hx
      have h5 := pref_pref e1 h3
      unfold pref at h5
      split at h5
      · cases h5
        obtain ⟨y, _, rfl⟩ := List.mem_map.1 hx'
        exact ⟨y.1, rfl⟩
      · cases h5

/-! ### NamesBack. -/
theorem map_inj {α β : Type} {f : α → β} : ∀ {l : List α}, (l.map f).Nodup → ∀ {x y : α}, x ∈ l → y ∈ l → f x = f y → x = y
  | [], _, _, _, hx, _, _ => by cases hx
  | a :: r, h, x, y, hx, hy, e => by
    rw [List.map_cons, List.nodup_cons] at h
    rcases List.mem_cons.1 hx with hx' | hx'
    · rcases List.mem_cons.1 hy with hy' | hy'
      · rw [hx', hy']
      · exact absurd (show f a ∈ r.map f by rw [← hx', e]; exact List.mem_map_of_mem hy') h.1
    · rcases List.mem_cons.1 hy with hy' | hy'
      · exact absurd (show f a ∈ r.map f by rw [← hy', ← e]; exact List.mem_map_of_mem hx') h.1
      · exact map_inj h.2 hx' hy' e

theorem callD_one (n a h : ByteArray) : callD [n] [a] h = if h = n then a else h := by
  simp [callD]

theorem back_same {s : St} {ex : List ByteArray} {n a : ByteArray} {x y z : List Pr} (hx : ofL s ex = .inr x) (hy : ofL (renS s n a) ex = .inr y) (hz : ofL (renS (renS s n a) a n) ex = .inr z) : z = x ∧ y.length = x.length ∧ ∃ p ∈ y, p.1 = a := by
  obtain ⟨h1, h2, ps, h3, rfl⟩ := ofL_ok hx
  obtain ⟨_, _, qs, h4, rfl⟩ := ofL_ok hy
  obtain ⟨_, _, rs, h5, rfl⟩ := ofL_ok hz
  have g := br_good h2 12 s ps h1 h3
  rw [br_ren, h4] at h5
  rw [br_ren, h3] at h4
  simp only at h4 h5
  by_cases hn : n ∈ ps.map (·.1)
  · rw [if_pos hn] at h4
    by_cases ha : a ∈ qs.map (·.1)
    · rw [if_pos ha] at h5
      unfold rena at h4 h5
      simp only [callD_one] at h4 h5
      by_cases hd : (ps.map fun p => if p.1 = n then a else p.1).Nodup
      · rw [if_pos hd] at h4
        cases h4
        split at h5
        · cases h5
          have hid : (ps.map fun p => ((if p.1 = n then a else p.1, p.2) : Pr)).map (fun p => ((if p.1 = a then n else p.1, p.2) : Pr)) = ps := by
            rw [List.map_map]
            conv => rhs; rw [← List.map_id ps]
            refine List.map_congr_left ?_
            intro p hp
            obtain ⟨h, t⟩ := p
            simp only [Function.comp_apply, id_eq]
            by_cases e1 : h = n
            · simp [e1]
            · simp only [if_neg e1]
              by_cases e2 : h = a
              · exfalso
                subst e2
                obtain ⟨q, hq, hqn⟩ := List.mem_map.1 hn
                have := map_inj hd hq hp (by simp only; rw [if_pos hqn, if_neg e1])
                subst this
                exact e1 hqn
              · simp [e2]
          rw [hid]
          refine ⟨rfl, ?_, ?_⟩
          · rw [(srt_perm _ _).length_eq, (srt_perm _ _).length_eq]
            simp
          · obtain ⟨q, hq, hqa⟩ := List.mem_map.1 ha
            exact ⟨q, (srt_perm _ _).mem_iff.2 hq, hqa⟩
        · cases h5
      · rw [if_neg hd] at h4; cases h4
    · rw [if_neg ha] at h5; cases h5
  · rw [if_neg hn] at h4; cases h4

end Go.Proofs.Ytckiihbnjfeplaa
