/- What several bring together: plain mathematics. -/
import Derived.Test.YtckiihbnjfeplaaPnb
namespace Go.Proofs.Ytckiihbnjfeplaa
set_option linter.unusedVariables false
set_option linter.unusedSimpArgs false
open Go.RowKit

abbrev Bd := ByteArray × ByteArray × ByteArray

/-- What is together behind out, from entry i on. -/
def mg (out : List Bd) (i : Nat) : List Bd → Sum (Int × Int) (List Bd)
  | [] => .inr out
  | b :: r =>
    match out.find? (fun x => decide (x.1 = b.1)) with
    | some x => if x = b then mg out (i + 1) r else .inl (8, i)
    | none => if out.length = 200 then .inl (5, i) else mg (out ++ [b]) (i + 1) r

def mergeL (l : List Bd) : Sum (Int × Int) (List Bd) :=
  match mg [] 0 l with
  | .inl e => .inl e
  | .inr o => .inr (srt (·.1) o)

theorem nodup_of_map {α β : Type} {f : α → β} {l : List α} (h : (l.map f).Nodup) : l.Nodup := by
  rw [List.nodup_iff_pairwise_ne, List.pairwise_map] at h
  rw [List.nodup_iff_pairwise_ne]
  exact h.imp fun hne e => hne (by rw [e])

theorem find_some {out : List Bd} {b x : Bd} (h : out.find? (fun x => decide (x.1 = b.1)) = some x) : x ∈ out ∧ x.1 = b.1 :=
  ⟨List.mem_of_find?_eq_some h, by simpa using List.find?_some h⟩
theorem find_none {out : List Bd} {b : Bd} (h : out.find? (fun x => decide (x.1 = b.1)) = none) : ∀ x ∈ out, x.1 ≠ b.1 := by
  intro x hx e
  have := List.find?_eq_none.1 h x hx
  simp [e] at this

theorem nodup_snoc {out : List Bd} {b : Bd} (hn : (out.map (·.1)).Nodup) (h : ∀ x ∈ out, x.1 ≠ b.1) : ((out ++ [b]).map (·.1)).Nodup := by
  rw [List.map_append, List.nodup_append]
  refine ⟨hn, by simp, ?_⟩
  intro x hx y hy e
  obtain ⟨q, hq, rfl⟩ := List.mem_map.1 hx
  simp at hy
  subst hy
  exact h q hq e

theorem mg_inr : ∀ (l out : List Bd) (i : Nat) (o : List Bd), mg out i l = .inr o → (out.map (·.1)).Nodup → out.length ≤ 200 → (o.map (·.1)).Nodup ∧ o.length ≤ 200 ∧ ∀ b, b ∈ o ↔ b ∈ out ∨ b ∈ l
  | [], out, i, o, h, hn, hl => by
    simp [mg] at h
    subst h
    exact ⟨hn, hl, by simp⟩
  | b :: r, out, i, o, h, hn, hl => by
    unfold mg at h
    cases e : out.find? (fun x => decide (x.1 = b.1)) with
    | some x =>
      rw [e] at h
      simp only at h
      by_cases hx : x = b
      · rw [if_pos hx] at h
        obtain ⟨h1, h2, h3⟩ := mg_inr r out (i + 1) o h hn hl
        refine ⟨h1, h2, fun c => ?_⟩
        rw [h3 c]
        constructor
        · rintro (hc | hc)
          · exact Or.inl hc
          · exact Or.inr (List.mem_cons_of_mem _ hc)
        · rintro (hc | hc)
          · exact Or.inl hc
          · rcases List.mem_cons.1 hc with rfl | hc
            · exact Or.inl (hx ▸ (find_some e).1)
            · exact Or.inr hc
      · rw [if_neg hx] at h; cases h
    | none =>
      rw [e] at h
      simp only at h
      by_cases hx : out.length = 200
      · rw [if_pos hx] at h; cases h
      · rw [if_neg hx] at h
        obtain ⟨h1, h2, h3⟩ := mg_inr r (out ++ [b]) (i + 1) o h (nodup_snoc hn (find_none e)) (by simp; omega)
        refine ⟨h1, h2, fun c => ?_⟩
        rw [h3 c]
        simp [or_assoc]

theorem mg_ok (o : List Bd) (ho : (o.map (·.1)).Nodup) (hlen : o.length ≤ 200) : ∀ (l out : List Bd) (i : Nat), (out.map (·.1)).Nodup → (∀ b ∈ out, b ∈ o) → (∀ b ∈ l, b ∈ o) → ∃ o', mg out i l = .inr o'
  | [], out, i, _, _, _ => ⟨out, rfl⟩
  | b :: r, out, i, hn, h1, h2 => by
    unfold mg
    cases e : out.find? (fun x => decide (x.1 = b.1)) with
    | some x =>
      simp only
      obtain ⟨hx1, hx2⟩ := find_some e
      have hxb : x = b := map_inj ho (h1 x hx1) (h2 b (by simp)) hx2
      rw [if_pos hxb]
      exact mg_ok o ho hlen r out (i + 1) hn h1 (fun c hc => h2 c (List.mem_cons_of_mem _ hc))
    | none =>
      simp only
      have hs : ∀ c ∈ out ++ [b], c ∈ o := by
        intro c hc
        rcases List.mem_append.1 hc with hc | hc
        · exact h1 c hc
        · simp at hc; subst hc; exact h2 c (by simp)
      have hd := nodup_snoc hn (find_none e)
      have hle := List.Nodup.length_le_of_subset (nodup_of_map hd) hs
      rw [if_neg (by simp at hle; omega)]
      exact mg_ok o ho hlen r (out ++ [b]) (i + 1) hd hs (fun c hc => h2 c (List.mem_cons_of_mem _ hc))

theorem mergeL_ok {l x : List Bd} (h : mergeL l = .inr x) : Asc (·.1) x ∧ x.length ≤ 200 ∧ ∀ b, b ∈ x ↔ b ∈ l := by
  unfold mergeL at h
  cases e : mg [] 0 l with
  | inl y => rw [e] at h; cases h
  | inr o =>
    rw [e] at h
    cases h
    obtain ⟨h1, h2, h3⟩ := mg_inr l [] 0 o e (by simp) (by simp)
    refine ⟨srt_asc _ h1, by rw [(srt_perm _ _).length_eq]; exact h2, fun b => ?_⟩
    rw [(srt_perm _ _).mem_iff, h3 b]
    simp

theorem mergeL_mk {l x : List Bd} (hx : Asc (·.1) x) (hl : x.length ≤ 200) (hm : ∀ b, b ∈ x ↔ b ∈ l) : mergeL l = .inr x := by
  have hn := asc_nodup _ hx
  obtain ⟨o, ho⟩ := mg_ok x hn hl l [] 0 (by simp) (by simp) (fun b hb => (hm b).2 hb)
  obtain ⟨h1, h2, h3⟩ := mg_inr l [] 0 o ho (by simp) (by simp)
  unfold mergeL
  rw [ho]
  refine congrArg Sum.inr ?_
  refine asc_unique _ (srt_asc _ h1) hx ((srt_perm _ _).trans ?_)
  rw [List.perm_ext_iff_of_nodup (nodup_of_map h1) (nodup_of_map hn)]
  intro b
  rw [h3 b, hm b]
  simp

theorem merge_turn {a b x : List Bd} (h : mergeL (a ++ b) = .inr x) : mergeL (b ++ a) = .inr x ∧ mergeL (x ++ x) = .inr x := by
  obtain ⟨h1, h2, h3⟩ := mergeL_ok h
  exact ⟨mergeL_mk h1 h2 (fun c => by rw [h3 c]; simp [or_comm]), mergeL_mk h1 h2 (fun c => by simp)⟩

theorem mg_ne : ∀ (l out : List Bd) (i : Nat) (e : Int × Int), mg out i l = .inl e → e.1 ≠ 0
  | [], out, i, e, h => by cases h
  | b :: r, out, i, e, h => by
    unfold mg at h
    split at h
    · split at h
      · exact mg_ne r out _ e h
      · cases h; simp
    · split at h
      · cases h; simp
      · exact mg_ne r _ _ e h
theorem mergeL_ne {l : List Bd} {e : Int × Int} (h : mergeL l = .inl e) : e.1 ≠ 0 := by
  unfold mergeL at h
  cases e' : mg [] 0 l with
  | inl y => rw [e'] at h; cases h; exact mg_ne _ _ _ _ e'
  | inr o => rw [e'] at h; cases h
end Go.Proofs.Ytckiihbnjfeplaa
