/- Rows of binds: what the document's Merge needs. -/
import Derived.Test.YtckiihbnjfeplaaZc
import Derived.Test.YtckiihbnjfeplaaXg
namespace Go.Proofs.Ytckiihbnjfeplaa
set_option linter.unusedVariables false
set_option linter.unusedSimpArgs false
open Go.RowKit

theorem step_joinB {w : World} {a : Act} {o : Oper} {ops : Array Oper} {K : Act → World → Prop} {Q : Exit → Act → World → Prop} {E : Prop} (hgd : o.guard = none) (s x : Operand)
    (ho : o.op = .call { callee := .builtin .append, args := #[s, x], argTypes := #[26, 26] }) (B : Nat) (v : Value) (ps : List Bd) (hs : a.eval s = v) (hrow : RowB B v ps w)
    (sa : Option Addr) (m c : Nat) (hx : a.eval x = .slice sa m c) (qs : List Bd) (hm : m = qs.length) (hsrc : Src w sa m (flatB qs)) (hB : B ≤ w.heap.size) (L : Nat) (hL : L = ps.length + qs.length) (hlen : L ≤ 1000000)
    (h : ∀ at' cap' w', RowB B (.slice at' L cap') (ps ++ qs) w' → Below B w w' → w.grownBy w' v.ownBlock → K (a.put o.dst (.slice at' L cap')) w') :
    if Region.wanted o (yielded ops a.tmps) = true then Oper.wp Try.prog o a w K Q else E := by
  subst hL
  have hw : Region.wanted o (yielded ops a.tmps) = true := by simp [Region.wanted, hgd]
  rw [if_pos hw]
  subst hm
  obtain ⟨i0, hinf, hz0, hz1, hz2⟩ := info_parts infoBind
  obtain ⟨v', w', hr, h2, h3⟩ := run_append_src (P := Try.prog) (w := w) B 26 o.type 53 i0 _ 3 48 Try.underlying26 hinf hz0 hz1 hz2 rfl (by decide) v ps.length (flatB ps) hrow sa qs.length c (flatB qs) (flatB_len qs) hsrc (flatB_one qs) (by unfold maxLen; omega) (by omega) hB
  have hrow' : RowB B v' (ps ++ qs) w' := by
    unfold RowB
    rw [show flatB (ps ++ qs) = flatB ps ++ flatB qs by simp [flatB], List.length_append]
    exact h2
  obtain ⟨at', cap', hv⟩ := hrow'.form
  rw [List.length_append] at hv
  subst hv
  unfold Oper.wp execOp
  simp only [ho, resolve, invoke, builtin, Sem.run_bind, Sem.run_pure, Result.andThen_ok, List.map_toArray, List.map_cons, List.map_nil, hs, hx, hr]
  exact h at' cap' w' hrow' (Below.grown (Below.refl _ _) h3 hB (fun k hk => (World.ownsRow.lt hrow k hk).1)) h3
theorem three_far {w w' : World} {row : Option Nat} {g : Nat} {a b c : ByteArray} (h : Src w (some ⟨g, 0, none⟩) 1 (flatB [(a, b, c)])) (hg : w.grownBy w' row) (hne : some g ≠ row) : Src w' (some ⟨g, 0, none⟩) 1 (flatB [(a, b, c)]) := by
  rcases h with h | ⟨ad, e, h⟩
  · cases h
  · cases e
    refine Or.inr ⟨_, rfl, ?_⟩
    intro j u hu
    have := h j u hu
    rw [addr_add] at this ⊢
    exact hg.cell this hne
theorem three_alloc {w : World} {g : Nat} {a b c : ByteArray} (h : Src w (some ⟨g, 0, none⟩) 1 (flatB [(a, b, c)])) (o : Obj) : Src (w.alloc o) (some ⟨g, 0, none⟩) 1 (flatB [(a, b, c)]) := three_far h (World.grownBy_alloc w o none) (by simp)
theorem Src.afterB {B : Nat} {w w' : World} {a : Option Addr} {ps : List Bd} (h : Bns B w a ps) (hb : Below B w w') : Src w' a ps.length (flatB ps) := (h.old (fun k hk => hb.block k hk) (Nat.le_refl _)).src
theorem ins_splitB {p : Bd} : ∀ (l : List Bd) (k : Nat), k ≤ l.length → (∀ x ∈ l.take k, ltB x.1 p.1 = true) → (∀ x, l[k]? = some x → ltB x.1 p.1 = false) → ins (·.1) p l = l.take k ++ p :: l.drop k
  | [], k, hk, _, _ => by
    have : k = 0 := by simpa using hk
    subst this
    rfl
  | x :: r, 0, _, _, h2 => by
    have := h2 x rfl
    simp [ins, this]
  | x :: r, k + 1, hk, h1, h2 => by
    have e := h1 x (by simp)
    have ih := ins_splitB (p := p) r k (by simpa using hk) (fun y hy => h1 y (by simp [hy])) (fun y hy => h2 y (by simpa using hy))
    simp [ins, e, ih]
theorem Bns.take {B : Nat} {w : World} {a : Option Addr} {ps : List Bd} (h : Bns B w a ps) (k : Nat) : Bns B w a (ps.take k) := by
  obtain ⟨hl, h⟩ := h
  refine ⟨by rw [List.length_take]; omega, ?_⟩
  rcases h with rfl | ⟨b, o, rfl, hb, h⟩
  · exact Or.inl (by simp)
  · refine Or.inr ⟨b, o, rfl, hb, fun i p hp => h i p ?_⟩
    rw [List.getElem?_take] at hp
    split at hp
    · exact hp
    · cases hp
theorem Bns.drop {B : Nat} {w : World} {b o : Nat} {ps : List Bd} (h : Bns B w (some ⟨b, o, none⟩) ps) (k : Nat) : Bns B w (some ⟨b, o + k * 3, none⟩) (ps.drop k) := by
  obtain ⟨hl, h⟩ := h
  refine ⟨by rw [List.length_drop]; omega, ?_⟩
  rcases h with rfl | ⟨b', o', e, hb, h⟩
  · exact Or.inl (by simp)
  · obtain ⟨rfl, rfl⟩ : b = b' ∧ o = o' := by simpa using e
    refine Or.inr ⟨b, o + k * 3, rfl, hb, fun i p hp => ?_⟩
    rw [List.getElem?_drop] at hp
    have := h (k + i) p hp
    rw [show o + k * 3 + i * 3 = o + (k + i) * 3 by omega]
    exact this
theorem srt_snocB (l : List Bd) (p : Bd) : srt (·.1) (l ++ [p]) = ins (·.1) p (srt (·.1) l) := by
  unfold srt
  rw [List.foldl_append]
  rfl

/- How the document's Merge goes on. -/
theorem mg_same {out r : List Bd} {i k : Nat} {b : Bd} (hn : (out.map (·.1)).Nodup) (hk : (srt (·.1) out)[k]? = some b) : mg out i (b :: r) = mg out (i + 1) r := by
  have hm : b ∈ out := (srt_perm _ out).mem_iff.1 (List.mem_of_getElem? hk)
  conv => lhs; unfold mg
  cases e : out.find? (fun x => decide (x.1 = b.1)) with
  | none => exact absurd rfl (find_none e b hm)
  | some x =>
    obtain ⟨h1, h2⟩ := find_some e
    have : x = b := by
      obtain ⟨p, hp⟩ := List.mem_iff_getElem?.1 h1
      obtain ⟨q, hq⟩ := List.mem_iff_getElem?.1 hm
      obtain ⟨lp, ep⟩ := List.getElem?_eq_some_iff.1 hp
      obtain ⟨lq, eq⟩ := List.getElem?_eq_some_iff.1 hq
      have hw := List.pairwise_iff_getElem.1 hn
      rcases Nat.lt_trichotomy p q with c | c | c
      · exact (hw p q (by simpa using lp) (by simpa using lq) c (by simp only [List.getElem_map, ep, eq]; exact h2)).elim
      · subst c
        rw [← ep, ← eq]
      · exact (hw q p (by simpa using lq) (by simpa using lp) c (by simp only [List.getElem_map, ep, eq]; exact h2.symm)).elim
    simp only
    rw [if_pos this]
theorem mg_differ {out r : List Bd} {i k : Nat} {b x : Bd} (hn : (out.map (·.1)).Nodup) (hk : (srt (·.1) out)[k]? = some x) (hx : x.1 = b.1) (hne : x ≠ b) : mg out i (b :: r) = .inl (8, i) := by
  have hm : x ∈ out := (srt_perm _ out).mem_iff.1 (List.mem_of_getElem? hk)
  unfold mg
  cases e : out.find? (fun x => decide (x.1 = b.1)) with
  | none => exact absurd hx (find_none e x hm)
  | some y =>
    obtain ⟨h1, h2⟩ := find_some e
    have : y = x := by
      obtain ⟨p, hp⟩ := List.mem_iff_getElem?.1 h1
      obtain ⟨q, hq⟩ := List.mem_iff_getElem?.1 hm
      obtain ⟨lp, ep⟩ := List.getElem?_eq_some_iff.1 hp
      obtain ⟨lq, eq⟩ := List.getElem?_eq_some_iff.1 hq
      have hw := List.pairwise_iff_getElem.1 hn
      have h3 := h2.trans hx.symm
      rcases Nat.lt_trichotomy p q with c | c | c
      · exact (hw p q (by simpa using lp) (by simpa using lq) c (by simp only [List.getElem_map, ep, eq]; exact h3)).elim
      · subst c
        rw [← ep, ← eq]
      · exact (hw q p (by simpa using lq) (by simpa using lp) c (by simp only [List.getElem_map, ep, eq]; exact h3.symm)).elim
    simp only
    rw [this, if_neg hne]
theorem mg_none {out r : List Bd} {i : Nat} {b : Bd} (h : ∀ x ∈ srt (·.1) out, x.1 ≠ b.1) : mg out i (b :: r) = if out.length = 200 then .inl (5, i) else mg (out ++ [b]) (i + 1) r := by
  conv => lhs; unfold mg
  cases e : out.find? (fun x => decide (x.1 = b.1)) with
  | none => rfl
  | some x =>
    obtain ⟨h1, h2⟩ := find_some e
    exact absurd h2 (h x ((srt_perm _ out).mem_iff.2 h1))
end Go.Proofs.Ytckiihbnjfeplaa
