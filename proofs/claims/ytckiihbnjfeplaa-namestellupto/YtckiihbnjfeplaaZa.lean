/- Rows of binds that a call makes by append. -/
import Derived.Test.YtckiihbnjfeplaaXf
import Derived.Test.YtckiihbnjfeplaaSb
namespace Go.Proofs.Ytckiihbnjfeplaa
set_option linter.unusedVariables false
set_option linter.unusedSimpArgs false
open Go.RowKit

def encB (p : Bd) : List Value := [.string p.1, .string p.2.1, .string p.2.2]
def flatB (ps : List Bd) : List Value := ps.flatMap encB

/-- v is a row of binds of the call's own, in a block from B on. -/
def RowB (B : Nat) (v : Value) (ps : List Bd) (w : World) : Prop := w.ownsRow B 53 3 v ps.length (flatB ps)

theorem RowB.nil (B : Nat) (w : World) : RowB B (.slice none 0 0) [] w := World.ownsRow_nil _ _ _ _
theorem RowB.below {B : Nat} {v : Value} {ps : List Bd} {w w' : World} (h : RowB B v ps w) (hk : Below w.heap.size w w') : RowB B v ps w' :=
  h.kept (row := none) ⟨hk.os, hk.tape, hk.output, hk.size, fun k h1 _ => hk.block k h1⟩ (by cases hv : v.ownBlock <;> simp)
theorem RowB.alloc {B : Nat} {v : Value} {ps : List Bd} {w : World} (h : RowB B v ps w) (o : Obj) : RowB B v ps (w.alloc o) := h.below ((Below.refl _ _).alloc (Nat.le_refl _) _)

theorem flatB_cons (x : Bd) (r : List Bd) : flatB (x :: r) = [.string x.1, .string x.2.1, .string x.2.2] ++ flatB r := by simp [flatB, encB]
theorem flatB_at : ∀ {ps : List Bd} {i : Nat} {p : Bd}, ps[i]? = some p → (flatB ps)[i * 3]? = some (.string p.1) ∧ (flatB ps)[i * 3 + 1]? = some (.string p.2.1) ∧ (flatB ps)[i * 3 + 2]? = some (.string p.2.2)
  | [], i, p, h => by simp at h
  | x :: r, 0, p, h => by
    simp at h
    subst h
    simp [flatB, encB]
  | x :: r, i + 1, p, h => by
    have ih := flatB_at (ps := r) (i := i) (p := p) (by simpa using h)
    rw [flatB_cons]
    refine ⟨?_, ?_, ?_⟩
    · rw [List.getElem?_append_right (by simp; omega)]
      have : (i + 1) * 3 - [Value.string x.1, .string x.2.1, .string x.2.2].length = i * 3 := by simp; omega
      rw [this]
      exact ih.1
    · rw [List.getElem?_append_right (by simp; omega)]
      have : (i + 1) * 3 + 1 - [Value.string x.1, .string x.2.1, .string x.2.2].length = i * 3 + 1 := by simp; omega
      rw [this]
      exact ih.2.1
    · rw [List.getElem?_append_right (by simp; omega)]
      have : (i + 1) * 3 + 2 - [Value.string x.1, .string x.2.1, .string x.2.2].length = i * 3 + 2 := by simp; omega
      rw [this]
      exact ih.2.2
theorem flatB_len : ∀ (ps : List Bd), (flatB ps).length = ps.length * 3
  | [] => rfl
  | x :: r => by
    rw [flatB_cons, List.length_append, flatB_len r]
    simp
    omega
theorem flatB_one (ps : List Bd) : ∀ u ∈ flatB ps, u.oneCell' = true := by
  induction ps with
  | nil => intro u hu; simp [flatB] at hu
  | cons x r ih =>
    intro u hu
    rw [flatB_cons] at hu
    rcases List.mem_append.1 hu with h | h
    · simp at h
      rcases h with rfl | rfl | rfl <;> rfl
    · exact ih u h
theorem flatB_get {ps : List Bd} {j : Nat} {u : Value} (h : (flatB ps)[j]? = some u) : ∃ p, ps[j / 3]? = some p ∧ ((j % 3 = 0 ∧ u = .string p.1) ∨ (j % 3 = 1 ∧ u = .string p.2.1) ∨ (j % 3 = 2 ∧ u = .string p.2.2)) := by
  have hj : j < ps.length * 3 := by rw [← flatB_len]; exact lt_of_at h
  have hd : j / 3 < ps.length := by omega
  have e := flatB_at (ps := ps) (i := j / 3) (p := ps[j / 3]) (List.getElem?_eq_getElem hd)
  refine ⟨ps[j / 3], List.getElem?_eq_getElem hd, ?_⟩
  have h3 : j % 3 = 0 ∨ j % 3 = 1 ∨ j % 3 = 2 := by omega
  rcases h3 with hm | hm | hm
  · have : j / 3 * 3 = j := by omega
    rw [this, h] at e
    exact Or.inl ⟨hm, by simpa using e.1⟩
  · have : j / 3 * 3 + 1 = j := by omega
    rw [this, h] at e
    exact Or.inr (Or.inl ⟨hm, by simpa using e.2.1⟩)
  · have : j / 3 * 3 + 2 = j := by omega
    rw [this, h] at e
    exact Or.inr (Or.inr ⟨hm, by simpa using e.2.2⟩)

theorem RowB.cell {B : Nat} {ps : List Bd} {w : World} {g cap : Nat} (h : RowB B (.slice (some ⟨g, 0, none⟩) ps.length cap) ps w) {j : Nat} {u : Value} (hu : (flatB ps)[j]? = some u) : w.cell? ⟨g, j, none⟩ = some u := by
  have := World.ownsRow.cells h (g := g) rfl j u hu
  rwa [addr_add] at this

/-- What a row's value is, and how its binds lie. -/
theorem RowB.lie {B : Nat} {v : Value} {ps : List Bd} {w : World} (h : RowB B v ps w) (hlen : ps.length ≤ 9223372036854775807) : ∃ a cap, v = .slice a ps.length cap ∧ Bns w.heap.size w a ps := by
  rcases h.2 with ⟨rfl, h0⟩ | ⟨g, cap, cur, rfl, hbg, hg, hnc, hcm, hcs, htake⟩
  · have : ps = [] := List.length_eq_zero_iff.1 h0
    subst this
    exact ⟨none, 0, rfl, by simp, Or.inl rfl⟩
  · refine ⟨some ⟨g, 0, none⟩, cap, rfl, hlen, Or.inr ⟨g, 0, rfl, (Array.getElem?_eq_some_iff.1 hg).1, ?_⟩⟩
    intro i p hp
    obtain ⟨e0, e1, e2⟩ := flatB_at hp
    rw [Nat.zero_add]
    exact ⟨h.cell e0, h.cell e1, h.cell e2⟩
theorem RowB.form {B : Nat} {v : Value} {ps : List Bd} {w : World} (h : RowB B v ps w) : ∃ a cap, v = .slice a ps.length cap := by
  rcases h.2 with ⟨rfl, h0⟩ | ⟨g, cap, cur, rfl, _⟩
  · have : ps = [] := List.length_eq_zero_iff.1 h0
    subst this
    exact ⟨none, 0, rfl⟩
  · exact ⟨_, cap, rfl⟩

theorem infoBind : (Try.prog.info? 53).map (fun i => (i.zero, i.size, i.bytes)) = some (some (.agg #[.string ⟨#[]⟩, .string ⟨#[]⟩, .string ⟨#[]⟩]), 3, 48) := by kernel_rfl

theorem Bns.at {B : Nat} {w : World} {a : Option Addr} {ps : List Bd} (h : Bns B w a ps) {j : Nat} (hj : j < ps.length) :
    ∃ b o p, a = some ⟨b, o, none⟩ ∧ b < B ∧ ps[j]? = some p ∧ w.cell? ⟨b, o + j * 3, none⟩ = some (.string p.1) ∧ w.cell? ⟨b, o + j * 3 + 1, none⟩ = some (.string p.2.1) ∧ w.cell? ⟨b, o + j * 3 + 2, none⟩ = some (.string p.2.2) := by
  obtain ⟨_, h⟩ := h
  rcases h with h | ⟨b, o, ha, hb, h⟩
  · subst h; simp at hj
  · obtain ⟨c0, c1, c2⟩ := h j _ (List.getElem?_eq_getElem hj)
    exact ⟨b, o, ps[j], ha, hb, List.getElem?_eq_getElem hj, c0, c1, c2⟩
theorem Bns.old {B B' : Nat} {w w' : World} {a : Option Addr} {ps : List Bd} (h : Bns B w a ps) (hw : Old B w w') (hB : B ≤ B') : Bns B' w' a ps := by
  obtain ⟨hl, h⟩ := h
  refine ⟨hl, ?_⟩
  rcases h with h | ⟨b, o, ha, hb, h⟩
  · exact Or.inl h
  · refine Or.inr ⟨b, o, ha, Nat.lt_of_lt_of_le hb hB, fun i p hp => ?_⟩
    obtain ⟨c0, c1, c2⟩ := h i p hp
    exact ⟨(hw.cell hb _).trans c0, (hw.cell hb _).trans c1, (hw.cell hb _).trans c2⟩
theorem Bns.after {B : Nat} {w w' : World} {a : Option Addr} {ps : List Bd} (h : Bns B w a ps) (hB : B ≤ w.heap.size) (hb : Below w.heap.size w w') : Bns w'.heap.size w' a ps :=
  h.old (fun k hk => hb.block k (Nat.lt_of_lt_of_le hk hB)) (Nat.le_trans hB hb.size)
theorem Bns.src {B : Nat} {w : World} {a : Option Addr} {ps : List Bd} (h : Bns B w a ps) : Src w a ps.length (flatB ps) := by
  obtain ⟨_, h⟩ := h
  rcases h with rfl | ⟨b, o, rfl, hb, h⟩
  · exact Or.inl rfl
  · refine Or.inr ⟨_, rfl, ?_⟩
    intro j u hu
    obtain ⟨p, hp, hu'⟩ := flatB_get hu
    have hadd : (⟨b, o, none⟩ : Addr).add j = ⟨b, o + j, none⟩ := by unfold Addr.add; split <;> simp_all
    rw [hadd]
    obtain ⟨c0, c1, c2⟩ := h (j / 3) p hp
    rcases hu' with ⟨hm, rfl⟩ | ⟨hm, rfl⟩ | ⟨hm, rfl⟩
    · rw [show o + j = o + j / 3 * 3 by omega]
      exact c0
    · rw [show o + j = o + j / 3 * 3 + 1 by omega]
      exact c1
    · rw [show o + j = o + j / 3 * 3 + 2 by omega]
      exact c2

section
variable {w : World} {a : Act} {o : Oper}
theorem runs_joinB (B : Nat) (v : Value) (ps : List Bd) (hrow : RowB B v ps w) (sa : Option Addr) (m c : Nat) (qs : List Bd) (hm : m = qs.length) (hsrc : Src w sa m (flatB qs)) (hB : B ≤ w.heap.size) (hlen : ps.length + qs.length ≤ 10000000) :
    ∃ at' cap' w', (Builtin.append_ #[26, 26] o.type #[v, .slice sa m c]).run Try.prog w = .ok (.slice at' (ps.length + qs.length) cap') w' ∧ RowB B (.slice at' (ps.length + qs.length) cap') (ps ++ qs) w' ∧ Below B w w' ∧ w.grownBy w' v.ownBlock := by
  subst hm
  obtain ⟨i0, hinf, hz0, hz1, hz2⟩ := info_parts infoBind
  obtain ⟨v', w', hr, h2, h3⟩ := run_append_src (P := Try.prog) (w := w) B 26 o.type 53 i0 _ 3 48 Try.underlying26 hinf hz0 hz1 hz2 rfl (by decide) v ps.length (flatB ps) hrow sa qs.length c (flatB qs) (flatB_len qs) hsrc (flatB_one qs) (by unfold maxLen; omega) (by omega) hB
  have hrow' : RowB B v' (ps ++ qs) w' := by
    unfold RowB
    rw [show flatB (ps ++ qs) = flatB ps ++ flatB qs by simp [flatB], List.length_append]
    exact h2
  obtain ⟨at', cap', hv⟩ := hrow'.form
  rw [List.length_append] at hv
  subst hv
  refine ⟨at', cap', w', hr, hrow', ?_, h3⟩
  exact Below.grown (Below.refl _ _) h3 hB (fun k hk => (World.ownsRow.lt hrow k hk).1)

theorem wpList_joinB {ops : Array Oper} {rest : List Oper} {Q : Exit → Act → World → Prop} (hgd : o.guard = none) (s x : Operand)
    (ho : o.op = .call { callee := .builtin .append, args := #[s, x], argTypes := #[26, 26] }) (B : Nat) (v : Value) (ps : List Bd) (hs : a.eval s = v) (hrow : RowB B v ps w)
    (sa : Option Addr) (m c : Nat) (hx : a.eval x = .slice sa m c) (qs : List Bd) (hm : m = qs.length) (hsrc : Src w sa m (flatB qs)) (hB : B ≤ w.heap.size) (L : Nat) (hL : L = ps.length + qs.length) (hlen : L ≤ 10000000)
    (h : ∀ at' cap' w', RowB B (.slice at' L cap') (ps ++ qs) w' → Below B w w' → wpList Try.prog ops Q rest (a.put o.dst (.slice at' L cap')) w') :
    wpList Try.prog ops Q (o :: rest) a w := by
  subst hL
  refine wpList_plain hgd fun _ hK => ?_
  obtain ⟨at', cap', w', hr, h1, h2, h3⟩ := runs_joinB (o := o) B v ps hrow sa m c qs hm hsrc hB hlen
  unfold Oper.wp execOp
  simp only [ho, resolve, invoke, builtin, Sem.run_bind, Sem.run_pure, Result.andThen_ok, List.map_toArray, List.map_cons, List.map_nil, hs, hx, hr]
  exact hK _ _ (h at' cap' w' h1 h2)
end

/-- An empty literal; one of one bind. -/
theorem RowB.lit {B : Nat} {w : World} (hB : B ≤ w.heap.size) : RowB B (.slice (some ⟨w.heap.size, 0, none⟩) 0 0) [] (w.alloc (.cells #[] 53)) :=
  World.ownsRow_made w #[] 0 hB (Nat.zero_le _) rfl
theorem three_src (w : World) (a b c : ByteArray) : Src (w.alloc (.cells #[.string a, .string b, .string c] 53)) (some ⟨w.heap.size, 0, none⟩) 1 (flatB [(a, b, c)]) := by
  refine Or.inr ⟨_, rfl, ?_⟩
  intro q u hq
  have hcell := World.cell?_alloc_mark w #[.string a, .string b, .string c] 53 (0, 0) q
  rw [addr_add, hcell]
  simpa [flatB, encB] using hq
end Go.Proofs.Ytckiihbnjfeplaa
