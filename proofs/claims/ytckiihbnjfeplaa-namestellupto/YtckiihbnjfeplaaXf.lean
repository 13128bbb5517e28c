/- Rows of pairs: a whole slice appended. -/
import Derived.Test.YtckiihbnjfeplaaWn
import Derived.Test.YtckiihbnjfeplaaBl
import Derived.Deep.RegionLaw
import Derived.Deep.AppendLies
namespace Go.Proofs.Ytckiihbnjfeplaa
set_option linter.unusedVariables false
set_option linter.unusedSimpArgs false
open Go.RowKit

theorem run_append_no {P : Program} {w : World} (base : Nat) (t ty e : TypeId) (i : TypeInfo) (size : Nat) (ht : P.underlying t = some (.slice e)) (hi : P.info? e = some i) (v : Value) (n : Nat) (xs : List Value) (hown : w.ownsRow base e size v n xs) (c : Nat) :
    (Builtin.append_ #[t, t] ty #[v, .slice none 0 c]).run P w = .ok v w := by
  rcases hown.2 with ⟨rfl, rfl⟩ | ⟨g, cap, cur, rfl, hbg, hg, hnc, hcm, hcs, htake⟩
  · simp [Builtin.append_, run_underlying ht, sizeOf, typeInfo, hi, Builtin.lenOf, Builtin.firstCells]
  · simp [Builtin.append_, run_underlying ht, sizeOf, typeInfo, hi, Builtin.lenOf, Builtin.firstCells, hnc, storeCells]

/-- A source: nothing, or cells that lie there. -/
def Src (w : World) (sa : Option Addr) (m : Nat) (news : List Value) : Prop := m = 0 ∨ ∃ ad, sa = some ad ∧ ∀ j u, news[j]? = some u → w.cell? (ad.add j) = some u

theorem run_append_src {P : Program} {w : World} (base : Nat) (t ty e : TypeId) (i : TypeInfo) (z : Value) (size bytes : Nat) (ht : P.underlying t = some (.slice e)) (hi : P.info? e = some i) (hz : i.zero = some z)
    (hsize : i.size = size) (hby : i.bytes = bytes) (hzs : z.cells.size = size) (hsz : 0 < size)
    (v : Value) (n : Nat) (xs : List Value) (hown : w.ownsRow base e size v n xs) (sa : Option Addr) (m c : Nat) (news : List Value) (hl : news.length = m * size) (hsrc : Src w sa m news) (h1 : ∀ u ∈ news, u.oneCell' = true)
    (h63 : n + m ≤ maxLen) (hbytes : (n + m) * bytes ≤ 140737488355328) (hbase : base ≤ w.heap.size) :
    ∃ v' w', (Builtin.append_ #[t, t] ty #[v, .slice sa m c]).run P w = .ok v' w' ∧ w'.ownsRow base e size v' (n + m) (xs ++ news) ∧ w.grownBy w' v.ownBlock := by
  rcases sa with _ | ad
  · rcases hsrc with rfl | ⟨ad, h, _⟩
    · have hn : news = [] := List.length_eq_zero_iff.1 (by rw [hl, Nat.zero_mul])
      subst hn
      rw [run_append_no (P := P) (w := w) base t ty e i size ht hi v n xs hown c]
      exact ⟨v, w, rfl, by simpa using hown, ⟨rfl, rfl, rfl, Nat.le_refl _, fun _ _ _ => rfl⟩⟩
    · cases h
  · have hcells : ∀ j u, news[j]? = some u → w.cell? (ad.add j) = some u := by
      rcases hsrc with rfl | ⟨ad', h, h'⟩
      · have hn : news = [] := List.length_eq_zero_iff.1 (by rw [hl, Nat.zero_mul])
        subst hn
        intro j u hu
        simp at hu
      · cases h
        exact h'
    obtain ⟨v', w', hr, h2, h3, _⟩ := run_append_own (P := P) w base t ty e i z size bytes ht hi hz hsize hby hzs hsz v n xs hown ad m c news hl hcells h1 h63 hbytes hbase
    exact ⟨v', w', hr, h2, h3⟩

theorem flatP_len (ps : List Pr) : (flatP ps).length = ps.length * 2 := by
  induction ps with
  | nil => rfl
  | cons x r ih =>
    have e : flatP (x :: r) = [.string x.1, .string x.2] ++ flatP r := by simp [flatP, encP]
    rw [e, List.length_append, ih]
    simp
    omega
theorem flatP_one (ps : List Pr) : ∀ u ∈ flatP ps, u.oneCell' = true := by
  intro u hu
  unfold flatP encP at hu
  simp at hu
  obtain ⟨a, b, _, h | h⟩ := hu <;> (subst h; rfl)
theorem flatP_get {ps : List Pr} {j : Nat} {u : Value} (h : (flatP ps)[j]? = some u) : ∃ p, ps[j / 2]? = some p ∧ ((j % 2 = 0 ∧ u = .string p.1) ∨ (j % 2 = 1 ∧ u = .string p.2)) := by
  have hj : j < ps.length * 2 := by rw [← flatP_len]; exact lt_of_at h
  have hd : j / 2 < ps.length := by omega
  have e := flatP_at (ps := ps) (i := j / 2) (p := ps[j / 2]) (List.getElem?_eq_getElem hd)
  refine ⟨ps[j / 2], List.getElem?_eq_getElem hd, ?_⟩
  rcases Nat.mod_two_eq_zero_or_one j with hm | hm
  · have : j / 2 * 2 = j := by omega
    rw [this, h] at e
    exact Or.inl ⟨hm, by simpa using e.1⟩
  · have : j / 2 * 2 + 1 = j := by omega
    rw [this, h] at e
    exact Or.inr ⟨hm, by simpa using e.2⟩

/-- Pairs that lie there are a source. -/
theorem Prs.src {B : Nat} {w : World} {a : Option Addr} {ps : List Pr} (h : Prs B w a ps) : Src w a ps.length (flatP ps) := by
  obtain ⟨_, h⟩ := h
  rcases h with rfl | ⟨b, o, rfl, hb, h⟩
  · exact Or.inl rfl
  · refine Or.inr ⟨_, rfl, ?_⟩
    intro j u hu
    obtain ⟨p, hp, hu'⟩ := flatP_get hu
    have hadd : (⟨b, o, none⟩ : Addr).add j = ⟨b, o + j, none⟩ := by unfold Addr.add; split <;> simp_all
    rw [hadd]
    obtain ⟨c0, c1⟩ := h (j / 2) p hp
    rcases hu' with ⟨hm, rfl⟩ | ⟨hm, rfl⟩
    · rw [show o + j = o + j / 2 * 2 by omega]
      exact c0
    · rw [show o + j = o + j / 2 * 2 + 1 by omega]
      exact c1

section
variable {w : World} {a : Act} {o : Oper}
theorem runs_joinP (B : Nat) (v : Value) (ps : List Pr) (hrow : RowP B v ps w) (sa : Option Addr) (m c : Nat) (qs : List Pr) (hm : m = qs.length) (hsrc : Src w sa m (flatP qs)) (hB : B ≤ w.heap.size) (hlen : ps.length + qs.length ≤ 1000000) :
    ∃ at' cap' w', (Builtin.append_ #[27, 27] o.type #[v, .slice sa m c]).run Try.prog w = .ok (.slice at' (ps.length + qs.length) cap') w' ∧ RowP B (.slice at' (ps.length + qs.length) cap') (ps ++ qs) w' ∧ Below B w w' ∧ w.grownBy w' v.ownBlock := by
  subst hm
  obtain ⟨i0, hinf, hz0, hz1, hz2⟩ := info_parts infoPair
  obtain ⟨v', w', hr, h2, h3⟩ := run_append_src (P := Try.prog) (w := w) B 27 o.type 43 i0 _ 2 32 Try.underlying27 hinf hz0 hz1 hz2 rfl (by decide) v ps.length (flatP ps) hrow sa qs.length c (flatP qs) (flatP_len qs) hsrc (flatP_one qs) (by unfold maxLen; omega) (by omega) hB
  have hrow' : RowP B v' (ps ++ qs) w' := by
    unfold RowP
    rw [show flatP (ps ++ qs) = flatP ps ++ flatP qs by simp [flatP], List.length_append]
    exact h2
  obtain ⟨at', cap', hv⟩ := hrow'.form
  rw [List.length_append] at hv
  subst hv
  refine ⟨at', cap', w', hr, hrow', ?_, h3⟩
  exact Below.grown (Below.refl _ _) h3 hB (fun k hk => (World.ownsRow.lt hrow k hk).1)

/-- .. at a plain region's list. -/
theorem wpList_joinP {ops : Array Oper} {rest : List Oper} {Q : Exit → Act → World → Prop} (hgd : o.guard = none) (s x : Operand)
    (ho : o.op = .call { callee := .builtin .append, args := #[s, x], argTypes := #[27, 27] }) (B : Nat) (v : Value) (ps : List Pr) (hs : a.eval s = v) (hrow : RowP B v ps w)
    (sa : Option Addr) (m c : Nat) (hx : a.eval x = .slice sa m c) (qs : List Pr) (hm : m = qs.length) (hsrc : Src w sa m (flatP qs)) (hB : B ≤ w.heap.size) (hlen : ps.length + qs.length ≤ 1000000)
    (h : ∀ at' cap' w', RowP B (.slice at' (ps.length + qs.length) cap') (ps ++ qs) w' → Below B w w' → wpList Try.prog ops Q rest (a.put o.dst (.slice at' (ps.length + qs.length) cap')) w') :
    wpList Try.prog ops Q (o :: rest) a w := by
  refine wpList_plain hgd fun _ hK => ?_
  obtain ⟨at', cap', w', hr, h1, h2, h3⟩ := runs_joinP (o := o) B v ps hrow sa m c qs hm hsrc hB hlen
  unfold Oper.wp execOp
  simp only [ho, resolve, invoke, builtin, Sem.run_bind, Sem.run_pure, Result.andThen_ok, List.map_toArray, List.map_cons, List.map_nil, hs, hx, hr]
  exact hK _ _ (h at' cap' w' h1 h2)

/-- .. at a step of a region that draws. -/
theorem step_joinP {ops : Array Oper} {K : Act → World → Prop} {Q : Exit → Act → World → Prop} {E : Prop} (hgd : o.guard = none) (s x : Operand)
    (ho : o.op = .call { callee := .builtin .append, args := #[s, x], argTypes := #[27, 27] }) (B : Nat) (v : Value) (ps : List Pr) (hs : a.eval s = v) (hrow : RowP B v ps w)
    (sa : Option Addr) (m c : Nat) (hx : a.eval x = .slice sa m c) (qs : List Pr) (hm : m = qs.length) (hsrc : Src w sa m (flatP qs)) (hB : B ≤ w.heap.size) (L : Nat) (hL : L = ps.length + qs.length) (hlen : L ≤ 1000000)
    (h : ∀ at' cap' w', RowP B (.slice at' L cap') (ps ++ qs) w' → Below B w w' → w.grownBy w' v.ownBlock → K (a.put o.dst (.slice at' L cap')) w') :
    if Region.wanted o (yielded ops a.tmps) = true then Oper.wp Try.prog o a w K Q else E := by
  subst hL
  have hw : Region.wanted o (yielded ops a.tmps) = true := by simp [Region.wanted, hgd]
  rw [if_pos hw]
  obtain ⟨at', cap', w', hr, h1, h2, h3⟩ := runs_joinP (o := o) B v ps hrow sa m c qs hm hsrc hB hlen
  unfold Oper.wp execOp
  simp only [ho, resolve, invoke, builtin, Sem.run_bind, Sem.run_pure, Result.andThen_ok, List.map_toArray, List.map_cons, List.map_nil, hs, hx, hr]
  exact h at' cap' w' h1 h2 h3
end

theorem two_src (w : World) (a b : ByteArray) : Src (w.alloc (.cells #[.string a, .string b] 43)) (some ⟨w.heap.size, 0, none⟩) 1 (flatP [(a, b)]) := by
  refine Or.inr ⟨_, rfl, ?_⟩
  intro j u hu
  have := two_news w a b j u (by simpa [flatP, encP] using hu)
  exact this
theorem two_far {w w' : World} {row : Option Nat} {g : Nat} {a b : ByteArray} (h : Src w (some ⟨g, 0, none⟩) 1 (flatP [(a, b)])) (hg : w.grownBy w' row) (hne : some g ≠ row) : Src w' (some ⟨g, 0, none⟩) 1 (flatP [(a, b)]) := by
  rcases h with h | ⟨ad, e, h⟩
  · cases h
  · cases e
    refine Or.inr ⟨_, rfl, ?_⟩
    intro j u hu
    have := h j u hu
    rw [addr_add] at this ⊢
    exact hg.cell this hne
theorem two_alloc {w : World} {g : Nat} {a b : ByteArray} (h : Src w (some ⟨g, 0, none⟩) 1 (flatP [(a, b)])) (o : Obj) : Src (w.alloc o) (some ⟨g, 0, none⟩) 1 (flatP [(a, b)]) := two_far h (World.grownBy_alloc w o none) (by simp)
theorem Src.after {B : Nat} {w w' : World} {a : Option Addr} {ps : List Pr} (h : Prs B w a ps) (hb : Below B w w') : Src w' a ps.length (flatP ps) := (h.old (fun k hk => hb.block k hk) (Nat.le_refl _)).src

/-- An empty literal. -/
theorem RowP.lit {B : Nat} {w : World} (hB : B ≤ w.heap.size) : RowP B (.slice (some ⟨w.heap.size, 0, none⟩) 0 0) [] (w.alloc (.cells #[] 43)) :=
  World.ownsRow_made w #[] 0 hB (Nat.zero_le _) rfl

theorem ins_split {p : Pr} : ∀ (l : List Pr) (k : Nat), k ≤ l.length → (∀ x ∈ l.take k, ltB x.1 p.1 = true) → (∀ x, l[k]? = some x → ltB x.1 p.1 = false) → ins (·.1) p l = l.take k ++ p :: l.drop k
  | [], k, hk, _, _ => by
    have : k = 0 := by simpa using hk
    subst this
    rfl
  | x :: r, 0, _, _, h2 => by
    have := h2 x rfl
    simp [ins, this]
  | x :: r, k + 1, hk, h1, h2 => by
    have e := h1 x (by simp)
    have ih := ins_split (p := p) r k (by simpa using hk) (fun y hy => h1 y (by simp [hy])) (fun y hy => h2 y (by simpa using hy))
    simp [ins, e, ih]
end Go.Proofs.Ytckiihbnjfeplaa
