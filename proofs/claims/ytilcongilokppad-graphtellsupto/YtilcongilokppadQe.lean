/- The document's own answer: Names, rising. -/
import Derived.Test.YtilcongilokppadQd
import Derived.Deep.RegionLaw
import Derived.Deep.AppendLies
import Derived.Deep.Onto
namespace Go.Proofs.Ytilcongilokppad
set_option linter.unusedVariables false
set_option linter.unusedSimpArgs false
open Go.RowKit

theorem run_append_no {P : Program} {w : World} (base : Nat) (t ty e : TypeId) (i : TypeInfo) (size : Nat) (ht : P.underlying t = some (.slice e)) (hi : P.info? e = some i) (v : Value) (n : Nat) (xs : List Value) (hown : w.ownsRow base e size v n xs) (c : Nat) :
    (Builtin.append_ #[t, t] ty #[v, .slice none 0 c]).run P w = .ok v w := by
  rcases hown.2 with ⟨rfl, rfl⟩ | ⟨g, cap, cur, rfl, hbg, hg, hnc, hcm, hcs, htake⟩
  · simp [Builtin.append_, run_underlying ht, sizeOf, typeInfo, hi, Builtin.lenOf, Builtin.firstCells]
  · simp [Builtin.append_, run_underlying ht, sizeOf, typeInfo, hi, Builtin.lenOf, Builtin.firstCells, hnc, storeCells]

/-- A source: nothing, or cells that lie there. -/
def Src (w : World) (sa : Option Addr) (m : Nat) (news : List Value) : Prop := m = 0 ∨ ∃ ad, sa = some ad ∧ ∀ j u, news[j]? = some u → w.cell? (ad.add j) = some u

theorem run_append_src {P : Program} {w : World} (base : Nat) (t ty e : TypeId) (i : TypeInfo) (z : Value) (size bytes : Nat) (ht : P.underlying t = some (.slice e)) (hi : P.info? e = some i) (hz : i.zero = some z)
    (hsize : i.size = size) (hby : i.bytes = bytes) (hzs : z.cells.size = size) (hsz : 0 < size)
    (v : Value) (n : Nat) (xs : List Value) (hown : w.ownsRow base e size v n xs) (sa : Option Addr) (m c : Nat) (news : List Value) (hl : news.length = m * size) (hsrc : Src w sa m news) (h1 : ∀ u ∈ news, u.oneCell' = true)
    (h63 : n + m ≤ maxLen) (hbytes : (n + m) * bytes ≤ 140737488355328) (hbase : base ≤ w.heap.size) :
    ∃ v' w', (Builtin.append_ #[t, t] ty #[v, .slice sa m c]).run P w = .ok v' w' ∧ w'.ownsRow base e size v' (n + m) (xs ++ news) ∧ w.grownBy w' v.ownBlock := by
  rcases sa with _ | ad
  · rcases hsrc with rfl | ⟨ad, h, _⟩
    · have hn : news = [] := List.length_eq_zero_iff.1 (by rw [hl, Nat.zero_mul])
      subst hn
      rw [run_append_no (P := P) (w := w) base t ty e i size ht hi v n xs hown c]
      exact ⟨v, w, rfl, by simpa using hown, ⟨rfl, rfl, rfl, Nat.le_refl _, fun _ _ _ => rfl⟩⟩
    · cases h
  · have hcells : ∀ j u, news[j]? = some u → w.cell? (ad.add j) = some u := by
      rcases hsrc with rfl | ⟨ad', h, h'⟩
      · have hn : news = [] := List.length_eq_zero_iff.1 (by rw [hl, Nat.zero_mul])
        subst hn
        intro j u hu
        simp at hu
      · cases h
        exact h'
    obtain ⟨v', w', hr, h2, h3, _⟩ := run_append_own (P := P) w base t ty e i z size bytes ht hi hz hsize hby hzs hsz v n xs hown ad m c news hl hcells h1 h63 hbytes hbase
    exact ⟨v', w', hr, h2, h3⟩

def strL (l : List ByteArray) : List Value := l.map Value.string
theorem strL_len (l : List ByteArray) : (strL l).length = l.length * 1 := by simp [strL]
theorem strL_one (l : List ByteArray) : ∀ u ∈ strL l, u.oneCell' = true := by
  intro u hu
  unfold strL at hu
  simp at hu
  obtain ⟨a, _, h⟩ := hu
  subst h
  rfl
theorem below_drewN' {B : Nat} {w w' : World} (h : Below B w w') (n : Nat) : Below B w (w'.drewN n) := h.trans ⟨rfl, rfl, rfl, Nat.le_refl _, fun _ _ => rfl⟩
/-- Texts that lie there are a source. -/
theorem Strs.src {B : Nat} {w : World} {a : Option Addr} {l : List ByteArray} (h : Strs B w a l) : Src w a l.length (strL l) := by
  obtain ⟨_, _, h⟩ := h
  rcases h with rfl | ⟨b, o, rfl, hb, h⟩
  · exact Or.inl rfl
  · refine Or.inr ⟨_, rfl, ?_⟩
    intro j u hu
    have hadd : (⟨b, o, none⟩ : Addr).add j = ⟨b, o + j, none⟩ := by unfold Addr.add; split <;> simp_all
    rw [hadd]
    unfold strL at hu
    rw [List.getElem?_map] at hu
    cases hj : l[j]? with
    | none => simp [hj] at hu
    | some s =>
      simp [hj] at hu
      subst hu
      exact h j s hj
theorem RowS.form {B : Nat} {v : Value} {l : List ByteArray} {w : World} (h : RowS B v l w) : ∃ a cap, v = .slice a l.length cap := by
  rcases h.2 with ⟨rfl, h0⟩ | ⟨g, cap, cur, rfl, _⟩
  · have : l = [] := List.length_eq_zero_iff.1 h0
    subst this
    exact ⟨none, 0, rfl⟩
  · exact ⟨_, cap, rfl⟩
theorem RowS.alloc {B : Nat} {v : Value} {l : List ByteArray} {w : World} (h : RowS B v l w) (o : Obj) : RowS B v l (w.alloc o) := h.below ((Below.refl _ _).alloc (Nat.le_refl _) _)

section
variable {w : World} {a : Act} {o : Oper}
theorem runs_joinS (B : Nat) (v : Value) (ps : List ByteArray) (hrow : RowS B v ps w) (sa : Option Addr) (m c : Nat) (qs : List ByteArray) (hm : m = qs.length) (hsrc : Src w sa m (strL qs)) (hB : B ≤ w.heap.size) (hlen : ps.length + qs.length ≤ 4194304) :
    ∃ at' cap' w', (Builtin.append_ #[23, 23] o.type #[v, .slice sa m c]).run Try.prog w = .ok (.slice at' (ps.length + qs.length) cap') w' ∧ RowS B (.slice at' (ps.length + qs.length) cap') (ps ++ qs) w' ∧ Below B w w' ∧ w.grownBy w' v.ownBlock := by
  subst hm
  obtain ⟨i0, hinf, hz0, hz1, hz2⟩ := info_parts infoStr
  obtain ⟨v', w', hr, h2, h3⟩ := run_append_src (P := Try.prog) (w := w) B 23 o.type 9 i0 _ 1 16 Try.underlying23 hinf hz0 hz1 hz2 rfl (by decide) v ps.length (strL ps) hrow sa qs.length c (strL qs) (strL_len qs) hsrc (strL_one qs) (by unfold maxLen; omega) (by omega) hB
  have hrow' : RowS B v' (ps ++ qs) w' := by
    unfold RowS
    rw [List.map_append, List.length_append]
    exact h2
  obtain ⟨at', cap', hv⟩ := hrow'.form
  rw [List.length_append] at hv
  subst hv
  refine ⟨at', cap', w', hr, hrow', ?_, h3⟩
  exact Below.grown (Below.refl _ _) h3 hB (fun k hk => (hrow.lt hk).1)

/-- .. at a step of a region that draws. -/
theorem step_joinS {ops : Array Oper} {K : Act → World → Prop} {Q : Exit → Act → World → Prop} {E : Prop} (hgd : o.guard = none) (s x : Operand)
    (ho : o.op = .call { callee := .builtin .append, args := #[s, x], argTypes := #[23, 23] }) (B : Nat) (v : Value) (ps : List ByteArray) (hs : a.eval s = v) (hrow : RowS B v ps w)
    (sa : Option Addr) (m c : Nat) (hx : a.eval x = .slice sa m c) (qs : List ByteArray) (hm : m = qs.length) (hsrc : Src w sa m (strL qs)) (hB : B ≤ w.heap.size) (L : Nat) (hL : L = ps.length + qs.length) (hlen : L ≤ 4194304)
    (h : ∀ at' cap' w', RowS B (.slice at' L cap') (ps ++ qs) w' → Below B w w' → w.grownBy w' v.ownBlock → K (a.put o.dst (.slice at' L cap')) w') :
    if Region.wanted o (yielded ops a.tmps) = true then Oper.wp Try.prog o a w K Q else E := by
  subst hL
  have hw : Region.wanted o (yielded ops a.tmps) = true := by simp [Region.wanted, hgd]
  rw [if_pos hw]
  obtain ⟨at', cap', w', hr, h1, h2, h3⟩ := runs_joinS (o := o) B v ps hrow sa m c qs hm hsrc hB hlen
  unfold Oper.wp execOp
  simp only [ho, resolve, invoke, builtin, Sem.run_bind, Sem.run_pure, Result.andThen_ok, List.map_toArray, List.map_cons, List.map_nil, hs, hx, hr]
  exact h at' cap' w' h1 h2 h3
end

theorem one_src (w : World) (a : ByteArray) : Src (w.alloc (.cells #[.string a] 9)) (some ⟨w.heap.size, 0, none⟩) 1 (strL [a]) := by
  refine Or.inr ⟨_, rfl, ?_⟩
  intro j u hu
  have hcell := World.cell?_alloc_mark w #[.string a] 9 (0, 0) j
  rw [add_at, hcell]
  simpa [strL] using hu
theorem one_far {w w' : World} {row : Option Nat} {g : Nat} {a : ByteArray} (h : Src w (some ⟨g, 0, none⟩) 1 (strL [a])) (hg : w.grownBy w' row) (hne : some g ≠ row) : Src w' (some ⟨g, 0, none⟩) 1 (strL [a]) := by
  rcases h with h | ⟨ad, e, h⟩
  · cases h
  · cases e
    refine Or.inr ⟨_, rfl, ?_⟩
    intro j u hu
    have := h j u hu
    rw [add_at] at this ⊢
    exact hg.cell this hne
theorem one_alloc {w : World} {g : Nat} {a : ByteArray} (h : Src w (some ⟨g, 0, none⟩) 1 (strL [a])) (o : Obj) : Src (w.alloc o) (some ⟨g, 0, none⟩) 1 (strL [a]) := one_far h (World.grownBy_alloc w o none) (by simp)
theorem Src.after {B : Nat} {w w' : World} {a : Option Addr} {ps : List ByteArray} (h : Strs B w a ps) (hb : Below B w w') : Src w' a ps.length (strL ps) := (h.stay (fun k hk => hb.block k hk) (Nat.le_refl _)).src

/-- An empty literal. -/
theorem RowS.lit {B : Nat} {w : World} (hB : B ≤ w.heap.size) : RowS B (.slice (some ⟨w.heap.size, 0, none⟩) 0 0) [] (w.alloc (.cells #[] 9)) :=
  World.ownsRow_made w #[] 0 hB (Nat.zero_le _) rfl

def self (s : ByteArray) : ByteArray := s
theorem ins_split {p : ByteArray} : ∀ (l : List ByteArray) (k : Nat), k ≤ l.length → (∀ x ∈ l.take k, ltB x p = true) → (∀ x, l[k]? = some x → ltB x p = false) → ins self p l = l.take k ++ p :: l.drop k
  | [], k, hk, _, _ => by
    have : k = 0 := by simpa using hk
    subst this
    rfl
  | x :: r, 0, _, _, h2 => by
    have := h2 x rfl
    simp [ins, self, this]
  | x :: r, k + 1, hk, h1, h2 => by
    have e := h1 x (by simp)
    have ih := ins_split (p := p) r k (by simpa using hk) (fun y hy => h1 y (by simp [hy])) (fun y hy => h2 y (by simpa using hy))
    simp [ins, self, e] at ih ⊢
    exact ih
theorem Strs.take {B : Nat} {w : World} {a : Option Addr} {ps : List ByteArray} (h : Strs B w a ps) (k : Nat) : Strs B w a (ps.take k) := by
  obtain ⟨hl, hz, h⟩ := h
  refine ⟨by rw [List.length_take]; omega, fun s hs => hz s (List.mem_of_mem_take hs), ?_⟩
  rcases h with rfl | ⟨b, o, rfl, hb, h⟩
  · exact Or.inl (by simp)
  · refine Or.inr ⟨b, o, rfl, hb, fun i p hp => h i p ?_⟩
    rw [List.getElem?_take] at hp
    split at hp
    · exact hp
    · cases hp
theorem Strs.drop {B : Nat} {w : World} {b o : Nat} {ps : List ByteArray} (h : Strs B w (some ⟨b, o, none⟩) ps) (k : Nat) : Strs B w (some ⟨b, o + k, none⟩) (ps.drop k) := by
  obtain ⟨hl, hz, h⟩ := h
  refine ⟨by rw [List.length_drop]; omega, fun s hs => hz s (List.mem_of_mem_drop hs), ?_⟩
  rcases h with rfl | ⟨b', o', e, hb, h⟩
  · exact Or.inl (by simp)
  · obtain ⟨rfl, rfl⟩ : b = b' ∧ o = o' := by simpa using e
    refine Or.inr ⟨b, o + k, rfl, hb, fun i p hp => ?_⟩
    rw [List.getElem?_drop] at hp
    rw [show o + k + i = o + (k + i) by omega]
    exact h (k + i) p hp
theorem srt_snoc (l : List ByteArray) (p : ByteArray) : srt self (l ++ [p]) = ins self p (srt self l) := by
  unfold srt
  rw [List.foldl_append]
  rfl
end Go.Proofs.Ytilcongilokppad
