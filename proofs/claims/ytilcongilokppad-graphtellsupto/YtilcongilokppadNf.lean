/- Nodes, told from the last one on: a row of nodes of one's own. -/
import Derived.Test.YtilcongilokppadNc
import Derived.Deep.RegionLaw
import Derived.Deep.AppendLies
namespace Go.Proofs.Ytilcongilokppad
set_option linter.unusedVariables false
set_option linter.unusedSimpArgs false
open Go.RowKit Go.Maps Go.WideMaps

/-- A node as it lies: what it needs lies at na. -/
structure En where
  nd : Nd
  na : Option Addr
  nc : Nat
def encN (e : En) : List Value := [.string e.nd.name, .slice e.na e.nd.needs.length e.nc]
def flatN (es : List En) : List Value := es.flatMap encN
theorem flatN_at : ∀ {es : List En} {i : Nat} {e : En}, es[i]? = some e → (flatN es)[i * 2]? = some (.string e.nd.name) ∧ (flatN es)[i * 2 + 1]? = some (.slice e.na e.nd.needs.length e.nc)
  | [], i, p, h => by simp at h
  | x :: r, 0, p, h => by
    simp at h
    subst h
    simp [flatN, encN]
  | x :: r, i + 1, p, h => by
    have ih := flatN_at (es := r) (i := i) (e := p) (by simpa using h)
    have e : flatN (x :: r) = encN x ++ flatN r := by simp [flatN]
    have el : (encN x).length = 2 := rfl
    rw [e]
    refine ⟨?_, ?_⟩
    · rw [List.getElem?_append_right (by omega)]
      have : (i + 1) * 2 - (encN x).length = i * 2 := by omega
      rw [this]
      exact ih.1
    · rw [List.getElem?_append_right (by omega)]
      have : (i + 1) * 2 + 1 - (encN x).length = i * 2 + 1 := by omega
      rw [this]
      exact ih.2

/-- v is a row of nodes of one's own; what they need lies elsewhere. -/
structure BK (B : Nat) (v : Value) (es : List En) (w : World) : Prop where
  row : w.ownsRow B 32 2 v es.length (flatN es)
  lie : ∀ e ∈ es, e.nd.needs = [] ∨ ∃ g, e.na = some ⟨g, 0, none⟩ ∧ g < w.heap.size ∧ v.ownBlock ≠ some g ∧ ∀ (i : Nat) (s : ByteArray), e.nd.needs[i]? = some s → w.cell? ⟨g, i, none⟩ = some (.string s)
theorem BK.nil (B : Nat) (w : World) : BK B (.slice none 0 0) [] w := ⟨World.ownsRow_nil _ _ _ _, by simp⟩
theorem BK.below {B : Nat} {v : Value} {es : List En} {w w' : World} (h : BK B v es w) (hb : Below w.heap.size w w') : BK B v es w' := by
  refine ⟨h.row.kept (row := none) ⟨hb.os, hb.tape, hb.output, hb.size, fun k h1 _ => hb.block k h1⟩ (by cases hv : v.ownBlock <;> simp), fun e he => ?_⟩
  rcases h.lie e he with q | ⟨g, h1, h2, h3, h4⟩
  · exact Or.inl q
  · exact Or.inr ⟨g, h1, Nat.lt_of_lt_of_le h2 hb.size, h3, fun i s hi => (hb.cell (p := ⟨g, i, none⟩) h2).trans (h4 i s hi)⟩
theorem BK.form {B : Nat} {v : Value} {es : List En} {w : World} (h : BK B v es w) : ∃ a cap, v = .slice a es.length cap := by
  rcases h.row.2 with ⟨rfl, h0⟩ | ⟨g, cap, cur, rfl, _⟩
  · have : es = [] := List.length_eq_zero_iff.1 h0
    subst this
    exact ⟨none, 0, rfl⟩
  · exact ⟨_, cap, rfl⟩
theorem BK.nds {B : Nat} {v : Value} {es : List En} {w : World} (h : BK B v es w) {l : List Nd} (hl : es.map En.nd = l) (hz : l.length ≤ 1048576) (hn : ∀ nd ∈ l, nd.name.size ≤ 1048576 ∧ nd.needs.length ≤ 1048576 ∧ ∀ s ∈ nd.needs, s.size ≤ 1048576) :
    ∃ a cap, v = .slice a l.length cap ∧ Nds w.heap.size w a l := by
  subst hl
  rcases h.row.2 with ⟨rfl, h0⟩ | ⟨g, cap, cur, rfl, hbg, hg, rest⟩
  · have : es = [] := List.length_eq_zero_iff.1 h0
    subst this
    exact ⟨none, 0, rfl, by simp, by simp, Or.inl rfl⟩
  · refine ⟨some ⟨g, 0, none⟩, cap, by simp, hz, hn, Or.inr ⟨g, 0, rfl, (Array.getElem?_eq_some_iff.1 hg).1, ?_⟩⟩
    intro i nd hi
    rw [List.getElem?_map] at hi
    cases he : es[i]? with
    | none => simp [he] at hi
    | some e =>
      simp [he] at hi
      subst hi
      have hcell : ∀ j u, (flatN es)[j]? = some u → w.cell? ⟨g, j, none⟩ = some u := by
        intro j u hu
        have := h.row.cells (g := g) rfl j u hu
        rwa [add_at] at this
      obtain ⟨f0, f1⟩ := flatN_at he
      rw [Nat.zero_add]
      refine ⟨hcell _ _ f0, e.na, e.nc, hcell _ _ f1, ?_⟩
      have hz' := hn e.nd (List.mem_map.2 ⟨e, List.mem_of_getElem? he, rfl⟩)
      refine ⟨by omega, fun s hs => by have := hz'.2.2 s hs; unfold maxLen; omega, ?_⟩
      rcases h.lie e (List.mem_of_getElem? he) with q | ⟨g', h1, h2, h3, h4⟩
      · exact Or.inl q
      · exact Or.inr ⟨g', 0, h1, h2, fun i s hi => by rw [Nat.zero_add]; exact h4 i s hi⟩
theorem infoNode : (Try.prog.info? 32).map (fun i => (i.zero, i.size, i.bytes)) = some (some (.agg #[.string ⟨#[]⟩, .slice none 0 0]), 2, 40) := by kernel_rfl

/-- One node more. -/
theorem wpList_pushN {ops : Array Oper} {rest : List Oper} {o : Oper} {a : Act} {Q : Exit → Act → World → Prop} {w0 : World} (e : En) (ab : Nat) (hgd : o.guard = none) (s x : Operand)
    (ho : o.op = .call { callee := .builtin .append, args := #[s, x], argTypes := #[22, 22] }) (B : Nat) (v : Value) (es : List En) (hs : a.eval s = v) (hrow : BK B v es w0)
    (hx : a.eval x = .slice (some ⟨ab, 0, none⟩) 1 1) (hab : ab = w0.heap.size) (hB : B ≤ w0.heap.size) (hlen : es.length ≤ 1048576)
    (hnew : e.nd.needs = [] ∨ ∃ g, e.na = some ⟨g, 0, none⟩ ∧ g < w0.heap.size ∧ v.ownBlock ≠ some g ∧ ∀ (i : Nat) (s : ByteArray), e.nd.needs[i]? = some s → w0.cell? ⟨g, i, none⟩ = some (.string s))
    (h : ∀ g cap w', BK B (.slice (some ⟨g, 0, none⟩) (es.length + 1) cap) (es ++ [e]) w' → w0.grownBy w' v.ownBlock → wpList Try.prog ops Q rest (a.put o.dst (.slice (some ⟨g, 0, none⟩) (es.length + 1) cap)) w') :
    wpList Try.prog ops Q (o :: rest) a (w0.alloc (.cells #[.string e.nd.name, .slice e.na e.nd.needs.length e.nc] 32)) := by
  subst hab
  obtain ⟨i0, hinf, hz0, hz1, hz2⟩ := info_parts infoNode
  refine wpList_append_lies _ hgd s x 22 ho B 32 i0 _ 2 40 Try.underlying22 hinf hz0 hz1 hz2 rfl (by decide) v es.length (flatN es) hs (World.ownsRow.alloc hrow.row _) ⟨w0.heap.size, 0, none⟩ 1 1 (encN e) hx rfl ?_ ?_ (by decide) ?_ ?_ ?_ (w0.heap.size + 1) (by simp) ?_
  · intro q u hq
    have hcell := World.cell?_alloc_mark w0 #[.string e.nd.name, .slice e.na e.nd.needs.length e.nc] 32 (0, 0) q
    rw [add_at, hcell]
    simpa [encN] using hq
  · intro u hu
    simp [encN] at hu
    rcases hu with rfl | rfl <;> rfl
  · unfold maxLen; omega
  · omega
  · simp; omega
  · intro g cap w' hown hg hat hlt
    have hg' : w0.grownBy w' v.ownBlock := ⟨hg.os, hg.tape, hg.output, by have := hg.size; simp at this; omega, fun k hk hne => (hg.block k (by simp; omega) hne).trans (Below.heap_alloc w0 _ k hk)⟩
    refine h g cap w' ⟨?_, fun x hx => ?_⟩ hg'
    · have e1 : flatN (es ++ [e]) = flatN es ++ encN e := by simp [flatN]
      rw [e1, List.length_append]
      exact hown
    · have key : (x.nd.needs = [] ∨ ∃ g, x.na = some ⟨g, 0, none⟩ ∧ g < w0.heap.size ∧ v.ownBlock ≠ some g ∧ ∀ (i : Nat) (s : ByteArray), x.nd.needs[i]? = some s → w0.cell? ⟨g, i, none⟩ = some (.string s)) := by
        rcases List.mem_append.1 hx with q | q
        · exact hrow.lie x q
        · simp at q
          subst q
          exact hnew
      rcases key with q | ⟨g1, h1, h2, h3, h4⟩
      · exact Or.inl q
      · refine Or.inr ⟨g1, h1, Nat.lt_of_lt_of_le h2 hg'.size, ?_, fun i s hi => (World.cell?_of_block (a := ⟨g1, i, none⟩) (hg'.block g1 h2 (fun c => h3 c.symm))).trans (h4 i s hi)⟩
        intro c
        simp [Value.ownBlock] at c
        subst c
        rcases hat with q | q
        · exact h3 q
        · omega
def flip (nd : Nd) : Nd := ⟨nd.name, nd.needs.reverse⟩
theorem turned_eq (l : List Nd) : turned l = (l.map flip).reverse := rfl
theorem drop_at {α : Type} {l : List α} {i : Nat} {x : α} (h : l[i]? = some x) : l.drop i = x :: l.drop (i + 1) := by
  obtain ⟨hl, he⟩ := List.getElem?_eq_some_iff.1 h
  rw [List.drop_eq_getElem_cons hl, he]
theorem cost_turned (l : List Nd) : cost (turned l) = cost l := by
  unfold cost turned
  rw [List.map_reverse, List.sum_reverse, List.map_map]
  congr 1
  apply List.map_congr_left
  intro nd _
  simp
theorem str_news (w : World) (u : Value) : ∀ (j : Nat) (x : Value), [u][j]? = some x → (w.alloc (.cells #[u] 9)).cell? ((⟨w.heap.size, 0, none⟩ : Addr).add j) = some x := by
  intro q x hq
  have hcell := World.cell?_alloc_mark w #[u] 9 (0, 0) q
  rw [add_at, hcell]
  simpa using hq
theorem str_one (y : ByteArray) : ∀ u ∈ [Value.string y], u.oneCell' = true := by
  intro u hu
  simp at hu
  subst hu
  rfl
end Go.Proofs.Ytilcongilokppad
