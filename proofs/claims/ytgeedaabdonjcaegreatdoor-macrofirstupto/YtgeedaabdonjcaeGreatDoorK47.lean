/- Chapter 5's laws: one datum before others. Chapter 5's laws: rows of rules of the call's own. Chapter 5's laws: rules that are right; a rule stored in a row of rules. Chapter 5's laws: one datum before others, away from a block. Chapter 5's laws: rules appended to a row of rules. -/
import Derived.Deep.Upon
import Derived.Test.YtgeedaabdonjcaeGreatDoorK42
import Derived.Test.YtgeedaabdonjcaeGreatDoorK43
import Derived.Test.YtgeedaabdonjcaeGreatDoorK44
import Derived.Test.YtgeedaabdonjcaeGreatDoorK45
import Derived.Test.YtgeedaabdonjcaeGreatDoorK46
namespace Go.Proofs.YtgeedaabdonjcaeGreatDoor
section
set_option linter.unusedVariables false
set_option linter.unusedSimpArgs false
open Go.RowKit Go.Maps Go.WideMaps

theorem flat_one (es : List (Dat × Option Addr × Nat)) : ∀ u ∈ flat es, u.oneCell' = true := by
  intro u hu
  unfold flat at hu
  obtain ⟨e, _, hu⟩ := List.mem_flatMap.1 hu
  simp at hu
  rcases hu with rfl | rfl | rfl | rfl | rfl | rfl <;> rfl

/-- One datum, in a block of its own, before the data of a slice of W0. -/
theorem step_before {ops : Array Oper} {o : Oper} {act : Act} {K : Act → World → Prop} {Q : Exit → Act → World → Prop} {E : Prop} (hgd : o.guard = none) (s x : Operand)
    (ho : o.op = .call { callee := .builtin .append, args := #[s, x], argTypes := #[26, 26] })
    {W0 w : World} {N F : Nat} {d : Dat} {l : List Dat} {a : Option Addr} {cap : Nat}
    (hs : act.eval s = .slice (some ⟨N, 0, none⟩) 1 1) (hx : act.eval x = .slice a l.length cap)
    (hN : w.heap[N]? = some (.cells #[.int .i64 d.kind, .int .i64 d.n, .string d.name, .int .i64 d.stamp, .int .i64 d.lib, .slice none 0 0] 28 (0, 0))) (hd0 : d.kids = []) (hdn : d.name.size ≤ maxLen)
    (h0 : W0.heap.size ≤ N) (hS : Below W0.heap.size W0 w) (hd : Dn W0 F a l) (hl : l.length * 72 ≤ reachBytes)
    (h : ∀ g cap' F' w', l.length + 1 ≤ cap' → Dn w' F' (some ⟨g, 0, none⟩) (d :: l) → w.grownBy w' (some N) → K (act.put o.dst (.slice (some ⟨g, 0, none⟩) (l.length + 1) cap')) w') :
    if Region.wanted o (yielded ops act.tmps) = true then Oper.wp Tryz.prog o act w K Q else E := by
  have hNl := (Array.getElem?_eq_some_iff.1 hN).1
  have hrb : reachBytes < 140737488355328 - 4000 := by unfold reachBytes; decide
  have own1 : w.ownsRow W0.heap.size 28 6 (.slice (some ⟨N, 0, none⟩) 1 1) 1 (flat [(d, none, 0)]) := by
    refine ⟨by simp [flat], Or.inr ⟨N, 1, _, rfl, h0, hN, Nat.le_refl _, by decide, rfl, ?_⟩⟩
    simp [flat, hd0]
  have row1 : RowD W0.heap.size (.slice (some ⟨N, 0, none⟩) 1 1) [(d, none, 0)] w := ⟨own1, by
    intro e he
    simp at he
    subst he
    exact ⟨hdn, by simp [hd0], 0, hd0⟩⟩
  obtain ⟨i0, hinf, hz0, hz1, hz2⟩ := info_parts infoDat
  by_cases hl0 : l = []
  · subst hl0
    have hw : Region.wanted o (yielded ops act.tmps) = true := by simp [Region.wanted, hgd]
    rw [if_pos hw]
    have hr : (Builtin.append_ #[26, 26] o.type #[.slice (some ⟨N, 0, none⟩) 1 1, .slice a 0 cap]).run Tryz.prog w = .ok (.slice (some ⟨N, 0, none⟩) 1 1) w := by
      refine run_append_nothing w 26 26 o.type 28 i0 Tryz.underlying26 hinf (some ⟨N, 0, none⟩) 1 1 (Nat.le_refl _) (.slice a 0 cap) ?_
      cases a with
      | none => exact Src.ofNil w Tryz.underlying26 cap
      | some a => exact Src.ofSlice w Tryz.underlying26 a 0 cap [] (by simp) (by simp) (by simp)
    unfold Oper.wp execOp
    simp only [ho, resolve, invoke, builtin, Sem.run_bind, Sem.run_pure, Result.andThen_ok, List.map_toArray, List.map_cons, List.map_nil, hs, hx, List.length_nil, hr]
    obtain ⟨a', cap', f', hv, hc', hdd⟩ := row1.lie (by simp)
    simp at hv
    obtain ⟨rfl, rfl⟩ := hv
    exact h N 1 f' w (Nat.le_refl _) hdd ⟨rfl, rfl, rfl, Nat.le_refl _, fun _ _ _ => rfl⟩
  · obtain ⟨f', b, oo, es, rfl, hb, hes, hcell, hall⟩ := hd.ents hl0
    have hlen : es.length = l.length := by rw [← hes, List.length_map]
    have hpos : 0 < l.length := List.length_pos_iff.2 hl0
    refine step_append_lies _ hgd s x 26 ho W0.heap.size 28 i0 _ 6 72 Tryz.underlying26 hinf hz0 hz1 hz2 rfl (by decide) (.slice (some ⟨N, 0, none⟩) 1 1) 1 (flat [(d, none, 0)]) hs own1 ⟨b, oo, none⟩ l.length cap (flat es) hx (by rw [flat_len, hlen]) ?_ (flat_one es) hpos (by unfold maxLen; omega) (by omega) (by omega) w.heap.size rfl ?_
    · intro j u hu
      have hadd : (⟨b, oo, none⟩ : Addr).add j = ⟨b, oo + j, none⟩ := by unfold Addr.add; split <;> simp_all
      rw [hadd]
      exact (hS.cell (p := ⟨b, oo + j, none⟩) hb).trans (hcell j u hu)
    · intro g cap' w' hown hg hat hlt
      have row2 : RowD W0.heap.size (.slice (some ⟨g, 0, none⟩) (1 + l.length) cap') ([(d, none, 0)] ++ es) w' := by
        refine row1.more (Below.refl _ _) ?_ (by rw [hlen]; exact hown) hg ?_
        · intro e he
          obtain ⟨h1, h2, h3⟩ := hall e he
          refine ⟨h1, h2, f', Dc.stay (fun k hk => hS.block k hk) (fun k hk => ⟨Nat.lt_of_lt_of_le hk hS.size, fun e => ?_⟩) _ _ _ h3⟩
          have := Option.some.inj e
          simp only at this
          omega
        · rcases hat with e | e
          · exact Or.inl e.symm
          · exact Or.inr (by rw [e]; rfl)
      obtain ⟨a', cap2, f2, hv, hc', hdd⟩ := row2.lie (by simp; omega)
      rw [List.map_append, hes] at hv hc' hdd
      simp at hv
      obtain ⟨rfl, _, rfl⟩ := hv
      rw [Nat.add_comm 1 l.length]
      refine h g cap' f2 w' ?_ hdd hg
      simp at hc'
      omega
end
section
set_option linter.unusedVariables false
set_option linter.unusedSimpArgs false
open Go.RowKit Go.Maps Go.WideMaps

/-- A rule, and where its data's kids lie. -/
structure RE where
  p : Dat
  t : Dat
  pa : Option Addr
  ta : Option Addr
  pc : Nat
  tc : Nat
def RE.cells (e : RE) : List Value := (two e.p e.t e.pa e.ta e.pc e.tc).toList
def flatR (es : List RE) : List Value := es.flatMap RE.cells
theorem RE.len (e : RE) : e.cells.length = 12 := rfl
theorem flatR_cons (e : RE) (r : List RE) : flatR (e :: r) = e.cells ++ flatR r := by simp [flatR]
theorem flatR_append (a b : List RE) : flatR (a ++ b) = flatR a ++ flatR b := by simp [flatR]
theorem flatR_len : ∀ (es : List RE), (flatR es).length = es.length * 12
  | [] => rfl
  | e :: r => by rw [flatR_cons, List.length_append, e.len, flatR_len r, List.length_cons]; omega
theorem flatR_one (es : List RE) : ∀ u ∈ flatR es, u.oneCell' = true := by
  intro u hu
  obtain ⟨e, _, hu⟩ := List.mem_flatMap.1 hu
  simp [RE.cells, two] at hu
  rcases hu with rfl | rfl | rfl | rfl | rfl | rfl | rfl | rfl | rfl | rfl | rfl | rfl <;> rfl
theorem flatR_at (e : RE) : ∀ (l : List RE) (i : Nat), l[i]? = some e → ∀ k, k < 12 → (flatR l)[i * 12 + k]? = e.cells[k]?
  | [], i, hi, k, hk => by simp at hi
  | x :: r, 0, hi, k, hk => by
    simp at hi
    subst hi
    rw [flatR_cons, List.getElem?_append_left (by rw [RE.len]; omega)]
    simp
  | x :: r, i + 1, hi, k, hk => by
    rw [flatR_cons, List.getElem?_append_right (by rw [RE.len]; omega), RE.len]
    rw [show (i + 1) * 12 + k - 12 = i * 12 + k by omega]
    exact flatR_at e r i (by simpa using hi) k hk

/-- What is asked of a rule in a row. -/
def ROk (ok : Nat → Prop) (w : World) (e : RE) : Prop :=
  e.p.name.size ≤ maxLen ∧ e.t.name.size ≤ maxLen ∧ e.p.kids.length ≤ e.pc ∧ e.t.kids.length ≤ e.tc ∧ ∃ f, Dc ok w f e.pa e.p.kids ∧ Dc ok w f e.ta e.t.kids
theorem ROk.stay {ok ok' : Nat → Prop} {w w' : World} {e : RE} (h : ROk ok w e) (hw : ∀ k, ok k → w'.heap[k]? = w.heap[k]?) (ho : ∀ k, ok k → ok' k) : ROk ok' w' e := by
  obtain ⟨h1, h2, h3, h4, f, h5, h6⟩ := h
  exact ⟨h1, h2, h3, h4, f, Dc.stay hw ho f _ _ h5, Dc.stay hw ho f _ _ h6⟩

/-- A row of rules that a call owns. -/
structure RowR (B : Nat) (v : Value) (es : List RE) (w : World) : Prop where
  own : w.ownsRow B 43 12 v es.length (flatR es)
  kids : ∀ e ∈ es, ROk (fun b => b < w.heap.size ∧ some b ≠ v.ownBlock) w e
theorem RowR.below {B : Nat} {v : Value} {es : List RE} {w w' : World} (h : RowR B v es w) (hk : Below w.heap.size w w') : RowR B v es w' := by
  refine ⟨h.own.kept (row := none) ⟨hk.os, hk.tape, hk.output, hk.size, fun k h1 _ => hk.block k h1⟩ (by cases hv : v.ownBlock <;> simp), fun e he => ?_⟩
  exact (h.kids e he).stay (fun k hk2 => hk.block k hk2.1) (fun k hk2 => ⟨Nat.lt_of_lt_of_le hk2.1 hk.size, hk2.2⟩)
theorem RowR.more {B : Nat} {v v' : Value} {es fs : List RE} {w w' : World} (h : RowR B v es w)
    (hd : ∀ e ∈ fs, ROk (fun b => b < w.heap.size ∧ some b ≠ v.ownBlock) w e)
    (hown : w'.ownsRow B 43 12 v' (es.length + fs.length) (flatR es ++ flatR fs))
    (hg : w.grownBy w' v.ownBlock) (hw : v'.ownBlock = v.ownBlock ∨ v'.ownBlock = some w.heap.size) : RowR B v' (es ++ fs) w' := by
  have hnew : ∀ k, k < w.heap.size → some k ≠ v.ownBlock → some k ≠ v'.ownBlock := by
    intro k hk hne
    rcases hw with e | e
    · rw [e]; exact hne
    · rw [e]
      intro e2
      have := Option.some.inj e2
      omega
  refine ⟨?_, fun e he => ?_⟩
  · rw [flatR_append, List.length_append]
    exact hown
  · have h1 : ROk (fun b => b < w.heap.size ∧ some b ≠ v.ownBlock) w e := by
      rcases List.mem_append.1 he with he | he
      · exact h.kids e he
      · exact hd e he
    exact h1.stay (fun k hk => hg.block k hk.1 hk.2) (fun k hk => ⟨Nat.lt_of_lt_of_le hk.1 hg.size, hnew k hk.1 hk.2⟩)

def RE.rule (e : RE) : Dat × Dat := (e.p, e.t)

/-- One depth for all. -/
theorem rok_fuel {ok : Nat → Prop} {w : World} : ∀ (l : List RE), (∀ e ∈ l, ROk ok w e) → ∃ F, ∀ e ∈ l, Dc ok w F e.pa e.p.kids ∧ Dc ok w F e.ta e.t.kids
  | [], _ => ⟨0, by simp⟩
  | x :: r, hx => by
    obtain ⟨F, hF⟩ := rok_fuel r (fun e he => hx e (List.mem_cons_of_mem _ he))
    obtain ⟨_, _, _, _, f, h1, h2⟩ := hx x (by simp)
    refine ⟨f + F, fun e he => ?_⟩
    rcases List.mem_cons.1 he with rfl | he
    · exact ⟨h1.upto F, h2.upto F⟩
    · have a := (hF e he).1.upto f
      have b := (hF e he).2.upto f
      rw [Nat.add_comm] at a b
      exact ⟨a, b⟩

/-- What a row's value is, and how its rules lie. -/
theorem RowR.rn {B : Nat} {v : Value} {es : List RE} {w : World} (h : RowR B v es w) (hlen : es.length ≤ 9223372036854775807) : ∃ a cap F, v = .slice a (es.map RE.rule).length cap ∧ (es.map RE.rule).length ≤ cap ∧ Rn w F a (es.map RE.rule) := by
  obtain ⟨F, hF⟩ := rok_fuel es h.kids
  rcases h.own.2 with ⟨rfl, h0⟩ | ⟨g, cap, cur, rfl, hbg, hg, hnc, hcm, hcs, htake⟩
  · have : es = [] := List.length_eq_zero_iff.1 h0
    subst this
    exact ⟨none, 0, 0, rfl, Nat.le_refl _, by simp, Or.inl rfl⟩
  · refine ⟨some ⟨g, 0, none⟩, cap, F, by simp, by simpa using hnc, by simpa using hlen, Or.inr ⟨g, 0, rfl, (Array.getElem?_eq_some_iff.1 hg).1, ?_⟩⟩
    intro i p t hd
    rw [List.getElem?_map] at hd
    obtain ⟨e, he, hpt⟩ := Option.map_eq_some_iff.1 hd
    obtain ⟨rfl, rfl⟩ : e.p = p ∧ e.t = t := by unfold RE.rule at hpt; simpa using hpt
    have hmem : e ∈ es := List.mem_of_getElem? he
    obtain ⟨k1, k2, k3, k4, _⟩ := h.kids e hmem
    have d1 : Dn w F e.pa e.p.kids := Dc.stay (fun _ _ => rfl) (fun k hk => hk.1) F _ _ (hF e hmem).1
    have d2 : Dn w F e.ta e.t.kids := Dc.stay (fun _ _ => rfl) (fun k hk => hk.1) F _ _ (hF e hmem).2
    refine ⟨e.pa, e.ta, e.pc, e.tc, fun q hq => ?_, k1, k2, k3, k4, d1.lc, d2.lc⟩
    have hf := flatR_at e es i he q hq
    have hin : i * 12 + q < es.length * 12 := by have := (List.getElem?_eq_some_iff.1 he).1; omega
    have hc := h.own.cellAt (i * 12 + q) hin
    rw [Nat.zero_add, hc, hf]
    simp [RE.cells]

/-- Rules in memory, one by one. -/
theorem Rn.ents {w : World} {g : Nat} {a : Option Addr} {l : List (Dat × Dat)} (h : Rn w g a l) (h0 : l ≠ []) : ∃ b o es, a = some ⟨b, o, none⟩ ∧ b < w.heap.size ∧ es.map RE.rule = l ∧ (∀ j u, (flatR es)[j]? = some u → w.cell? ⟨b, o + j, none⟩ = some u) ∧ ∀ e ∈ es, ROk (fun b => b < w.heap.size) w e := by
  obtain ⟨_, h | ⟨b, o, ha, hb, hall⟩⟩ := h
  · exact absurd h h0
  · obtain ⟨es, hl, hes⟩ := pick_list (α := RE) (fun i e => l[i]? = some e.rule ∧ (∀ k, k < 12 → w.cell? ⟨b, o + i * 12 + k, none⟩ = e.cells[k]?) ∧ ROk (fun b => b < w.heap.size) w e) l.length (fun i hi => by
      obtain ⟨pa, ta, pc, tc, hc, h1, h2, h3, h4, h5, h6⟩ := hall i l[i].1 l[i].2 (List.getElem?_eq_getElem hi)
      refine ⟨⟨l[i].1, l[i].2, pa, ta, pc, tc⟩, List.getElem?_eq_getElem hi, ?_, h1, h2, h3, h4, g + 1, LC.dn _ _ _ h5 (Nat.le_refl _), LC.dn _ _ _ h6 (Nat.le_refl _)⟩
      intro k hk
      rw [hc k hk]
      simp [RE.cells])
    refine ⟨b, o, es, ha, hb, ?_, ?_, ?_⟩
    · apply List.ext_getElem?
      intro i
      rw [List.getElem?_map]
      cases he : es[i]? with
      | none =>
        have : l.length ≤ i := by rw [← hl]; exact List.getElem?_eq_none_iff.1 he
        rw [List.getElem?_eq_none this]
        rfl
      | some e => exact (hes i e he).1.symm
    · intro j u hu
      have hj : j < es.length * 12 := by
        have := (List.getElem?_eq_some_iff.1 hu).1
        rwa [flatR_len] at this
      have hi : j / 12 < es.length := by omega
      have he := hes (j / 12) es[j / 12] (List.getElem?_eq_getElem hi)
      have hk := he.2.1 (j % 12) (by omega)
      have hf := flatR_at es[j / 12] es (j / 12) (List.getElem?_eq_getElem hi) (j % 12) (by omega)
      rw [show j / 12 * 12 + j % 12 = j by omega, hu] at hf
      rw [show o + j / 12 * 12 + j % 12 = o + j by omega, ← hf] at hk
      exact hk
    · intro e he
      obtain ⟨i, hi⟩ := List.getElem?_of_mem he
      exact (hes i e hi).2.2
end
section
set_option linter.unusedVariables false
set_option linter.unusedSimpArgs false
open Go.RowKit Go.Maps Go.WideMaps

theorem wrongRules_each (li : List ByteArray) : ∀ (l : List (Dat × Dat)) (i : Nat), (wrongRules li l i).1 = 0 → ∀ p t, (p, t) ∈ l → wrongRule li p t = 0
  | (q, u) :: r, i, h, p, t, hm => by
    rw [wrongRules] at h
    split at h
    · rename_i e
      rcases List.mem_cons.1 hm with e2 | hm
      · cases e2; exact e
      · exact wrongRules_each li r _ h p t hm
    · rename_i e
      exact absurd h e
theorem wrongM_rule {li : List ByteArray} {ru : List (Dat × Dat)} (h : (wrongM li ru).1 = 0) {p t : Dat} (hm : (p, t) ∈ ru) : wrongRule li p t = 0 := by
  unfold wrongM at h
  split at h
  · simp at h
  · split at h
    · exact wrongRules_each li ru 0 h p t hm
    · simp at h
theorem wrongRule_kids {li : List ByteArray} {p t : Dat} (h : wrongRule li p t = 0) : p.kind = 4 ∧ ∃ x r, p.kids = x :: r := by
  unfold wrongRule at h
  split at h
  · rename_i e
    exact absurd h e
  · split at h
    · simp at h
    · rename_i hk
      refine ⟨by simpa using hk, ?_⟩
      cases hp : p.kids with
      | nil => rw [hp] at h; simp at h
      | cons x r => exact ⟨x, r, rfl⟩

theorem infoRule : (Tryz.prog.info? 43).map (fun i => (i.zero, i.size, i.bytes)) = some (some (.agg #[.int .i64 0, .int .i64 0, .string ⟨#[]⟩, .int .i64 0, .int .i64 0, .slice none 0 0, .int .i64 0, .int .i64 0, .string ⟨#[]⟩, .int .i64 0, .int .i64 0, .slice none 0 0]), 12, 144) := by kernel_rfl
theorem RowR.empty (v : World) : RowR v.heap.size (.slice (some ⟨v.heap.size, 0, none⟩) 0 0) [] (v.alloc (.cells #[] 43)) :=
  ⟨⟨rfl, Or.inr ⟨v.heap.size, 0, #[], rfl, Nat.le_refl _, World.alloc_heap_new v _, Nat.le_refl _, Nat.zero_le _, rfl, rfl⟩⟩, by simp⟩

theorem field_fault (x y : Int) (w : World) : (Instr.field 38 (.agg #[.int .i64 x, .int .i64 y]) 0).run Tryz.prog w = .ok (.int .i64 x) w := by
  simp [Instr.field, run_underlying Tryz.underlying38, go_sem, asAgg]


/-- Values stored one behind the other: in a list, in a block. -/
def setAt : List Value → Nat → List Value → List Value
  | xs, _, [] => xs
  | xs, i, c :: cs => setAt (xs.set i c) (i + 1) cs
def setMany : World → Nat → Nat → List Value → World
  | w, _, _, [] => w
  | w, g, i, c :: cs => setMany (w.setCell ⟨g, i, none⟩ c) g (i + 1) cs
theorem setAt_right (a : List Value) : ∀ (cs b : List Value) (i : Nat), setAt (a ++ b) (a.length + i) cs = a ++ setAt b i cs
  | [], b, i => rfl
  | c :: cs, b, i => by
    rw [setAt, setAt, List.set_append_right _ _ (by omega), show a.length + i - a.length = i by omega, show a.length + i + 1 = a.length + (i + 1) by omega]
    exact setAt_right a cs (b.set i c) (i + 1)
theorem setAt_front : ∀ (cs a b : List Value), cs.length = a.length → setAt (a ++ b) 0 cs = cs ++ b
  | [], [], b, _ => rfl
  | c :: cs, x :: a, b, h => by
    rw [setAt, List.cons_append, List.set_cons_zero]
    have h1 := setAt_right [c] cs (a ++ b) 0
    simp only [List.length_singleton, List.singleton_append, Nat.add_zero] at h1
    rw [Nat.zero_add, h1, setAt_front cs a b (by simpa using h)]
    rfl
theorem flatR_set (e : RE) : ∀ (es : List RE) (k : Nat), k < es.length → setAt (flatR es) (k * 12) e.cells = flatR (es.set k e)
  | x :: r, 0, _ => by
    rw [flatR_cons, Nat.zero_mul, setAt_front _ _ _ (by rw [RE.len, RE.len]), List.set_cons_zero, flatR_cons]
  | x :: r, k + 1, h => by
    have h1 := setAt_right x.cells e.cells (flatR r) (k * 12)
    rw [RE.len] at h1
    rw [flatR_cons, show (k + 1) * 12 = 12 + k * 12 by omega, h1, flatR_set e r k (by simpa using h), List.set_cons_succ, flatR_cons]
theorem ownsRow_many {B n cap g : Nat} {T : TypeId} {size : Nat} : ∀ (cs : List Value) (w : World) (xs : List Value) (i : Nat), w.ownsRow B T size (.slice (some ⟨g, 0, none⟩) n cap) n xs → (setMany w g i cs).ownsRow B T size (.slice (some ⟨g, 0, none⟩) n cap) n (setAt xs i cs)
  | [], w, xs, i, h => h
  | c :: cs, w, xs, i, h => ownsRow_many cs _ _ (i + 1) (h.stored i c).1
theorem setMany_keep {g : Nat} : ∀ (cs : List Value) (w : World) (i : Nat), Keep g w (setMany w g i cs)
  | [], w, i => Keep.refl _ _
  | c :: cs, w, i => ((Keep.refl _ _).setCell _ rfl _).trans (setMany_keep cs _ (i + 1))
/-- A RULE IS STORED. -/
theorem RowR.set {B n cap g : Nat} {es : List RE} {w : World} (h : RowR B (.slice (some ⟨g, 0, none⟩) n cap) es w) (k : Nat) (hk : k < es.length) (hn : n = es.length) (e : RE) (he : ROk (fun b => b < w.heap.size ∧ some b ≠ some g) w e) :
    RowR B (.slice (some ⟨g, 0, none⟩) n cap) (es.set k e) (setMany w g (k * 12) e.cells) := by
  have hke := setMany_keep (g := g) e.cells w (k * 12)
  subst hn
  refine ⟨?_, fun f hf => ?_⟩
  · rw [List.length_set, ← flatR_set e es k hk]
    exact ownsRow_many _ _ _ _ h.own
  · have h1 : ROk (fun b => b < w.heap.size ∧ some b ≠ some g) w f := by
      rcases List.mem_or_eq_of_mem_set hf with hf | rfl
      · exact h.kids f hf
      · exact he
    exact h1.stay (fun k hk => hke.block k hk.1 (by simpa using hk.2)) (fun k hk => ⟨Nat.lt_of_lt_of_le hk.1 hke.size, hk.2⟩)
end
section
set_option linter.unusedVariables false
set_option linter.unusedSimpArgs false
open Go.RowKit Go.Maps Go.WideMaps

theorem Dc.rowC {ok : Nat → Prop} {w : World} {g F : Nat} (es : List (Dat × Option Addr × Nat)) (hc : ∀ q, q < es.length * 6 → w.cell? ⟨g, q, none⟩ = (flat es)[q]?) (hok : ok g) (hl : es.length ≤ 9223372036854775807) (h : ∀ e ∈ es, e.1.name.size ≤ maxLen ∧ e.1.kids.length ≤ e.2.2 ∧ Dc ok w F e.2.1 e.1.kids) : Dc ok w (F + 1) (some ⟨g, 0, none⟩) (es.map (·.1)) := by
  refine ⟨by simpa using hl, Or.inr ⟨g, 0, rfl, hok, fun i d hd => ?_⟩⟩
  rw [List.getElem?_map] at hd
  obtain ⟨e, he, rfl⟩ := Option.map_eq_some_iff.1 hd
  have hm := h e (List.mem_of_getElem? he)
  have hf := flat_atD e es i he
  have hi := (List.getElem?_eq_some_iff.1 he).1
  have hq : ∀ q, q < 6 → w.cell? ⟨g, 0 + i * 6 + q, none⟩ = [Value.int .i64 e.1.kind, .int .i64 e.1.n, .string e.1.name, .int .i64 e.1.stamp, .int .i64 e.1.lib, .slice e.2.1 e.1.kids.length e.2.2][q]? := fun q hq => by
    rw [Nat.zero_add, hc _ (by omega)]
    exact hf q hq
  exact ⟨e.2.1, e.2.2, hq 0 (by decide), hq 1 (by decide), hq 2 (by decide), hq 3 (by decide), hq 4 (by decide), hq 5 (by decide), hm.1, hm.2.1, hm.2.2⟩
theorem own_below {B n size : Nat} {T : TypeId} {v : Value} {xs : List Value} {w w' : World} (h : w.ownsRow B T size v n xs) (hk : Below w.heap.size w w') : w'.ownsRow B T size v n xs :=
  h.kept (row := none) ⟨hk.os, hk.tape, hk.output, hk.size, fun k h1 _ => hk.block k h1⟩ (by cases hv : v.ownBlock <;> simp)

/-- One datum, in a block of its own, before the data of a slice; no block is G. -/
theorem step_beforeX {ops : Array Oper} {o : Oper} {act : Act} {K : Act → World → Prop} {Q : Exit → Act → World → Prop} {E : Prop} (hgd : o.guard = none) (s x : Operand)
    (ho : o.op = .call { callee := .builtin .append, args := #[s, x], argTypes := #[26, 26] })
    {W0 w : World} {N F F2 G : Nat} {d : Dat} {l : List Dat} {a dk : Option Addr} {cap dc : Nat}
    (hs : act.eval s = .slice (some ⟨N, 0, none⟩) 1 1) (hx : act.eval x = .slice a l.length cap)
    (hN : w.heap[N]? = some (.cells #[.int .i64 d.kind, .int .i64 d.n, .string d.name, .int .i64 d.stamp, .int .i64 d.lib, .slice dk d.kids.length dc] 28 (0, 0))) (hdn : d.name.size ≤ maxLen) (hdc : d.kids.length ≤ dc) (hdk : DnX W0 G F2 dk d.kids)
    (h0 : W0.heap.size ≤ N) (hG : G < W0.heap.size) (hS : Below W0.heap.size W0 w) (hd : DnX W0 G F a l) (hl : (l.length + 1) * 72 ≤ 140737488355328)
    (h : ∀ g cap' F' w', l.length + 1 ≤ cap' → DnX w' G F' (some ⟨g, 0, none⟩) (d :: l) → w.grownBy w' (some N) → K (act.put o.dst (.slice (some ⟨g, 0, none⟩) (l.length + 1) cap')) w') :
    if Region.wanted o (yielded ops act.tmps) = true then Oper.wp Tryz.prog o act w K Q else E := by
  have hNl := (Array.getElem?_eq_some_iff.1 hN).1
  have own1 : w.ownsRow W0.heap.size 28 6 (.slice (some ⟨N, 0, none⟩) 1 1) 1 (flat [(d, dk, dc)]) := by
    refine ⟨by simp [flat], Or.inr ⟨N, 1, _, rfl, h0, hN, Nat.le_refl _, by decide, rfl, ?_⟩⟩
    simp [flat]
  obtain ⟨i0, hinf, hz0, hz1, hz2⟩ := info_parts infoDat
  by_cases hl0 : l = []
  · subst hl0
    have hw : Region.wanted o (yielded ops act.tmps) = true := by simp [Region.wanted, hgd]
    rw [if_pos hw]
    have hr : (Builtin.append_ #[26, 26] o.type #[.slice (some ⟨N, 0, none⟩) 1 1, .slice a 0 cap]).run Tryz.prog w = .ok (.slice (some ⟨N, 0, none⟩) 1 1) w := by
      refine run_append_nothing w 26 26 o.type 28 i0 Tryz.underlying26 hinf (some ⟨N, 0, none⟩) 1 1 (Nat.le_refl _) (.slice a 0 cap) ?_
      cases a with
      | none => exact Src.ofNil w Tryz.underlying26 cap
      | some a => exact Src.ofSlice w Tryz.underlying26 a 0 cap [] (by simp) (by simp) (by simp)
    unfold Oper.wp execOp
    simp only [ho, resolve, invoke, builtin, Sem.run_bind, Sem.run_pure, Result.andThen_ok, List.map_toArray, List.map_cons, List.map_nil, hs, hx, List.length_nil, hr]
    refine h N 1 (F2 + 1) w (Nat.le_refl _) ?_ ⟨rfl, rfl, rfl, Nat.le_refl _, fun _ _ _ => rfl⟩
    refine Dc.rowC [(d, dk, dc)] (fun q hq => own1.cellAt q (by simpa using hq)) ⟨hNl, by omega⟩ (by simp) ?_
    intro e he
    simp at he
    subst he
    exact ⟨hdn, hdc, Dc.stay (fun k hk => hS.block k hk.1) (fun k hk => ⟨Nat.lt_of_lt_of_le hk.1 hS.size, hk.2⟩) _ _ _ hdk⟩
  · obtain ⟨f', b, oo, es, rfl, hb, hes, hcell, hall⟩ := hd.dn.ents hl0
    have hlen : es.length = l.length := by rw [← hes, List.length_map]
    have hpos : 0 < l.length := List.length_pos_iff.2 hl0
    have hallX : ∀ e ∈ es, ∃ f, DnX W0 G f e.2.1 e.1.kids := by
      intro e he
      obtain ⟨i, hi⟩ := List.getElem?_of_mem he
      have hli : l[i]? = some e.1 := by rw [← hes, List.getElem?_map, hi]; rfl
      cases F with
      | zero => exact absurd hd hl0
      | succ F =>
        obtain ⟨_, h1 | ⟨b', o', ha', hb', h3⟩⟩ := hd
        · exact absurd h1 hl0
        · simp only [Option.some.injEq, Addr.mk.injEq, and_true] at ha'
          obtain ⟨rfl, rfl⟩ := ha'
          obtain ⟨a2, c2, _, _, _, _, _, z5, _, _, z8⟩ := h3 i e.1 hli
          have hf := flat_atD e es i hi 5 (by decide)
          have hz := hcell (i * 6 + 5) _ (hf.trans (by rfl))
          rw [show oo + (i * 6 + 5) = oo + i * 6 + 5 by omega, z5] at hz
          simp at hz
          obtain ⟨rfl, _⟩ := hz
          exact ⟨F, z8⟩
    refine step_append_lies _ hgd s x 26 ho W0.heap.size 28 i0 _ 6 72 Tryz.underlying26 hinf hz0 hz1 hz2 rfl (by decide) (.slice (some ⟨N, 0, none⟩) 1 1) 1 (flat [(d, dk, dc)]) hs own1 ⟨b, oo, none⟩ l.length cap (flat es) hx (by rw [flat_len, hlen]) ?_ (flat_one es) hpos (by unfold maxLen; omega) (by omega) (by omega) w.heap.size rfl ?_
    · intro j u hu
      have hadd : (⟨b, oo, none⟩ : Addr).add j = ⟨b, oo + j, none⟩ := by unfold Addr.add; split <;> simp_all
      rw [hadd]
      exact (hS.cell (p := ⟨b, oo + j, none⟩) hb).trans (hcell j u hu)
    · intro g cap' w' hown hg hat hlt
      have hgG : g ≠ G := by
        rcases hat with e | e
        · have : N = g := by simpa [Value.ownBlock] using e
          omega
        · omega
      have hst : ∀ f a ds, DnX W0 G f a ds → DnX w' G f a ds := fun f a ds hx => Dc.stay (fun k hk => (hg.block k (Nat.lt_of_lt_of_le hk.1 hS.size) (fun e => by rw [show k = N from (by simpa [Value.ownBlock] using e)] at hk; omega)).trans (hS.block k hk.1)) (fun k hk => ⟨Nat.lt_of_lt_of_le hk.1 (Nat.le_trans hS.size hg.size), hk.2⟩) _ _ _ hx
      have hfu : ∃ FF, ∀ e ∈ (d, dk, dc) :: es, DnX w' G FF e.2.1 e.1.kids := by
        have aux : ∀ (q : List (Dat × Option Addr × Nat)), (∀ e ∈ q, ∃ f, DnX w' G f e.2.1 e.1.kids) → ∃ FF, ∀ e ∈ q, DnX w' G FF e.2.1 e.1.kids := by
          intro q
          induction q with
          | nil => exact fun _ => ⟨0, by simp⟩
          | cons y r ih =>
            intro hx
            obtain ⟨F, hF⟩ := ih (fun e he => hx e (List.mem_cons_of_mem _ he))
            obtain ⟨f, hf⟩ := hx y (by simp)
            refine ⟨f + F, fun e he => ?_⟩
            rcases List.mem_cons.1 he with rfl | he
            · exact Dc.upto hf F
            · have := Dc.upto (hF e he) f
              rwa [Nat.add_comm] at this
        refine aux _ fun e he => ?_
        rcases List.mem_cons.1 he with rfl | he
        · exact ⟨_, hst _ _ _ hdk⟩
        · obtain ⟨f, hf⟩ := hallX e he
          exact ⟨f, hst _ _ _ hf⟩
      obtain ⟨FF, hFF⟩ := hfu
      have hfl : flat [(d, dk, dc)] ++ flat es = flat ((d, dk, dc) :: es) := by simp [flat]
      rw [hfl] at hown
      rw [Nat.add_comm 1 l.length] at hown ⊢
      have hd2 := Dc.rowC (ok := fun b => b < w'.heap.size ∧ b ≠ G) (F := FF) ((d, dk, dc) :: es) (fun q hq => hown.cellAt q (by simpa [hlen] using hq)) ⟨hlt, hgG⟩ (by simp; omega) (fun e he => ⟨by rcases List.mem_cons.1 he with rfl | he; exact hdn; exact (hall e he).1, by rcases List.mem_cons.1 he with rfl | he; exact hdc; exact (hall e he).2.1, hFF e he⟩)
      rw [List.map_cons, hes] at hd2
      obtain ⟨g', c', cur, hv, _, _, hnc, _⟩ := hown.2.resolve_left (by simp)
      simp at hv
      exact h g cap' (FF + 1) w' (by rw [hv.2]; exact hnc) hd2 hg
end
section
set_option linter.unusedVariables false
set_option linter.unusedSimpArgs false
open Go.RowKit Go.Maps Go.WideMaps

theorem RowR.slice {B : Nat} {v : Value} {es : List RE} {w : World} (h : RowR B v es w) : ∃ a cap, v = .slice a es.length cap ∧ es.length ≤ cap := by
  rcases h.own.2 with ⟨rfl, h0⟩ | ⟨g, cap, cur, rfl, hbg, hg, hnc, hcm, hcs, htake⟩
  · exact ⟨none, 0, by rw [h0], by rw [h0]; exact Nat.le_refl _⟩
  · exact ⟨some ⟨g, 0, none⟩, cap, rfl, hnc⟩
theorem RowR.fresh (B : Nat) (v : World) (hB : B ≤ v.heap.size) : RowR B (.slice (some ⟨v.heap.size, 0, none⟩) 0 0) [] (v.alloc (.cells #[] 43)) :=
  ⟨⟨rfl, Or.inr ⟨v.heap.size, 0, #[], rfl, hB, World.alloc_heap_new v _, Nat.le_refl _, Nat.zero_le _, rfl, rfl⟩⟩, by simp⟩

/-- RULES ARE APPENDED, be there none or many. -/
theorem run_rules {w : World} (ty : TypeId) (B : Nat) (v : Value) (es : List RE) (hv : RowR B v es w)
    (W0 : World) (f : Nat) (ra : Option Addr) (c : Nat) (l : List (Dat × Dat)) (hr : Rn W0 f ra l) (hb : Below W0.heap.size W0 w) (hB : W0.heap.size ≤ B) (hBw : B ≤ w.heap.size)
    (hl : (es.length + l.length) * 144 ≤ 140737488355328) :
    ∃ v' w' fs, (Builtin.append_ #[23, 23] ty #[v, .slice ra l.length c]).run Tryz.prog w = .ok v' w' ∧ fs.map RE.rule = l ∧ RowR B v' (es ++ fs) w' ∧ w.grownBy w' v.ownBlock ∧ (v'.ownBlock = v.ownBlock ∨ v'.ownBlock = some w.heap.size) ∧ ∀ e ∈ fs, ROk (fun b => b < W0.heap.size) W0 e := by
  obtain ⟨i0, hinf, hz0, hz1, hz2⟩ := info_parts infoRule
  by_cases hl0 : l = []
  · subst hl0
    obtain ⟨va, vc, rfl, hvc⟩ := hv.slice
    have hr2 : (Builtin.append_ #[23, 23] ty #[.slice va es.length vc, .slice ra 0 c]).run Tryz.prog w = .ok (.slice va es.length vc) w := by
      refine run_append_nothing w 23 23 ty 43 i0 Tryz.underlying23 hinf va es.length vc hvc (.slice ra 0 c) ?_
      cases ra with
      | none => exact Src.ofNil w Tryz.underlying23 c
      | some a => exact Src.ofSlice w Tryz.underlying23 a 0 c [] (by simp) (by simp) (by simp)
    exact ⟨_, _, [], hr2, rfl, by rw [List.append_nil]; exact hv, ⟨rfl, rfl, rfl, Nat.le_refl _, fun _ _ _ => rfl⟩, Or.inl rfl, by simp⟩
  · obtain ⟨b, oo, fs, rfl, hbb, hfs, hcl, hok⟩ := Rn.ents hr hl0
    have hfl : fs.length = l.length := by rw [← hfs, List.length_map]
    have hne : ∀ k, k < W0.heap.size → some k ≠ v.ownBlock := fun k hk e => by
      have := (hv.own.lt k e.symm).1
      omega
    obtain ⟨v', w', hr3, h2, h3, h4⟩ := run_append_where (P := Tryz.prog) w B 23 ty 43 i0 _ 12 144 Tryz.underlying23 hinf hz0 hz1 hz2 rfl (by decide) v es.length (flatR es) hv.own ⟨b, oo, none⟩ l.length c (flatR fs) (by rw [flatR_len, hfl]) (by
      intro j u hu
      have hadd : (⟨b, oo, none⟩ : Addr).add j = ⟨b, oo + j, none⟩ := by unfold Addr.add; split <;> simp_all
      rw [hadd]
      exact (hb.cell (p := ⟨b, oo + j, none⟩) hbb).trans (hcl j u hu)) (flatR_one fs) (List.length_pos_iff.2 hl0) (by unfold maxLen; omega) hl hBw
    exact ⟨v', w', fs, hr3, hfs, hv.more (fun e he => (hok e he).stay (fun k hk => hb.block k hk) (fun k hk => ⟨Nat.lt_of_lt_of_le hk hb.size, hne k hk⟩)) (by rw [hfl]; exact h2) h3 h4, h3, h4, hok⟩

/-- A row of rules, and a box of a rule set beside it, once there is one. -/
structure KR (B : Nat) (K : Option Nat) (v : Value) (es : List RE) (w : World) : Prop where
  row : RowR B v es w
  box : ∀ k, K = some k → w.heap[k]? = some (.cells #[.slice none 0 0, .slice none 0 0] 25 (0, 0)) ∧ B ≤ k ∧ v.ownBlock ≠ some k
  kids : ∀ e ∈ es, ROk (fun b => b < B) w e
theorem KR.start (B : Nat) (w : World) : KR B none (.slice none 0 0) [] w := ⟨⟨World.ownsRow_nil _ _ _ _, by simp⟩, by simp, by simp⟩
theorem KR.alloc {B : Nat} {v : Value} {es : List RE} {w : World} (h : KR B none v es w) (hB : B ≤ w.heap.size) : KR B (some w.heap.size) v es (w.alloc (.cells #[.slice none 0 0, .slice none 0 0] 25)) := by
  refine ⟨h.row.below ((Below.refl _ _).alloc (Nat.le_refl _) _), fun k hk => ?_, fun e he => (h.kids e he).stay (fun b hb => Below.heap_alloc _ _ _ (Nat.lt_of_lt_of_le hb hB)) (fun _ hb => hb)⟩
  obtain rfl := Option.some.inj hk
  refine ⟨World.alloc_heap_new w _, hB, fun e => ?_⟩
  have := (h.row.own.lt _ e).2
  omega
theorem KR.fresh {B : Nat} {K : Option Nat} {v : Value} {es : List RE} {w : World} (h : KR B K v es w) (hB : B ≤ w.heap.size) : KR B K (.slice (some ⟨w.heap.size, 0, none⟩) 0 0) [] (w.alloc (.cells #[] 43)) := by
  refine ⟨RowR.fresh B w hB, fun k hk => ?_, by simp⟩
  obtain ⟨h1, h2, h3⟩ := h.box k hk
  have hlt := (Array.getElem?_eq_some_iff.1 h1).1
  refine ⟨(Below.heap_alloc _ _ _ hlt).trans h1, h2, fun e => ?_⟩
  have : w.heap.size = k := by simpa [Value.ownBlock] using e
  omega
theorem step_rules {ops : Array Oper} {o : Oper} {act : Act} {K : Act → World → Prop} {Q : Exit → Act → World → Prop} {E : Prop} (hgd : o.guard = none) (s x : Operand)
    (ho : o.op = .call { callee := .builtin .append, args := #[s, x], argTypes := #[23, 23] })
    {B : Nat} {KB : Option Nat} {v : Value} {es : List RE} {w : World} (hs : act.eval s = v) (hv : KR B KB v es w)
    (W0 : World) (f : Nat) (ra : Option Addr) (c : Nat) (l : List (Dat × Dat)) (hx : act.eval x = .slice ra l.length c) (hr : Rn W0 f ra l) (hb : Below W0.heap.size W0 w) (hB : W0.heap.size ≤ B) (hBw : B ≤ w.heap.size)
    (hl : (es.length + l.length) * 144 ≤ 140737488355328)
    (h : ∀ v' w' fs, fs.map RE.rule = l → KR B KB v' (es ++ fs) w' → Below B w w' → K (act.put o.dst v') w') :
    if Region.wanted o (yielded ops act.tmps) = true then Oper.wp Tryz.prog o act w K Q else E := by
  have hw : Region.wanted o (yielded ops act.tmps) = true := by simp [Region.wanted, hgd]
  rw [if_pos hw]
  obtain ⟨v', w', fs, hrun, hfs, hrow, hg, hat, hok⟩ := run_rules o.type B v es hv.row W0 f ra c l hr hb hB hBw hl
  unfold Oper.wp execOp
  simp only [ho, resolve, invoke, builtin, Sem.run_bind, Sem.run_pure, Result.andThen_ok, List.map_toArray, List.map_cons, List.map_nil, hs, hx, hrun]
  refine h v' w' fs hfs ⟨hrow, fun k hk => ?_, fun e he => ?_⟩ ((Below.refl B w).grown hg hBw (fun k hk => (hv.row.own.lt k hk).1))
  · obtain ⟨h1, h2, h3⟩ := hv.box k hk
    have hlt := (Array.getElem?_eq_some_iff.1 h1).1
    refine ⟨(hg.block k hlt (fun e => h3 e.symm)).trans h1, h2, fun e => ?_⟩
    rcases hat with e2 | e2
    · exact h3 (e2.symm.trans e)
    · rw [e2] at e
      have := Option.some.inj e
      omega
  · have hst : ∀ k, k < B → w'.heap[k]? = w.heap[k]? := fun k hk => hg.block k (Nat.lt_of_lt_of_le hk hBw) (fun e => by have := (hv.row.own.lt k e.symm).1; omega)
    rcases List.mem_append.1 he with he | he
    · exact (hv.kids e he).stay (fun k hk => hst k hk) (fun _ hb => hb)
    · exact (hok e he).stay (fun k hk => (hst k (Nat.lt_of_lt_of_le hk hB)).trans (hb.block k hk)) (fun _ hb => Nat.lt_of_lt_of_le hb hB)
/-- The box is filled. -/
def fillK (w : World) (k : Nat) (u u' : Value) : World := (w.setCell ⟨k, 0, none⟩ u).setCell ⟨k, 1, none⟩ u'
theorem fillK_keep (w : World) (k : Nat) (u u' : Value) : Keep k w (fillK w k u u') := Keep.trans ((Keep.refl k w).setCell ⟨k, 0, none⟩ rfl u) ((Keep.refl k (w.setCell ⟨k, 0, none⟩ u)).setCell ⟨k, 1, none⟩ rfl u')
theorem fillK_0 {w : World} {k : Nat} (h1 : w.heap[k]? = some (.cells #[.slice none 0 0, .slice none 0 0] 25 (0, 0))) (u u' : Value) : (fillK w k u u').cell? ⟨k, 0, none⟩ = some u := by
  have c0 : w.cell? ⟨k, 0, none⟩ = some (.slice none 0 0) := by simp [World.cell?, h1]
  have c1 : w.cell? ⟨k, 1, none⟩ = some (.slice none 0 0) := by simp [World.cell?, h1]
  unfold fillK
  go_simp
theorem fillK_1 {w : World} {k : Nat} (h1 : w.heap[k]? = some (.cells #[.slice none 0 0, .slice none 0 0] 25 (0, 0))) (u u' : Value) : (fillK w k u u').cell? ⟨k, 1, none⟩ = some u' := by
  have c0 : w.cell? ⟨k, 0, none⟩ = some (.slice none 0 0) := by simp [World.cell?, h1]
  have c1 : w.cell? ⟨k, 1, none⟩ = some (.slice none 0 0) := by simp [World.cell?, h1]
  unfold fillK
  go_simp
theorem KR.fill {B k : Nat} {v : Value} {es : List RE} {w : World} (h : KR B (some k) v es w) (u u' : Value) (hB : B ≤ w.heap.size) :
    RowR B v es (fillK w k u u') ∧ Below B w (fillK w k u u') ∧ (fillK w k u u').cell? ⟨k, 0, none⟩ = some u ∧ (fillK w k u u').cell? ⟨k, 1, none⟩ = some u' ∧ k < (fillK w k u u').heap.size := by
  obtain ⟨h1, h2, h3⟩ := h.box k rfl
  have hke := fillK_keep w k u u'
  have hlt := (Array.getElem?_eq_some_iff.1 h1).1
  refine ⟨⟨h.row.own.kept hke (Or.inr h3), fun e he => ?_⟩, hke.toBelow h2 hB, fillK_0 h1 u u', fillK_1 h1 u u', Nat.lt_of_lt_of_le hlt hke.size⟩
  refine (h.kids e he).stay (fun b hb => hke.block b (Nat.lt_of_lt_of_le hb hB) (by simp; omega)) (fun b hb => ⟨Nat.lt_of_lt_of_le hb (Nat.le_trans hB hke.size), fun e2 => ?_⟩)
  have := (h.row.own.lt b e2.symm).1
  omega
end
end Go.Proofs.YtgeedaabdonjcaeGreatDoor
