/- Chapter 5's laws: one datum before others. -/
import Derived.Deep.Upon
import Derived.Test.YtceapbliljiplaeGreatDoorK47
namespace Go.Proofs.YtceapbliljiplaeGreatDoor
set_option linter.unusedVariables false
set_option linter.unusedSimpArgs false
open Go.RowKit Go.Maps Go.WideMaps

theorem flat_one (es : List (Dat × Option Addr × Nat)) : ∀ u ∈ flat es, u.oneCell' = true := by
  intro u hu
  unfold flat at hu
  obtain ⟨e, _, hu⟩ := List.mem_flatMap.1 hu
  simp at hu
  rcases hu with rfl | rfl | rfl | rfl | rfl | rfl <;> rfl

/-- One datum, in a block of its own, before the data of a slice of W0. -/
theorem step_before {ops : Array Oper} {o : Oper} {act : Act} {K : Act → World → Prop} {Q : Exit → Act → World → Prop} {E : Prop} (hgd : o.guard = none) (s x : Operand)
    (ho : o.op = .call { callee := .builtin .append, args := #[s, x], argTypes := #[26, 26] })
    {W0 w : World} {N F : Nat} {d : Dat} {l : List Dat} {a : Option Addr} {cap : Nat}
    (hs : act.eval s = .slice (some ⟨N, 0, none⟩) 1 1) (hx : act.eval x = .slice a l.length cap)
    (hN : w.heap[N]? = some (.cells #[.int .i64 d.kind, .int .i64 d.n, .string d.name, .int .i64 d.stamp, .int .i64 d.lib, .slice none 0 0] 28 (0, 0))) (hd0 : d.kids = []) (hdn : d.name.size ≤ maxLen)
    (h0 : W0.heap.size ≤ N) (hS : Below W0.heap.size W0 w) (hd : Dn W0 F a l) (hl : l.length * 72 ≤ reachBytes)
    (h : ∀ g cap' F' w', l.length + 1 ≤ cap' → Dn w' F' (some ⟨g, 0, none⟩) (d :: l) → w.grownBy w' (some N) → K (act.put o.dst (.slice (some ⟨g, 0, none⟩) (l.length + 1) cap')) w') :
    if Region.wanted o (yielded ops act.tmps) = true then Oper.wp Tryz.prog o act w K Q else E := by
  have hNl := (Array.getElem?_eq_some_iff.1 hN).1
  have hrb : reachBytes < 140737488355328 - 4000 := by unfold reachBytes; decide
  have own1 : w.ownsRow W0.heap.size 28 6 (.slice (some ⟨N, 0, none⟩) 1 1) 1 (flat [(d, none, 0)]) := by
    refine ⟨by simp [flat], Or.inr ⟨N, 1, _, rfl, h0, hN, Nat.le_refl _, by decide, rfl, ?_⟩⟩
    simp [flat, hd0]
  have row1 : RowD W0.heap.size (.slice (some ⟨N, 0, none⟩) 1 1) [(d, none, 0)] w := ⟨own1, by
    intro e he
    simp at he
    subst he
    exact ⟨hdn, by simp [hd0], 0, hd0⟩⟩
  obtain ⟨i0, hinf, hz0, hz1, hz2⟩ := info_parts infoDat
  by_cases hl0 : l = []
  · subst hl0
    have hw : Region.wanted o (yielded ops act.tmps) = true := by simp [Region.wanted, hgd]
    rw [if_pos hw]
    have hr : (Builtin.append_ #[26, 26] o.type #[.slice (some ⟨N, 0, none⟩) 1 1, .slice a 0 cap]).run Tryz.prog w = .ok (.slice (some ⟨N, 0, none⟩) 1 1) w := by
      refine run_append_nothing w 26 26 o.type 28 i0 Tryz.underlying26 hinf (some ⟨N, 0, none⟩) 1 1 (Nat.le_refl _) (.slice a 0 cap) ?_
      cases a with
      | none => exact Src.ofNil w Tryz.underlying26 cap
      | some a => exact Src.ofSlice w Tryz.underlying26 a 0 cap [] (by simp) (by simp) (by simp)
    unfold Oper.wp execOp
    simp only [ho, resolve, invoke, builtin, Sem.run_bind, Sem.run_pure, Result.andThen_ok, List.map_toArray, List.map_cons, List.map_nil, hs, hx, List.length_nil, hr]
    obtain ⟨a', cap', f', hv, hc', hdd⟩ := row1.lie (by simp)
    simp at hv
    obtain ⟨rfl, rfl⟩ := hv
    exact h N 1 f' w (Nat.le_refl _) hdd ⟨rfl, rfl, rfl, Nat.le_refl _, fun _ _ _ => rfl⟩
  · obtain ⟨f', b, oo, es, rfl, hb, hes, hcell, hall⟩ := hd.ents hl0
    have hlen : es.length = l.length := by rw [← hes, List.length_map]
    have hpos : 0 < l.length := List.length_pos_iff.2 hl0
    refine step_append_lies _ hgd s x 26 ho W0.heap.size 28 i0 _ 6 72 Tryz.underlying26 hinf hz0 hz1 hz2 rfl (by decide) (.slice (some ⟨N, 0, none⟩) 1 1) 1 (flat [(d, none, 0)]) hs own1 ⟨b, oo, none⟩ l.length cap (flat es) hx (by rw [flat_len, hlen]) ?_ (flat_one es) hpos (by unfold maxLen; omega) (by omega) (by omega) w.heap.size rfl ?_
    · intro j u hu
      have hadd : (⟨b, oo, none⟩ : Addr).add j = ⟨b, oo + j, none⟩ := by unfold Addr.add; split <;> simp_all
      rw [hadd]
      exact (hS.cell (p := ⟨b, oo + j, none⟩) hb).trans (hcell j u hu)
    · intro g cap' w' hown hg hat hlt
      have row2 : RowD W0.heap.size (.slice (some ⟨g, 0, none⟩) (1 + l.length) cap') ([(d, none, 0)] ++ es) w' := by
        refine row1.more (Below.refl _ _) ?_ (by rw [hlen]; exact hown) hg ?_
        · intro e he
          obtain ⟨h1, h2, h3⟩ := hall e he
          refine ⟨h1, h2, f', Dc.stay (fun k hk => hS.block k hk) (fun k hk => ⟨Nat.lt_of_lt_of_le hk hS.size, fun e => ?_⟩) _ _ _ h3⟩
          have := Option.some.inj e
          simp only at this
          omega
        · rcases hat with e | e
          · exact Or.inl e.symm
          · exact Or.inr (by rw [e]; rfl)
      obtain ⟨a', cap2, f2, hv, hc', hdd⟩ := row2.lie (by simp; omega)
      rw [List.map_append, hes] at hv hc' hdd
      simp at hv
      obtain ⟨rfl, _, rfl⟩ := hv
      rw [Nat.add_comm 1 l.length]
      refine h g cap' f2 w' ?_ hdd hg
      simp at hc'
      omega
end Go.Proofs.YtceapbliljiplaeGreatDoor
