/- The document's own answer: Reaches. -/
import Derived.Test.YtilcongilokppadQa
namespace Go.Proofs.Ytilcongilokppad
set_option linter.unusedVariables false
set_option linter.unusedSimpArgs false
open Go.RowKit Go.Maps Go.WideMaps

theorem costB_eq (l : List Nd) : costB l = cost l := by
  unfold costB cost
  rw [List.length_flatMap]

theorem run_append_win (w : World) (ty : TypeId) (g o n cap ab : Nat) (cur : Array Value) (y : ByteArray) (hg : w.heap[g]? = some (.cells cur 9 (0, 0))) (hy : w.cell? ⟨ab, 0, none⟩ = some (.string y)) (hroom : n + 1 ≤ cap) (hfit : o + n + 1 ≤ cur.size) :
    (Builtin.append_ #[23, 23] ty #[.slice (some ⟨g, o, none⟩) n cap, .slice (some ⟨ab, 0, none⟩) 1 1]).run Try.prog w = .ok (.slice (some ⟨g, o, none⟩) (n + 1) cap) (w.setRow g (cur.toList.take (o + n) ++ [Value.string y] ++ cur.toList.drop (o + n + 1)).toArray) := by
  obtain ⟨i0, hinf, hz0, hz1, hz2⟩ := info_parts infoStr
  have hnews : ∀ (j : Nat) (u : Value), [Value.string y][j]? = some u → w.cell? ((⟨ab, 0, none⟩ : Addr).add j) = some u := by
    intro j u hu
    match j, hu with
    | 0, hu =>
      cases hu
      simpa [add_at] using hy
  have hf := run_firstCells_some (P := Try.prog) w i0.size 1 ⟨ab, 0, none⟩ 1 1 [.string y] (by rw [hz1]; rfl) hnews
  have hst := run_storeCells_at Try.prog g (o + n * i0.size) 9 [.string y] 0 cur w hg (by rw [hz1]; simpa using hfit) (by simp [Value.oneCell'])
  simp only [Nat.add_zero] at hst
  rw [hz1] at hst hf
  simp only [Nat.mul_one, List.length_singleton] at hst
  simp [Builtin.append_, run_underlying Try.underlying23, sizeOf, typeInfo, hinf, hz1, Builtin.lenOf, hroom, hf, Addr.add_lit, hst]

theorem win_take {cur : Array Value} {o n : Nat} {y : Value} (h : o + n + 1 ≤ cur.size) (i : Nat) : (cur.toList.take (o + n) ++ [y] ++ cur.toList.drop (o + n + 1)).toArray[i]? = if i = o + n then some y else cur[i]? := by
  have hl : (cur.toList.take (o + n)).length = o + n := by simp; omega
  simp only [List.getElem?_toArray]
  by_cases h1 : i < o + n
  · rw [if_neg (by omega), List.append_assoc, List.getElem?_append_left (by omega), List.getElem?_take_of_lt h1]
    simp
  · by_cases h2 : i = o + n
    · subst h2
      rw [if_pos rfl, List.append_assoc, List.getElem?_append_right (by omega), hl]
      simp
    · rw [if_neg h2, List.append_assoc, List.getElem?_append_right (by omega), hl, List.getElem?_append_right (by simp; omega)]
      simp only [List.length_singleton, List.getElem?_drop]
      rw [show o + n + 1 + (i - (o + n) - 1) = i by omega]
      simp

/-- One text more behind a row that is taken from its front. -/
theorem wpList_pushW {ops : Array Oper} {rest : List Oper} {o' : Oper} {a : Act} {Q : Exit → Act → World → Prop} {w0 : World} (y : ByteArray) (ab : Nat) (hgd : o'.guard = none) (s x : Operand)
    (ho : o'.op = .call { callee := .builtin .append, args := #[s, x], argTypes := #[23, 23] }) (B : Nat) (v : Value) (l : List ByteArray) (hs : a.eval s = v) (hwin : Win B v l w0)
    (hx : a.eval x = .slice (some ⟨ab, 0, none⟩) 1 1) (hab : ab = w0.heap.size) (hB : B ≤ w0.heap.size) (hlen : l.length ≤ 2097152)
    (h : ∀ g o cap w', Win B (.slice (some ⟨g, o, none⟩) (l.length + 1) cap) (l ++ [y]) w' → w0.grownBy w' (blockOf v) → (blockOf v = some g ∨ w0.heap.size < g) → wpList Try.prog ops Q rest (a.put o'.dst (.slice (some ⟨g, o, none⟩) (l.length + 1) cap)) w') :
    wpList Try.prog ops Q (o' :: rest) a (w0.alloc (.cells #[.string y] 9)) := by
  subst hab
  obtain ⟨g, o, cap, cur, rfl, h1, h2, h3, h4, h5, h6⟩ := hwin
  have hgl := (Array.getElem?_eq_some_iff.1 h2).1
  have hg2 : (w0.alloc (.cells #[.string y] 9)).heap[g]? = some (.cells cur 9 (0, 0)) := (Below.heap_alloc w0 _ g hgl).trans h2
  have hy : (w0.alloc (.cells #[.string y] 9)).cell? ⟨w0.heap.size, 0, none⟩ = some (.string y) := by simp [go_sem]
  refine wpList_plain hgd fun _ hK => ?_
  by_cases hroom : l.length + 1 ≤ cap
  · have hr := run_append_win _ o'.type g o l.length cap w0.heap.size cur y hg2 hy hroom (by omega)
    unfold Oper.wp execOp
    simp only [ho, resolve, invoke, builtin, Sem.run_bind, Sem.run_pure, Result.andThen_ok, List.map_toArray, List.map_cons, List.map_nil, hs, hx, hr]
    have hset := setRow_heap (w0.alloc (.cells #[.string y] 9)) g cur (cur.toList.take (o + l.length) ++ [Value.string y] ++ cur.toList.drop (o + l.length + 1)).toArray 9 (0, 0) hg2
    refine hK _ _ (h g o cap _ ⟨g, o, cap, _, by simp, h1, hset, by simpa using hroom, h4, ?_, fun i s hi => ?_⟩ ⟨rfl, rfl, rfl, by simp, fun k hk hne => ?_⟩ (Or.inl rfl))
    · simp
      omega
    · rw [win_take (by omega)]
      by_cases hi2 : i < l.length
      · rw [if_neg (by omega)]
        rw [List.getElem?_append_left hi2] at hi
        exact h6 i s hi
      · have hil := (List.getElem?_eq_some_iff.1 hi).1
        simp at hil
        obtain rfl : i = l.length := by omega
        rw [if_pos rfl]
        simp at hi
        rw [hi]
    · rw [setRow_other _ _ _ _ (fun e => hne (by rw [e]; rfl))]
      exact Below.heap_alloc w0 _ k hk
  · obtain ⟨i0, hinf, hz0, hz1, hz2⟩ := info_parts infoStr
    have hnews : ∀ (j : Nat) (u : Value), [Value.string y][j]? = some u → (w0.alloc (.cells #[.string y] 9)).cell? ((⟨w0.heap.size, 0, none⟩ : Addr).add j) = some u := by
      intro j u hu
      match j, hu with
      | 0, hu =>
        cases hu
        simp [add_at, hy]
    have holds : ∀ (j : Nat) (u : Value), (l.map Value.string)[j]? = some u → (w0.alloc (.cells #[.string y] 9)).cell? ((⟨g, o, none⟩ : Addr).add j) = some u := by
      intro j u hu
      rw [Addr.add_lit]
      rw [List.getElem?_map] at hu
      cases hj : l[j]? with
      | none => simp [hj] at hu
      | some s =>
        simp [hj] at hu
        subst hu
        simp only [World.cell?, hg2]
        simpa using h6 j s hj
    have hr := run_append_grow (P := Try.prog) (w0.alloc (.cells #[.string y] 9)) 23 o'.type 9 i0 _ Try.underlying23 hinf hz0 ⟨g, o, none⟩ l.length cap (l.map Value.string) (by rw [hz1]; simp) holds ⟨w0.heap.size, 0, none⟩ 1 1 [.string y] (by rw [hz1]; rfl) hnews (by omega) (by omega) (growslice_fits (by omega) (by rw [hz2]; omega))
    unfold Oper.wp execOp
    simp only [ho, resolve, invoke, builtin, Sem.run_bind, Sem.run_pure, Result.andThen_ok, List.map_toArray, List.map_cons, List.map_nil, hs, hx, hr]
    have hge := grownCap_ge (w0.alloc (.cells #[.string y] 9)) (l.length + 1) cap 9
    obtain ⟨nc, hnc⟩ : ∃ nc, nc = grownCap (w0.alloc (.cells #[.string y] 9)) (l.length + 1) cap 9 := ⟨_, rfl⟩
    have hle : nc ≤ maxLen := by rw [hnc]; exact grownCap_le_maxLen _ _ _ _ (by unfold maxLen; omega)
    rw [← hnc] at hge ⊢
    refine hK _ _ (h _ 0 _ _ ⟨_, 0, nc, _, by simp, ?_, heap_alloc_new _ _, by simpa using hge, hle, ?_, fun i s hi => ?_⟩ ⟨rfl, rfl, rfl, by simp [World.drew]; omega, fun k hk hne => ?_⟩ (Or.inr (by simp [World.drew])))
    · simp [World.drew]
      omega
    · have hc : (Value.string ⟨#[]⟩).cells.size = 1 := rfl
      simp [Builtin.zeroCells, hc]
      omega
    · rw [Nat.zero_add, List.append_toArray, ← Array.getElem?_toList, Array.toList_append]
      have hil := (List.getElem?_eq_some_iff.1 hi).1
      rw [List.getElem?_append_left (by simpa using hil)]
      have : (l.map Value.string ++ [Value.string y]) = (l ++ [y]).map Value.string := by simp
      simp only [List.toList_toArray]
      rw [this, List.getElem?_map, hi]
      rfl
    · exact (Below.heap_alloc _ _ k (by simp [World.drew]; omega)).trans (Below.heap_alloc w0 _ k hk)
end Go.Proofs.Ytilcongilokppad
