/- Texts sorted; names that need others in memory. -/
import Derived.Test.YtilcongilokppadLa
import Derived.Test.YtilcongilokppadGe
import Derived.Test.YtilcongilokppadShelfA
namespace Go.Proofs.Ytilcongilokppad
set_option linter.unusedVariables false
set_option linter.unusedSimpArgs false
open Go.RowKit Go.Sort

theorem cb_lt : ∀ a b : List UInt8, Lib.compareBytes a b < 0 → a < b
  | [], [], h => by simp [Lib.compareBytes] at h
  | [], _ :: _, _ => List.Lex.nil
  | _ :: _, [], h => by simp [Lib.compareBytes] at h
  | x :: a, y :: b, h => by
    unfold Lib.compareBytes at h
    by_cases h1 : x < y
    · exact List.Lex.rel h1
    · by_cases h2 : y < x
      · simp [h1, h2] at h
      · simp [h1, h2] at h
        have e : x = y := UInt8.le_antisymm (UInt8.not_lt.1 h2) (UInt8.not_lt.1 h1)
        subst e
        exact List.Lex.cons (cb_lt a b h)
theorem ltB_not_le {a b : ByteArray} (h : a.data.toList ≤ b.data.toList) : ltB b a = false := by
  cases e : ltB b a with
  | false => rfl
  | true =>
    have h1 : Lib.compareBytes b.data.toList a.data.toList < 0 := of_decide_eq_true e
    exact absurd (cb_lt _ _ h1) h

theorem sorted_le (l : List (List UInt8)) : (l.mergeSort fun x y => decide (x ≤ y)).Pairwise fun x y => x ≤ y := by
  have := List.pairwise_mergeSort (le := fun x y : List UInt8 => decide (x ≤ y)) (fun a b c h1 h2 => by simp at h1 h2 ⊢; exact List.le_trans h1 h2) (fun a b => by simp; exact List.le_total a b) l
  exact this.imp fun h => by simpa using h

set_option maxRecDepth 100000 in
theorem sortS_any (B : Nat) (v : Value) (l : List ByteArray) (w : World) (hr : RowS B v l w) (hl : l.length ≤ 1048576) (hs : ∀ s ∈ l, s.size ≤ maxLen) :
    Calls Try.prog 21 #[v] w fun e w' => e = .returned (.tuple #[]) ∧ Below B w w' ∧ ∃ a cap S, v = .slice a l.length cap ∧ S.Perm l ∧ (S.Pairwise fun x y => ltB y x = false) ∧ Strs w'.heap.size w' a S := by
  rcases hr.2 with ⟨rfl, h0⟩ | ⟨g, cap, cur, rfl, hbg, hg, hnc, hcm, hcs, htake⟩
  · have : l = [] := List.length_eq_zero_iff.1 h0
    subst this
    refine (Try.slices_Sort_string_none none 0 w).mono ?_
    rintro e w' ⟨rfl, rfl⟩
    exact ⟨rfl, Below.refl _ _, none, 0, [], rfl, List.Perm.refl _, List.Pairwise.nil, Strs.nil _ _ _⟩
  · have hlt : g < w.heap.size := (Array.getElem?_eq_some_iff.1 hg).1
    have henc : ∀ s : ByteArray, encStr s.data.toList = .string s := fun s => rfl
    have hH : Holds encStr w g 0 (l.map fun s => s.data.toList).toArray := by
      intro j hj
      simp at hj
      have h1 := hr.cells (g := g) rfl j (.string l[j]) (by simp [List.getElem?_map, hj])
      rw [add_at] at h1
      rw [Nat.zero_add, getElem!_pos _ j (by simpa using hj)]
      refine ⟨by rw [h1]; simp, by simp [World.frozen?, hg]⟩
    have hcon := Try.slices_Sort_string g 0 cap (l.map fun s => s.data.toList) w hH hlt (by simp; omega)
    simp only [List.length_map] at hcon
    refine hcon.mono ?_
    rintro e w' ⟨rfl, n, os, rfl⟩
    obtain ⟨T, hT⟩ : ∃ T, (l.map fun s => s.data.toList).mergeSort (fun x y => decide (x ≤ y)) = T := ⟨_, rfl⟩
    have hperm : T.Perm (l.map fun s => s.data.toList) := hT ▸ List.mergeSort_perm _ _
    have hpw : T.Pairwise fun x y => x ≤ y := hT ▸ sorted_le _
    rw [hT]
    have hTl : T.length = l.length := by simpa using hperm.length_eq
    have hsz : (putRow encStr (Sort.ahead w n) g 0 T.toArray).heap.size = w.heap.size := by simp [putRow, mapBlock, Sort.ahead]
    have hbel : Below B w (grow (putRow encStr (Sort.ahead w n) g 0 T.toArray) os) := by
      refine ⟨rfl, rfl, rfl, ?_, fun j hj => ?_⟩
      · rw [size_grow, hsz]
        omega
      · rw [heap_grow_old _ _ (by rw [hsz]; omega)]
        show (mapBlock (Sort.ahead w n) g _).heap[j]? = _
        unfold mapBlock
        simp only [Array.getElem?_modify]
        rw [if_neg (by omega)]
        rfl
    refine ⟨rfl, hbel, some ⟨g, 0, none⟩, cap, T.map fun x => ⟨x.toArray⟩, rfl, ?_, ?_, ?_, ?_, Or.inr ⟨g, 0, rfl, Nat.lt_of_lt_of_le hlt hbel.size, ?_⟩⟩
    · have := hperm.map (fun x : List UInt8 => (⟨x.toArray⟩ : ByteArray))
      rw [List.map_map] at this
      simpa [Function.comp_def] using this
    · rw [List.pairwise_map]
      exact hpw.imp fun h => ltB_not_le (by simpa using h)
    · simp
      omega
    · intro s hs'
      refine hs s ?_
      have := (hperm.map (fun x : List UInt8 => (⟨x.toArray⟩ : ByteArray))).mem_iff.1 hs'
      rw [List.map_map] at this
      simpa [Function.comp_def] using this
    · intro i s hi
      rw [List.getElem?_map] at hi
      cases hx : T[i]? with
      | none => simp [hx] at hi
      | some x =>
        simp [hx] at hi
        subst hi
        have hil := (List.getElem?_eq_some_iff.1 hx).1
        have hHa : Holds encStr (Sort.ahead w n) g 0 (l.map fun s : ByteArray => s.data.toList).toArray := hH
        have hHr := holds_putRow encStr (Sort.ahead w n) g 0 _ T.toArray hHa (by simp [hTl])
        have c1 := (hHr i (by simpa using hil)).1
        have e1 : T.toArray[i]! = x := by
          rw [getElem!_pos T.toArray i (by simpa using hil)]
          simpa using (List.getElem?_eq_some_iff.1 hx).2
        rw [e1] at c1
        exact (World.cell?_of_block (a := ⟨g, 0 + i, none⟩) (heap_grow_old _ _ (by rw [hsz]; exact hlt))).trans c1

/-- Names that need others lie behind a, in blocks below B. -/
def Nds (B : Nat) (w : World) (a : Option Addr) (l : List Nd) : Prop :=
  l.length ≤ 1048576 ∧ (∀ nd ∈ l, nd.name.size ≤ 1048576 ∧ nd.needs.length ≤ 1048576 ∧ ∀ s ∈ nd.needs, s.size ≤ 1048576) ∧
    (l = [] ∨ ∃ b o, a = some ⟨b, o, none⟩ ∧ b < B ∧ ∀ (i : Nat) (nd : Nd), l[i]? = some nd → w.cell? ⟨b, o + i * 2, none⟩ = some (.string nd.name) ∧ ∃ na nc, w.cell? ⟨b, o + i * 2 + 1, none⟩ = some (.slice na nd.needs.length nc) ∧ Strs B w na nd.needs)
theorem Nds.stay {B B' : Nat} {w w' : World} {a : Option Addr} {l : List Nd} (h : Nds B w a l) (hw : Old B w w') (hB : B ≤ B') : Nds B' w' a l := by
  obtain ⟨h1, h2, h⟩ := h
  refine ⟨h1, h2, ?_⟩
  rcases h with h | ⟨b, o, ha, hb, h⟩
  · exact Or.inl h
  · refine Or.inr ⟨b, o, ha, Nat.lt_of_lt_of_le hb hB, fun i nd hi => ?_⟩
    obtain ⟨c1, na, nc, c2, c3⟩ := h i nd hi
    exact ⟨(hw.cell hb _).trans c1, na, nc, (hw.cell hb _).trans c2, c3.stay hw hB⟩
theorem Nds.at {B : Nat} {w : World} {a : Option Addr} {l : List Nd} (h : Nds B w a l) {j : Nat} (hj : j < l.length) :
    ∃ b o nd na nc, a = some ⟨b, o, none⟩ ∧ b < B ∧ l[j]? = some nd ∧ w.cell? ⟨b, o + j * 2, none⟩ = some (.string nd.name) ∧ w.cell? ⟨b, o + j * 2 + 1, none⟩ = some (.slice na nd.needs.length nc) ∧ Strs B w na nd.needs ∧ nd.name.size ≤ 1048576 ∧ nd.needs.length ≤ 1048576 := by
  obtain ⟨_, h2, h⟩ := h
  rcases h with h | ⟨b, o, ha, hb, h⟩
  · subst h
    simp at hj
  · obtain ⟨c1, na, nc, c2, c3⟩ := h j _ (List.getElem?_eq_getElem hj)
    have h4 := h2 _ (List.getElem_mem hj)
    exact ⟨b, o, l[j], na, nc, ha, hb, List.getElem?_eq_getElem hj, c1, c2, c3, h4.1, h4.2.1⟩

theorem Clone_any (s : ByteArray) (w : World) (h : s.size ≤ 1048576) : Calls Try.prog 14 #[.string s] w fun e w' => e = .returned (.string s) ∧ Below w.heap.size w w' := by
  have CL : Hid (Calls Try.prog 22 #[.string s] w fun e w' => e = .returned (.string s) ∧ Below w.heap.size w w') := Try.stringslite_Clone s w (by omega)
  go_enter Try.func14, Try.ntmps14
  go_wp2_with fail
  refine CL.out.mono ?_
  rintro e w' ⟨rfl, hb⟩
  have HB : Hid (Below w.heap.size w w') := hb
  clear hb
  go_wp2_with fail
  go_ret
  exact ⟨rfl, HB.out⟩
end Go.Proofs.Ytilcongilokppad
