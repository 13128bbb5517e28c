/- Proved: the law NamesMerge (what several bring together hangs on no order; what is brought twice is brought once) returns true for every two rows of binds that can be read and are together of bulk at most 1048576, and leaves them as they were. -/
import Derived.Test.YtgpcbehohkhoaabRows
import Derived.Test.YtgpcbehohkhoaabYb
import Derived.Test.YtgpcbehohkhoaabZd
namespace Go.Proofs.Ytgpcbehohkhoaab
set_option linter.unusedVariables false
set_option linter.unusedSimpArgs false
open Go.ChangeShapes Go.WideShapes Go.ChangeAt Go.RowKit

/- What a reading's bulk bounds. -/
theorem bulk_pos {H : Type} (d : DataW H) : 1 ≤ Rows.uptoBulk d := by
  cases d with
  | lit l => cases l <;> simp [Rows.uptoBulk]
  | nil => simp [Rows.uptoBulk]
  | ptr d => simp [Rows.uptoBulk]
  | slice elems spare => simp [Rows.uptoBulk]
  | agg parts => simp [Rows.uptoBulk]
  | iface t d => simp [Rows.uptoBulk]
  | map entries => simp [Rows.uptoBulk]
  | held h => simp [Rows.uptoBulk]
theorem bulk_mem {H : Type} {d : DataW H} : ∀ {l : List (DataW H)}, d ∈ l → Rows.uptoBulk d ≤ Rows.uptoBulkAll l
  | [], h => by cases h
  | x :: r, h => by
    simp only [Rows.uptoBulkAll]
    rcases List.mem_cons.1 h with rfl | h
    · omega
    · have := bulk_mem h
      omega
theorem bulk_len {H : Type} : ∀ (l : List (DataW H)), l.length ≤ Rows.uptoBulkAll l
  | [] => by simp [Rows.uptoBulkAll]
  | x :: r => by
    have := bulk_len r
    have := bulk_pos x
    simp only [Rows.uptoBulkAll, List.length_cons]
    omega

theorem cells60 : Try.prog.cellsOf 60 = 3 := by kernel_rfl

theorem three_row {w : World} {a : Addr} {cs : List Value} (h : w.cells? 0 a 3 = some cs) : ∃ c0 c1 c2, cs = [c0, c1, c2] ∧ a.spot = none ∧ a.block < w.heap.size ∧
    w.cell? ⟨a.block, a.off, none⟩ = some c0 ∧ w.cell? ⟨a.block, a.off + 1, none⟩ = some c1 ∧ w.cell? ⟨a.block, a.off + 2, none⟩ = some c2 := by
  unfold World.cells? at h
  rw [if_pos (Nat.zero_le _)] at h
  simp only [show List.range 3 = [0, 1, 2] from rfl, List.mapM_cons, List.mapM_nil, Option.bind_eq_bind, Option.bind_eq_some_iff, Option.pure_def, Option.some.injEq] at h
  obtain ⟨c0, h0, _, ⟨c1, h1, _, ⟨c2, h2, _, rfl, rfl⟩, rfl⟩, rfl⟩ := h
  have hs : a.spot = none := by simpa [Addr.add] using World.cell?_spot h0
  obtain ⟨b, o, sp⟩ := a
  simp only at hs
  subst hs
  simp only [Addr.add] at h0 h1 h2
  exact ⟨c0, c1, c2, rfl, rfl, World.block_lt_of_cell? _ _ h0, h0, h1, h2⟩

section
variable {H : Type} {enc : TypeId × Value → H} {w : World} {sp : Nat → Bool} {held : Bool}

theorem bind_of_trod {fuel : Nat} {c0 c1 c2 : Value} {x : DataW H × List MemPlace} (h : DataW.trod enc Try.prog w 0 sp held fuel 60 [c0, c1, c2] = some x) :
    ∃ p : Bd, c0 = .string p.1 ∧ c1 = .string p.2.1 ∧ c2 = .string p.2.2 ∧ p.1.size ≤ Rows.uptoBulk x.1 ∧ p.2.1.size ≤ Rows.uptoBulk x.1 ∧ p.2.2.size ≤ Rows.uptoBulk x.1 := by
  obtain ⟨xs, m, hm, hx, _, hxl, hf⟩ := DataW.trod_struct Try.underlying60 h
  have e0 : DataW.trod enc Try.prog w 0 sp held m 9 (([c0, c1, c2].drop 0).take (Try.prog.cellsOf 9)) = xs[0]? := hf 0 _ rfl
  have e1 : DataW.trod enc Try.prog w 0 sp held m 9 (([c0, c1, c2].drop 1).take (Try.prog.cellsOf 9)) = xs[1]? := hf 1 _ rfl
  have e2 : DataW.trod enc Try.prog w 0 sp held m 9 (([c0, c1, c2].drop 2).take (Try.prog.cellsOf 9)) = xs[2]? := hf 2 _ rfl
  have hx3 : xs.length = 3 := hxl
  rw [List.getElem?_eq_getElem (by omega)] at e0 e1 e2
  rw [cells1_9] at e0 e1 e2
  simp only [List.drop_zero, List.take_succ_cons, List.take_zero, List.drop_succ_cons] at e0 e1 e2
  obtain ⟨s0, h0, k0, _⟩ := DataW.trod_string Try.underlying9 e0
  obtain ⟨s1, h1, k1, _⟩ := DataW.trod_string Try.underlying9 e1
  obtain ⟨s2, h2, k2, _⟩ := DataW.trod_string Try.underlying9 e2
  simp at h0 h1 h2
  subst hx
  have key : ∀ (i : Nat) (hi : i < xs.length) (s : ByteArray), xs[i] = (.lit (.string s.data.toList), []) → s.size ≤ Rows.uptoBulk (DataW.agg (xs.map (·.1))) := by
    intro i hi s hs
    have hmem : (DataW.lit (.string s.data.toList) : DataW H) ∈ xs.map (·.1) := List.mem_map.2 ⟨xs[i], List.getElem_mem hi, by rw [hs]⟩
    have := bulk_mem hmem
    have e : s.size = s.data.toList.length := (Array.length_toList (xs := s.data)).symm
    simp only [Rows.uptoBulk] at this ⊢
    omega
  exact ⟨(s0, s1, s2), h0, h1, h2, key 0 (by omega) s0 k0, key 1 (by omega) s1 k1, key 2 (by omega) s2 k2⟩

theorem binds_of_trod {fuel : Nat} {v : Value} {x : DataW H × List MemPlace} (h : DataW.trod enc Try.prog w 0 sp held fuel 43 [v] = some x) :
    ∃ (a : Option Addr) (cap : Nat) (l : List Bd), v = .slice a l.length cap ∧ Bns w.heap.size w a l ∧ l.length ≤ Rows.uptoBulk x.1 ∧ ∀ p ∈ l, p.1.size ≤ Rows.uptoBulk x.1 ∧ p.2.1.size ≤ Rows.uptoBulk x.1 ∧ p.2.2.size ≤ Rows.uptoBulk x.1 := by
  rcases DataW.trod_slice Try.underlying43 h with ⟨hv, _⟩ | ⟨a, len, cap, elems, rest, n, hn, hv, hx, _, hlc, hcm, hel, hall, _, _⟩
  · simp at hv
    exact ⟨none, 0, [], hv, ⟨by simp, Or.inl rfl⟩, by simp, by simp⟩
  · simp at hv
    have key : ∀ i, i < len → ∃ p : Bd, (i = 0 → a.spot = none) ∧ a.block < w.heap.size ∧ (w.cell? ⟨a.block, a.off + i * 3, none⟩ = some (.string p.1) ∧ w.cell? ⟨a.block, a.off + i * 3 + 1, none⟩ = some (.string p.2.1) ∧ w.cell? ⟨a.block, a.off + i * 3 + 2, none⟩ = some (.string p.2.2)) ∧
        p.1.size ≤ Rows.uptoBulk x.1 ∧ p.2.1.size ≤ Rows.uptoBulk x.1 ∧ p.2.2.size ≤ Rows.uptoBulk x.1 := by
      intro i hi
      have h1 := hall i hi
      rw [cells60, List.getElem?_eq_getElem (by omega)] at h1
      obtain ⟨cs, hcs, ht⟩ := Option.bind_eq_some_iff.1 h1
      obtain ⟨c0, c1, c2, rfl, hs, hb, g0, g1, g2⟩ := three_row hcs
      obtain ⟨p, rfl, rfl, rfl, b0, b1, b2⟩ := bind_of_trod ht
      rw [(add_parts a _).1, (add_parts a _).2] at g0 g1 g2
      rw [(add_parts a _).1] at hb
      have hle : Rows.uptoBulk (elems[i]'(by omega)).1 ≤ Rows.uptoBulk x.1 := by
        rw [hx]
        have := bulk_mem (List.mem_map.2 ⟨elems[i]'(by omega), List.getElem_mem (by omega), rfl⟩ : (elems[i]'(by omega)).1 ∈ elems.map (·.1))
        simp only [Rows.uptoBulk]
        omega
      refine ⟨p, ?_, hb, ⟨g0, g1, g2⟩, by omega, by omega, by omega⟩
      intro h0
      subst h0
      simpa [Addr.add] using hs
    obtain ⟨l, hll, hl⟩ := pick_list _ len key
    refine ⟨some a, cap, l, by rw [hv, hll], ⟨by unfold maxLen at hcm; omega, ?_⟩, ?_, ?_⟩
    · by_cases h0 : l = []
      · exact Or.inl h0
      · have hpos : 0 < l.length := List.length_pos_iff.2 h0
        obtain ⟨hsp, hbl, _⟩ := hl 0 l[0] (List.getElem?_eq_getElem hpos)
        have hsp' := hsp rfl
        obtain ⟨b, o, spt⟩ := a
        simp only at hsp' hbl
        subst hsp'
        exact Or.inr ⟨b, o, rfl, hbl, fun i s hi => (hl i s hi).2.2.1⟩
    · rw [hll, hx, ← hel]
      have := bulk_len (elems.map (·.1))
      rw [List.length_map] at this
      simp only [Rows.uptoBulk]
      omega
    · intro p hp
      obtain ⟨i, hi, e⟩ := List.getElem_of_mem hp
      exact (hl i p (by rw [List.getElem?_eq_getElem hi, e])).2.2.2
end

set_option maxRecDepth 100000 in
/-- WHAT THE WALK GIVES, for every argument that is small enough. -/
theorem contract (H : Type) (enc : TypeId × Value → H) (W : World) (base : Nat) (args : Array Value) (ds gs : List (DataW H)) (before : List MemPlace)
    (hval : ∀ (j : Nat) t v, Try.f7.params[j]? = some t → args[j]? = some v → Value.okWide Try.prog W .any base t v)
    (hW : DataW.Whole enc Try.prog Try.f7.params.toList Rows.namesMergeSpec.vars false W args.toList ds gs before) (hk : Rows.uptoSmall H (ds ++ gs) = true) :
    Calls Try.prog 7 args W fun e W' => ∃ v, e = .returned v ∧ Rows.namesMergeSpec.post enc Try.prog Try.f7 false true false false W args v W' := by
  have hW' := hW
  obtain ⟨p, q, hA0, hV, rfl, hfz, hnd⟩ := hW
  have hA : DataW.TrodAll enc Try.prog W 0 (fun _ => true) true Try.f7.params.toList args.toList ds p := hA0
  rw [Try.params7] at hA hval
  obtain ⟨v0, vs0, d0, ds0, p0, q0, hargs0, rfl, rfl, h0, r0⟩ := trodAll_cons hA
  obtain ⟨v1, vs1, d1, ds1, p1, q1, hargs1, rfl, rfl, h1, r1⟩ := trodAll_cons r0
  obtain ⟨rfl, rfl, rfl⟩ := trodAll_nil r1
  subst hargs1
  obtain rfl : args = #[v0, v1] := by cases args; simp_all
  obtain ⟨rfl, rfl⟩ := trodVars_none hV
  clear hA0
  simp only [List.append_nil] at hW'
  have hlt : ∀ x ∈ p0 ++ p1, x.block < W.heap.size := fun x hx => hW'.lt x hx
  have hbulk : Rows.uptoBulk d0 ≤ 1048576 ∧ Rows.uptoBulk d1 ≤ 1048576 := by
    have h := of_decide_eq_true hk
    simp only [List.cons_append, List.nil_append, Rows.uptoBulkAll] at h
    omega
  obtain ⟨f0, g0⟩ := h0
  obtain ⟨f1, g1⟩ := h1
  obtain ⟨ao0, ln0, cp0, hsl0⟩ := okWide_slice Try.underlying43 (hval 0 43 v0 rfl rfl)
  obtain ⟨a0, cap0, l0, hv0, hs0, hn0, hz0⟩ := binds_of_trod (v := v0) (by rw [hsl0] at g0 ⊢; simpa [Value.cells] using g0)
  obtain ⟨ao1, ln1, cp1, hsl1⟩ := okWide_slice Try.underlying43 (hval 1 43 v1 rfl rfl)
  obtain ⟨a1, cap1, l1, hv1, hs1, hn1, hz1⟩ := binds_of_trod (v := v1) (by rw [hsl1] at g1 ⊢; simpa [Value.cells] using g1)
  simp only at hn0 hz0 hn1 hz1
  have hcall : Calls Try.prog 7 #[v0, v1] W fun e w' => e = .returned (.bool true) ∧ Below W.heap.size W w' := by
    rw [hv0, hv1]
    exact NamesMerge_walk W.heap.size l0 l1 a0 a1 cap0 cap1 W hs0 hs1 (Nat.le_refl _) (by omega) (by omega) (fun p hp => by have := hz0 p hp; omega) (fun p hp => by have := hz1 p hp; omega)
  refine hcall.mono fun e W' ⟨he, hb⟩ => ?_
  subst he
  exact ⟨_, rfl, ⟨_, _, _, [], p0 ++ (p1 ++ []), [], hW', trodAll_cons_mk (shut_bool Try.underlying4 _) trodAll_mk0,
    trodAll_cons_mk (Below.trod laidOut (by kernel_rfl) (of_decide_eq_true (by kernel_rfl)) ⟨f0, g0⟩ hb (fun x hx => hlt x (List.mem_append_left _ hx))) (trodAll_cons_mk (Below.trod laidOut (by kernel_rfl) (of_decide_eq_true (by kernel_rfl)) ⟨f1, g1⟩ hb (fun x hx => hlt x (List.mem_append_right _ hx))) (trodAll_mk0)), rfl, hb.frame _, fun h => by cases h⟩⟩

set_option maxRecDepth 100000 in
theorem lifted (os : Os) (started : os.Started) (H : Type) (enc : TypeId × Value → H) (F : Stop.Interp) :
    ReturnsInHanded {} Try.checked os 7 .any ((Rows.OpenSpec.upto Rows.namesMergeSpec).preRow enc Try.prog Try.f7 Rows.namesMergeUptoRow.domain false Rows.namesMergeUptoRow.laid) (((Rows.OpenSpec.upto Rows.namesMergeSpec).at F).post enc Try.prog Try.f7 false true false false) := by
  refine returnsInHanded_of_row (C := Try.checked) (s := Rows.OpenSpec.upto Rows.namesMergeSpec) own started (by kernel_rfl) Try.func7
    (witness_row_atRef (enc := enc) (C := Try.checked) false (World.laidAll Try.prog os Rows.namesMergeUptoRow.laid)
      #[.slice none 0 0, .slice none 0 0] (World.laidAll_os _ _ _) (by kernel_rfl) (by kernel_rfl) (by kernel_rfl)
      (OpenSpec.preRow_of_cond 8 (x := ([.nil, .nil], [], [])) (by kernel_rfl) (by kernel_rfl) (fun k hk => by cases hk; kernel_rfl) (by kernel_rfl) (laidMet_laidAll _ (by kernel_rfl) (by kernel_rfl)))) ?_
  intro W base args ds gs before hval hW _ hcond hz hL _ _
  exact contract H enc W base args ds gs before hval hW (hcond _ rfl)

/-- THE LAW NamesMerge. -/
theorem namesMerge_holds : Rows.NamesMergeUptoSaid :=
  OpenClaim.holds_of_cond 7 Try.f7 rfl rfl rfl rfl rfl rfl rfl ⟨rfl, rfl, rfl, rfl, rfl⟩ rfl rfl rfl rfl rfl (by kernel_rfl) Try.func7 (by kernel_rfl)
    (of_decide_eq_true (by kernel_rfl)) (by unfold Func.isWrapper; first | (rw [if_pos (by decide +kernel)]; kernel_rfl) | (rw [if_neg (by decide +kernel)]; exact ⟨rfl, rfl⟩))
    (fun os started H enc _ F => by rw [OpenClaim.pre_eq_preRow]; exact lifted os started H enc F)
#print axioms namesMerge_holds
end Go.Proofs.Ytgpcbehohkhoaab
