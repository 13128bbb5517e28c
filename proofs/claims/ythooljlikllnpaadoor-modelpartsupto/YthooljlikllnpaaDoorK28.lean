/- From the row's conditions to what the walk asks: the table; numbers in a row. -/
import Derived.Test.YthooljlikllnpaaDoorK27
import Derived.Test.YthooljlikllnpaaDoorRows
import Derived.Deep.DeepHandedRow
import Derived.Deep.DeepWitnessRowRef
import Derived.Lay
import Derived.SizedLaws
import Derived.ChangeAlike
import Derived.Lib.LaidTab
import Derived.OpenShut
import Derived.ProofKit
namespace Go.Proofs.YthooljlikllnpaaDoor
set_option linter.unusedVariables false
set_option linter.unusedSimpArgs false
open Go.ChangeShapes Go.WideShapes Go.ChangeAt Go.RowKit

theorem own : ownKnob Tryd.prog.godebug = none := by kernel_rfl
theorem laidOut : laidOutB Tryd.prog = true := by kernel_rfl
theorem gTab : Tryd.prog.globalNamed Tryd.tabName = some 0 := by kernel_rfl
theorem gTabType : (Tryd.prog.globals[0]?).map (·.type) = some 150 := by kernel_rfl
theorem cells150 : Tryd.prog.cellsOf 150 = 20 := by kernel_rfl

theorem laid_tail {P : Program} {w : World} {n : String} {d : DataW Unit} {r : List (String × DataW Unit)} {ps : List MemPlace} (h : DataW.LaidVars P w ((n, d) :: r) ps) : ∃ q, DataW.LaidVars P w r q := by
  obtain ⟨_, _, _, _, _, q, _, _, _, _, h, _⟩ := h
  exact ⟨q, h⟩

theorem cells131 : Tryd.prog.cellsOf 131 = 1 := by kernel_rfl
theorem pow_data : (Rows.laid_internal_strconv_uint64pow10 : DataW Unit) = Lib.tabData .u64 Lib.pow10Tab := by kernel_rfl

/-- What the row's list gives: the table of the powers of ten. -/
theorem table_of {W : World} {x y : String × DataW Unit} {r : List (String × DataW Unit)} (h : laidMet Tryd.prog (x :: y :: (Tryd.tabName, Rows.laid_internal_strconv_uint64pow10) :: r) W) : Tab W.heap.size W := by
  obtain ⟨x1, x2⟩ := x
  obtain ⟨y1, y2⟩ := y
  obtain ⟨ps, hv, _⟩ := h
  obtain ⟨q1, hv1⟩ := laid_tail hv
  obtain ⟨q2, hv2⟩ := laid_tail hv1
  obtain ⟨g, t, cs, fuel, p, q, hg, hty, hvar, hd, _, _⟩ := hv2
  have hg0 : g = 0 := Option.some.inj (hg.symm.trans gTab)
  subst hg0
  have ht0 : t = 150 := Option.some.inj (hty.symm.trans gTabType)
  subst ht0
  rw [pow_data] at hd
  have hc := Lib.cells_of_tab Tryd.underlying150 Tryd.underlying131 cells131 cells150 hd
  have ht : Lib.TabIs Tryd.prog W Tryd.tabName .u64 Lib.pow10Tab := by
    unfold Lib.TabIs
    rw [← hc]
    exact hvar
  have h0 := ht.cell gTab 0 (by decide)
  exact ⟨ht, 0, gTab, World.block_lt_of_cell? _ _ h0⟩
theorem pick_list {α : Type} (p : Nat → α → Prop) : ∀ (n : Nat), (∀ i, i < n → ∃ x, p i x) → ∃ l : List α, l.length = n ∧ ∀ i x, l[i]? = some x → p i x
  | 0, _ => ⟨[], rfl, by simp⟩
  | n + 1, h => by
    obtain ⟨l, hl, hp⟩ := pick_list p n (fun i hi => h i (by omega))
    obtain ⟨x, hx⟩ := h n (by omega)
    refine ⟨l ++ [x], by simp [hl], ?_⟩
    intro i y hy
    by_cases hi : i < n
    · rw [List.getElem?_append_left (by omega)] at hy
      exact hp i y hy
    · have hlen := (List.getElem?_eq_some_iff.1 hy).1
      simp at hlen
      obtain rfl : i = n := by omega
      rw [List.getElem?_append_right (by omega)] at hy
      simp [hl] at hy
      subst hy
      exact hx
theorem add_at (a : Addr) (k : Nat) : (a.add k).block = a.block ∧ (a.add k).off = a.off + k := by
  unfold Addr.add
  split
  · rename_i h; rw [h]; exact ⟨rfl, rfl⟩
  · exact ⟨rfl, rfl⟩
theorem one_cell {w : World} {a : Addr} {cs : List Value} (h : w.cells? 0 a 1 = some cs) : ∃ c0, cs = [c0] ∧ a.spot = none ∧ a.block < w.heap.size ∧ w.cell? ⟨a.block, a.off, none⟩ = some c0 := by
  unfold World.cells? at h
  rw [if_pos (Nat.zero_le _)] at h
  simp only [show List.range 1 = [0] from rfl, List.mapM_cons, List.mapM_nil, Option.bind_eq_bind, Option.bind_eq_some_iff, Option.pure_def, Option.some.injEq] at h
  obtain ⟨c0, h0, _, rfl, rfl⟩ := h
  have hs : a.spot = none := by simpa [Addr.add] using World.cell?_spot h0
  obtain ⟨b, o, sp⟩ := a
  simp only at hs
  subst hs
  simp only [Addr.add] at h0
  exact ⟨c0, rfl, rfl, World.block_lt_of_cell? _ _ h0, by simpa using h0⟩
theorem cof2 : Tryd.prog.cellsOf 2 = 1 := by kernel_rfl
/-- Numbers in a row. -/
theorem ints_of_trod {H : Type} {enc : TypeId × Value → H} {w : World} {sp : Nat → Bool} {held : Bool} {fuel : Nat} {v : Value} {x : DataW H × List MemPlace} (h : DataW.trod enc Tryd.prog w 0 sp held fuel 40 [v] = some x) :
    ∃ (a : Option Addr) (cap : Nat) (l : List Int), v = .slice a l.length cap ∧ l.length ≤ cap ∧ cap ≤ maxLen ∧ NsM l a w := by
  rcases DataW.trod_slice Tryd.underlying40 h with ⟨hv, _⟩ | ⟨a, len, cap, elems, rest, n, hn, hv, rfl, _, hlc, hcm, hel, hall, _, _⟩
  · simp at hv
    exact ⟨none, 0, [], hv, Nat.le_refl _, Nat.zero_le _, Or.inl rfl⟩
  · simp at hv
    have key : ∀ i, i < len → ∃ y : Int, (i = 0 → a.spot = none) ∧ w.cell? ⟨a.block, a.off + i, none⟩ = some (.int .i64 y) := by
      intro i hi
      have h1 := hall i hi
      rw [cof2, List.getElem?_eq_getElem (by omega)] at h1
      obtain ⟨cs, hcs, ht⟩ := Option.bind_eq_some_iff.1 h1
      obtain ⟨c0, rfl, hs, hb, gg⟩ := one_cell hcs
      rw [(add_at a _).1, (add_at a _).2, Nat.mul_one] at gg
      obtain ⟨m, hm, _, hwf⟩ := DataW.trod_int Tryd.underlying2 ht
      simp at hm
      subst hm
      refine ⟨m, ?_, gg⟩
      intro h0
      subst h0
      simpa [Addr.add] using hs
    obtain ⟨ds, hdl, hd⟩ := pick_list _ len key
    refine ⟨some a, cap, ds, by rw [hv, hdl], by omega, hcm, ?_⟩
    by_cases h0 : ds = []
    · exact Or.inl h0
    · have hpos : 0 < ds.length := List.length_pos_iff.2 h0
      obtain ⟨hsp, _⟩ := hd 0 ds[0] (List.getElem?_eq_getElem hpos)
      have hsp' := hsp rfl
      obtain ⟨b, o, spt⟩ := a
      simp only at hsp'
      subst hsp'
      exact Or.inr ⟨b, o, rfl, fun i d hi => (hd i d hi).2⟩
end Go.Proofs.YthooljlikllnpaaDoor
