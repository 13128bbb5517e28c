/- What is ready: a heap of numbers in memory. -/
import Derived.Test.YtilcongilokppadHa
import Derived.Deep.RegionLaw
import Derived.Deep.AppendLies
namespace Go.Proofs.Ytilcongilokppad
set_option linter.unusedVariables false
set_option linter.unusedSimpArgs false
open Go.RowKit

/-- What is behind r: a row of numbers. -/
structure Hp (r : Nat) (h : List Nat) (v : Value) (w : World) : Prop where
  box : w.heap[r]? = some (.cells #[v] 56 (0, 0))
  row : RowI (r + 1) v h w

/-- Nothing but r, v's row and what is new was touched. -/
structure Tch (r : Nat) (v : Value) (w w' : World) : Prop where
  os : w'.os = w.os
  tape : w'.tape = w.tape
  output : w'.output = w.output
  size : w.heap.size ≤ w'.heap.size
  block : ∀ k, k < w.heap.size → k ≠ r → v.ownBlock ≠ some k → w'.heap[k]? = w.heap[k]?

/-- v' lies where v lay, or in a new block. -/
def Lies (w : World) (v v' : Value) : Prop := ∀ g, v'.ownBlock = some g → v.ownBlock = some g ∨ w.heap.size ≤ g

theorem Lies.refl (w : World) (v : Value) : Lies w v v := fun g h => Or.inl h
theorem Lies.trans {w w' : World} {v v' v'' : Value} (h : Lies w v v') (hs : w.heap.size ≤ w'.heap.size) (h' : Lies w' v' v'') : Lies w v v'' := fun g hg => by
  rcases h' g hg with q | q
  · exact h g q
  · exact Or.inr (Nat.le_trans hs q)
theorem Tch.refl (r : Nat) (v : Value) (w : World) : Tch r v w w := ⟨rfl, rfl, rfl, Nat.le_refl _, fun _ _ _ _ => rfl⟩
theorem Tch.of_below {r : Nat} {v : Value} {w w' : World} (h : Below w.heap.size w w') : Tch r v w w' := ⟨h.os, h.tape, h.output, h.size, fun k hk _ _ => h.block k hk⟩
theorem Tch.trans {r : Nat} {v v' : Value} {a b c : World} (h : Tch r v a b) (hl : Lies a v v') (h' : Tch r v' b c) : Tch r v a c :=
  ⟨h'.os.trans h.os, h'.tape.trans h.tape, h'.output.trans h.output, Nat.le_trans h.size h'.size, fun k hk hr hv => (h'.block k (Nat.lt_of_lt_of_le hk h.size) hr fun e => by
    rcases hl k e with q | q
    · exact hv q
    · omega).trans (h.block k hk hr hv)⟩
theorem Tch.below {r : Nat} {v : Value} {w w' : World} {B : Nat} (h : Tch r v w w') (hB : B ≤ w.heap.size) (hr : B ≤ r) (hv : ∀ k, v.ownBlock = some k → B ≤ k) : Below B w w' :=
  ⟨h.os, h.tape, h.output, h.size, fun k hk => h.block k (Nat.lt_of_lt_of_le hk hB) (by omega) fun e => by have := hv k e; omega⟩

theorem Hp.cell {r : Nat} {h : List Nat} {v : Value} {w : World} (H : Hp r h v w) : w.cell? ⟨r, 0, none⟩ = some v := by simp [World.cell?, H.box]
theorem Hp.frozen {r : Nat} {h : List Nat} {v : Value} {w : World} (H : Hp r h v w) : w.frozen? ⟨r, 0, none⟩ = false := by simp [World.frozen?, H.box]
theorem Hp.lt {r : Nat} {h : List Nat} {v : Value} {w : World} (H : Hp r h v w) : r < w.heap.size := (Array.getElem?_eq_some_iff.1 H.box).1
theorem Hp.kept {r : Nat} {h : List Nat} {v : Value} {w w' : World} (H : Hp r h v w) (hr : w'.heap[r]? = w.heap[r]?) (hk : ∀ k, v.ownBlock = some k → w'.heap[k]? = w.heap[k]?) : Hp r h v w' := ⟨hr.trans H.box, H.row.kept hk⟩
theorem Hp.below {r : Nat} {h : List Nat} {v : Value} {w w' : World} (H : Hp r h v w) (hb : Below w.heap.size w w') : Hp r h v w' := H.kept (hb.block r H.lt) fun k hk => hb.block k (H.row.lt hk).2

/-- A new value behind r. -/
theorem Hp.put {r : Nat} {h h' : List Nat} {v v' : Value} {w w' : World} (H : Hp r h v w) (hr : w'.heap[r]? = w.heap[r]?) (hR : RowI (r + 1) v' h' w') : Hp r h' v' (w'.setCell ⟨r, 0, none⟩ v') := by
  have hb := hr.trans H.box
  refine ⟨heap_setCell hb (by simp) _, hR.kept fun k hk => Below.heap_setCell _ _ _ _ ?_⟩
  have := (hR.lt hk).1
  show k ≠ r
  omega

theorem infoInt : (Try.prog.info? 3).map (fun i => (i.zero, i.size, i.bytes)) = some (some (.int .i64 0), 1, 8) := by kernel_rfl

theorem Hp.grown {r : Nat} {h : List Nat} {v : Value} {w w' : World} (H : Hp r h v w) (o : Obj) (hg : (w.drew.alloc o).grownBy w' v.ownBlock) : w'.heap[r]? = w.heap[r]? := by
  refine (hg.block r (by have := H.lt; simp; omega) fun e => ?_).trans (Below.heap_alloc w.drew o r H.lt)
  have := (H.row.lt e.symm).1
  omega
theorem Tch.grown {r : Nat} {v : Value} {w w' : World} (o : Obj) (hg : (w.drew.alloc o).grownBy w' v.ownBlock) (u : Value) : Tch r v w (w'.setCell ⟨r, 0, none⟩ u) := by
  refine ⟨hg.os, hg.tape, hg.output, ?_, fun k hk hr hv => ?_⟩
  · have := hg.size
    simp at this ⊢
    omega
  · refine (Below.heap_setCell _ _ _ _ hr).trans ((hg.block k (by simp; omega) fun e => hv e.symm).trans (Below.heap_alloc w.drew o k hk))
theorem Tch.set (r : Nat) (v : Value) (w : World) (u : Value) : Tch r v w (w.setCell ⟨r, 0, none⟩ u) :=
  ⟨rfl, rfl, rfl, by simp, fun k hk hr hv => Below.heap_setCell _ _ _ _ hr⟩
theorem one_news (w : World) (u : Value) : ∀ (j : Nat) (x : Value), [u][j]? = some x → (w.alloc (.cells #[u] 3)).cell? ((⟨w.heap.size, 0, none⟩ : Addr).add j) = some x := by
  intro q x hq
  have hcell := World.cell?_alloc_mark w #[u] 3 (0, 0) q
  rw [add_at, hcell]
  simpa using hq
theorem one_one (y : Nat) : ∀ u ∈ [encI y], u.oneCell' = true := by
  intro u hu
  simp at hu
  subst hu
  rfl
theorem assertInt (y : Int) (w : World) : Sem.run Try.prog (Instr.typeAssert (.iface 3 (.int .i64 y)) 20 3 false) w = .ok (.int .i64 y) w := by
  rfl

set_option maxRecDepth 100000 in
set_option maxHeartbeats 1600000 in
theorem Push_any (r y : Nat) (h : List Nat) (v : Value) (w : World) (H : Hp r h v w) (hl : h.length ≤ 1048576) :
    Calls Try.prog 77 #[.pointer (some ⟨r, 0, none⟩), .iface 3 (.int .i64 y)] w fun e w' => e = .returned (.tuple #[]) ∧ ∃ v', Hp r (h ++ [y]) v' w' ∧ Tch r v w w' ∧ Lies w v v' := by
  have HH : Hid (Hp r h v w) := H
  have hc := H.cell
  have hf := H.frozen
  have hlt := H.lt
  obtain ⟨i0, hinf, hz0, hz1, hz2⟩ := info_parts infoInt
  have hta := assertInt (y : Int)
  clear H
  go_enter Try.func77, Try.ntmps77
  go_wp2_with fail
  go_region_law (first
    | (refine step_append_lies _ rfl (.tmp 8) (.tmp 11) 54 rfl (r + 1) 3 i0 _ 1 8 Try.underlying54 hinf hz0 hz1 hz2 rfl (by decide) v h.length (h.map encI) rfl (by exact World.ownsRow.alloc (w := w.drew) HH.out.row _) ⟨w.heap.size, 0, none⟩ 1 1 [encI y] rfl rfl (by exact one_news w.drew (encI y)) (by exact one_one y) (by decide) (by unfold maxLen; omega) (by omega) (by simp; omega) (w.heap.size + 1) (by simp) ?_; intro g' cap' w3 hown hgrow hat hlt3; have k0 := HH.out.grown _ hgrow; have k1 : w3.cell? ⟨r, 0, none⟩ = some v := (World.cell?_of_block (a := ⟨r, 0, none⟩) k0).trans hc; have k2 : w3.frozen? ⟨r, 0, none⟩ = false := (World.frozen?_of_block (a := ⟨r, 0, none⟩) k0).trans hf; dsimp only))
  all_goals go_wp2_with fail
  all_goals go_end0
  all_goals exact ⟨rfl, _, HH.out.put k0 (by unfold RowI; simpa [encI] using hown), Tch.grown _ hgrow _, fun k hk => by
    simp [Value.ownBlock] at hk
    subst hk
    rcases hat with q | q
    · exact Or.inl q
    · exact Or.inr (by omega)⟩

set_option maxRecDepth 100000 in
set_option maxHeartbeats 1600000 in
theorem Pop_any (r y : Nat) (h : List Nat) (v : Value) (w : World) (H : Hp r (h ++ [y]) v w) (hl : h.length ≤ 1048576) :
    Calls Try.prog 76 #[.pointer (some ⟨r, 0, none⟩)] w fun e w' => e = .returned (.iface 3 (.int .i64 y)) ∧ ∃ v', Hp r h v' w' ∧ Tch r v w w' ∧ Lies w v v' := by
  have HH : Hid (Hp r (h ++ [y]) v w) := H
  have hc := H.cell
  have hf := H.frozen
  have hlt := H.lt
  obtain ⟨g, cap, rfl, hg1, hg2, hcap⟩ := H.row.is (by simp)
  have hy := H.row.cell (i := h.length) (by simp)
  simp at hcap
  have e1 : (h ++ [y]).getD h.length 0 = y := by simp
  rw [e1] at hy
  have hlen : (h ++ [y]).length = h.length + 1 := by simp
  rw [hlen] at hc
  clear H
  go_enter Try.func76, Try.ntmps76
  go_wp2_with fail
  refine (Len_any _ _ _ _).mono ?_
  rintro e w1 ⟨rfl, rfl⟩
  go_wp2_with fail
  go_ret
  rw [hlen] at HH
  exact ⟨rfl, _, HH.out.put rfl HH.out.row.cut, Tch.set _ _ _ _, fun k hk => Or.inl (by simpa [Value.ownBlock] using hk)⟩
end Go.Proofs.Ytilcongilokppad
