/- What left keeps in memory. -/
import Derived.Test.YtilcongilokppadJa
namespace Go.Proofs.Ytilcongilokppad
set_option linter.unusedVariables false
set_option linter.unusedSimpArgs false
open Go.RowKit

/-- What was met, the path, how much was gone, what was left. -/
structure LS (w : World) (n : Nat) (ms : List Bool) (v : Value) (path gone : List Nat) (vo : Value) (out : List Nat) (wr : World) : Prop where
  old : Below w.heap.size w wr
  es : ES (w.heap.size + 1 + 1 + 1 + 1) (w.heap.size + 1 + 1 + 1) (w.heap.size + 1 + 1) w.heap.size n ms v path wr
  gone : RowI (w.heap.size + 1) (.slice (some ⟨w.heap.size + 1, 0, none⟩) n n) gone wr
  out : RowI (w.heap.size + 1 + 1 + 1 + 1) vo out wr
  far : ∀ g, vo.ownBlock = some g → v.ownBlock ≠ some g

section
variable {w wr w' : World} {n : Nat} {ms ms' : List Bool} {v v' vo vo' : Value} {path path' gone out out' : List Nat}

theorem LS.size (H : LS w n ms v path gone vo out wr) : w.heap.size + 1 + 1 + 1 + 1 ≤ wr.heap.size := H.es.small.1
theorem LS.glen (H : LS w n ms v path gone vo out wr) : gone.length = n := by
  rcases H.gone.2 with ⟨e, _⟩ | ⟨g, cap, cur, e, _⟩
  · cases e
  · simp at e
    exact e.2.1.symm
theorem LS.vrow (H : LS w n ms v path gone vo out wr) {k : Nat} (hk : v.ownBlock = some k) : w.heap.size + 1 + 1 + 1 + 1 ≤ k := (H.es.row.lt hk).1
theorem LS.below (H : LS w n ms v path gone vo out wr) (hb : Below wr.heap.size wr w') : LS w n ms v path gone vo out w' := by
  have hs := H.size
  exact ⟨H.old.trans (hb.mono H.old.size), H.es.below hb, H.gone.below hb, H.out.below hb, H.far⟩
theorem LS.enter (H : LS w n ms v path gone vo out wr) (he : ES (w.heap.size + 1 + 1 + 1 + 1) (w.heap.size + 1 + 1 + 1) (w.heap.size + 1 + 1) w.heap.size n ms' v' path' w') (ht : Tc (ET (w.heap.size + 1 + 1) w.heap.size v) wr w') (hl : Lies wr v v') : LS w n ms' v' path' gone vo out w' := by
  have hs := H.size
  refine ⟨H.old.trans (ht.below H.old.size fun k hk hS => ?_), he, H.gone.kept fun k hk => ?_, H.out.kept fun k hk => ?_, fun g hg e => ?_⟩
  · rcases hS with q | q | q
    · omega
    · omega
    · have := H.vrow q
      omega
  · simp [Value.ownBlock] at hk
    subst hk
    refine ht.block _ (by omega) fun hS => ?_
    rcases hS with q | q | q
    · omega
    · omega
    · have := H.vrow q
      omega
  · have h1 := H.out.lt hk
    refine ht.block _ h1.2 fun hS => ?_
    rcases hS with q | q | q
    · omega
    · omega
    · exact H.far k hk q
  · rcases hl g e with q | q
    · exact H.far g hg q
    · have := (H.out.lt hg).2
      omega
theorem LS.store (H : LS w n ms v path gone vo out wr) {k : Nat} (hk : k < n) (y : Nat) : LS w n ms v path (gone.set k y) vo out (wr.setCell ⟨w.heap.size + 1, k, none⟩ (.int .i64 (y : Nat))) := by
  have hs := H.size
  have hlen := H.glen
  have o : ∀ j, j ≠ w.heap.size + 1 → (wr.setCell ⟨w.heap.size + 1, k, none⟩ (.int .i64 (y : Nat))).heap[j]? = wr.heap[j]? := fun j hj => Below.heap_setCell _ _ _ _ hj
  refine ⟨H.old.setCell (p := ⟨w.heap.size + 1, k, none⟩) (by show _ ≤ w.heap.size + 1; omega) _, H.es.kept fun j hj hS => o j ?_, H.gone.set (by omega) y, H.out.kept fun j hj => o j (by have := (H.out.lt hj).1; omega), H.far⟩
  rcases hS with q | q | q | q
  · omega
  · omega
  · omega
  · have := H.vrow q
    omega
theorem LS.gcell (H : LS w n ms v path gone vo out wr) {k : Nat} (hk : k < n) : wr.cell? ⟨w.heap.size + 1, k, none⟩ = some (.int .i64 (gone.getD k 0 : Nat)) := H.gone.cell (by rw [H.glen]; exact hk)
theorem LS.gfrozen (H : LS w n ms v path gone vo out wr) (k : Nat) : wr.frozen? ⟨w.heap.size + 1, k, none⟩ = false := H.gone.frozen k
/-- The path's end is taken off. -/
theorem LS.cut {g c e : Nat} (H : LS w n ms (.slice (some ⟨g, 0, none⟩) (path.length + 1) c) (path ++ [e]) gone vo out wr) :
    LS w n ms (.slice (some ⟨g, 0, none⟩) path.length c) path gone vo out (wr.setCell ⟨w.heap.size, 0, none⟩ (.slice (some ⟨g, 0, none⟩) path.length c)) := by
  have hs := H.size
  have hr : RowI (w.heap.size + 1 + 1 + 1 + 1) (.slice (some ⟨g, 0, none⟩) path.length c) path wr := H.es.row.cut
  have o : ∀ j, j ≠ w.heap.size → (wr.setCell ⟨w.heap.size, 0, none⟩ (.slice (some ⟨g, 0, none⟩) path.length c)).heap[j]? = wr.heap[j]? := fun j hj => Below.heap_setCell _ _ _ _ hj
  refine ⟨H.old.setCell (p := ⟨w.heap.size, 0, none⟩) (Nat.le_refl _) _, H.es.put ⟨rfl, rfl, rfl, Nat.le_refl _, fun _ _ _ => rfl⟩ hr, H.gone.kept fun j hj => o j ?_, H.out.kept fun j hj => o j (by have := (H.out.lt hj).1; omega), fun q hq e => H.far q hq (by simpa [Value.ownBlock] using e)⟩
  simp [Value.ownBlock] at hj
  omega
theorem LS.push (H : LS w n ms v path gone vo out wr) (hr : RowI (w.heap.size + 1 + 1 + 1 + 1) vo' out' w') (hg : wr.grownBy w' vo.ownBlock) (hl : ∀ g, vo'.ownBlock = some g → vo.ownBlock = some g ∨ wr.heap.size < g) : LS w n ms v path gone vo' out' w' := by
  have hs := H.size
  have hvo : ∀ k, vo.ownBlock = some k → w.heap.size + 1 + 1 + 1 + 1 ≤ k := fun k hk => (H.out.lt hk).1
  have keep : ∀ k, k < wr.heap.size → k < w.heap.size + 1 + 1 + 1 + 1 → w'.heap[k]? = wr.heap[k]? := fun k hk hk' => hg.block k hk fun e => by have := hvo k e.symm; omega
  refine ⟨Below.grown H.old hg H.old.size fun k hk => by have := hvo k hk; omega, H.es.kept fun k hk hS => ?_, H.gone.kept fun k hk => ?_, hr, fun g hg' e => ?_⟩
  · rcases hS with q | q | q | q
    · exact keep k hk (by omega)
    · exact keep k hk (by omega)
    · exact keep k hk (by omega)
    · exact hg.block k hk fun e => H.far k e.symm q
  · simp [Value.ownBlock] at hk
    subst hk
    exact keep _ (by omega) (by omega)
  · rcases hl g hg' with q | q
    · exact H.far g q e
    · have := (H.es.row.lt e).2
      omega
end

theorem infoBool : (Try.prog.info? 4).map (fun i => (i.zero, i.size, i.bytes)) = some (some (.bool false), 1, 1) := by kernel_rfl
theorem make_bools (n : Nat) (hn : n ≤ 1048576) (w : World) : (Instr.makeSlice 79 (.int .i64 n) (.int .i64 n)).run Try.prog w = .ok (.slice (some ⟨w.heap.size, 0, none⟩) n n) (w.alloc (.cells (madeCells #[.bool false] n) 4)) :=
  make_one Try.underlying79 infoBool (by decide) rfl n hn w
theorem bools_made (n : Nat) : madeCells #[.bool false] n = ((List.replicate n false).map Value.bool).toArray := by
  apply Array.ext'
  rw [made_one]
  simp
end Go.Proofs.Ytilcongilokppad
