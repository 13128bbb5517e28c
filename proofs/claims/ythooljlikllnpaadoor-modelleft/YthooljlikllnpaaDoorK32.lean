/- Chapter 7: the law's own functions: num, call. -/
import Derived.Test.YthooljlikllnpaaDoorK31
namespace Go.Proofs.YthooljlikllnpaaDoor
set_option linter.unusedVariables false
set_option linter.unusedSimpArgs false
open Go.RowKit

/-- A node's cells. -/
def cv (k n : Int) (own : ByteArray) (kv : Value) : Array Value := #[.int .i64 k, .int .i64 0, .int .i64 n, .string ⟨#[]⟩, .string own, .int .i64 0, .int .i64 0, .string ⟨#[]⟩, .int .i64 0, .int .i64 0, .slice none 0 0, kv]
set_option maxRecDepth 100000 in
set_option maxHeartbeats 800000 in
theorem num_any (n : Int) (w : World) : Calls Tryd.prog 15 #[.int .i64 n] w fun e w' => e = .returned (.agg (cv 1 n ⟨#[]⟩ (.slice none 0 0))) ∧ Below w.heap.size w w' := by
  go_enter Tryd.func15, Tryd.ntmps15
  go_wp2_with fail
  exact bodyPost_ret (v := .agg (cv 1 n ⟨#[]⟩ (.slice none 0 0))) (by simp [results, Tryd.results15, go_sem, cv]) rfl ⟨rfl, (Below.refl _ _).alloc (Nat.le_refl _) _⟩
theorem infoCore : (Tryd.prog.info? 45).map (fun i => (i.zero, i.size, i.bytes)) = some (some (.agg (cv 0 0 ⟨#[]⟩ (.slice none 0 0))), 12, 152) := by kernel_rfl
/-- Cells that lie one behind the other. -/
def Rw (w : World) (b o : Nat) (l : List Value) : Prop := ∀ j u, l[j]? = some u → w.cell? ⟨b, o + j, none⟩ = some u
theorem Rw.of {w : World} {b : Nat} {cs : Array Value} {t : TypeId} {fz : Nat × Nat} (h : w.heap[b]? = some (.cells cs t fz)) : Rw w b 0 cs.toList := by
  intro j u hj
  rw [Nat.zero_add]
  simp [World.cell?, h]
  simpa using hj
theorem Rw.left {w : World} {b o : Nat} {l r : List Value} (h : Rw w b o (l ++ r)) : Rw w b o l := fun j u hj => h j u (by rw [List.getElem?_append_left (List.getElem?_eq_some_iff.1 hj).1]; exact hj)
theorem Rw.right {w : World} {b o : Nat} {l r : List Value} (h : Rw w b o (l ++ r)) : Rw w b (o + l.length) r := fun j u hj => by
  have := h (l.length + j) u (by rw [List.getElem?_append_right (by omega), Nat.add_sub_cancel_left]; exact hj)
  rw [← Nat.add_assoc] at this
  exact this
theorem Rw.stay {w w' : World} {b o : Nat} {l : List Value} (h : Rw w b o l) (e : w'.heap[b]? = w.heap[b]?) : Rw w' b o l := fun j u hj => (World.cell?_of_block e).trans (h j u hj)
theorem add_lit0 (g j : Nat) : (⟨g, 0, none⟩ : Addr).add j = ⟨g, j, none⟩ := by unfold Addr.add; split <;> simp_all
theorem wpList_append_eq {P : Program} {w : World} {ops : Array Oper} {rest : List Oper} {o : Oper} {a : Act} {Q : Exit → Act → World → Prop} (hgd : o.guard = none) (s x : Operand) (t : TypeId)
    (ho : o.op = .call { callee := .builtin .append, args := #[s, x], argTypes := #[t, t] }) (v xv : Value) (hs : a.eval s = v) (hx : a.eval x = xv) (v' : Value) (w' : World)
    (hr : (Builtin.append_ #[t, t] o.type #[v, xv]).run P w = .ok v' w') (h : wpList P ops Q rest (a.put o.dst v') w') : wpList P ops Q (o :: rest) a w := by
  refine wpList_plain hgd fun _ hK => ?_
  unfold Oper.wp execOp
  simp only [ho, resolve, invoke, builtin, Sem.run_bind, Sem.run_pure, Result.andThen_ok, List.map_toArray, List.map_cons, List.map_nil, hs, hx, hr]
  exact hK _ _ h
theorem append_cores (W : World) (g L n c : Nat) (xs ys : List Value) (hx : Rw W g 0 xs) (hxl : xs.length = 12) (hy : Rw W L 0 ys) (hyl : ys.length = n * 12) (hn0 : 0 < n) (hn : n ≤ 1000) :
    ∃ cap cs, 1 + n ≤ cap ∧ (Builtin.append_ #[37, 37] 37 #[.slice (some ⟨g, 0, none⟩) 1 1, .slice (some ⟨L, 0, none⟩) n c]).run Tryd.prog W = .ok (.slice (some ⟨W.heap.size, 0, none⟩) (1 + n) cap) (W.drew.alloc (.cells (xs.toArray ++ ys.toArray ++ cs) 45)) := by
  obtain ⟨i0, hi, hz0, hz1, hz2⟩ := info_parts infoCore
  have := run_append_grow (P := Tryd.prog) W 37 37 45 i0 _ Tryd.underlying37 hi hz0 ⟨g, 0, none⟩ 1 1 xs (by rw [hz1, hxl]) (fun j v hj => by rw [add_lit0]; simpa using hx j v hj) ⟨L, 0, none⟩ n c ys (by rw [hz1, hyl]) (fun j v hj => by rw [add_lit0]; simpa using hy j v hj) (by omega) (by omega) (growslice_fits (by omega) (by rw [hz2]; omega))
  exact ⟨_, _, grownCap_ge W (1 + n) 1 45, this⟩
def emB : ByteArray := ⟨#[]⟩
set_option maxRecDepth 100000 in
set_option maxHeartbeats 3200000 in
theorem callL_any (f : ByteArray) (L n c : Nat) (ys : List Value) (w : World) (hy : Rw w L 0 ys) (hyl : ys.length = n * 12) (hn0 : 0 < n) (hn : n ≤ 1000) (hL : L < w.heap.size) :
    Calls Tryd.prog 16 #[.string f, .slice (some ⟨L, 0, none⟩) n c] w fun e w' => Below w.heap.size w w' ∧ ∃ K cap, w.heap.size ≤ K ∧ K < w'.heap.size ∧ 1 + n ≤ cap ∧ e = .returned (.agg (cv 9 0 ⟨#[]⟩ (.slice (some ⟨K, 0, none⟩) (1 + n) cap))) ∧ Rw w' K 0 ((cv 6 0 f (.slice none 0 0)).toList ++ ys) := by
  obtain ⟨W, hW⟩ : ∃ W, W = (w.alloc (.cells (cv 0 0 ⟨#[]⟩ (.slice none 0 0)) 45)).alloc (.cells (cv 6 0 f (.slice none 0 0)) 45) := ⟨_, rfl⟩
  have hb : Below w.heap.size w W := by rw [hW]; exact ((Below.refl _ _).alloc (Nat.le_refl _) _).alloc (by simp) _
  have hx : Rw W (w.heap.size + 1) 0 (cv 6 0 f (.slice none 0 0)).toList := by
    have := World.alloc_heap_new (w.alloc (.cells (cv 0 0 ⟨#[]⟩ (.slice none 0 0)) 45)) (.cells (cv 6 0 f (.slice none 0 0)) 45)
    rw [← hW] at this
    simp at this
    exact Rw.of this
  obtain ⟨cap, cs, hcap, hap⟩ := append_cores W (w.heap.size + 1) L n c _ ys hx rfl (hy.stay (hb.block L hL)) hyl hn0 hn
  have hs : W.heap.size = w.heap.size + 1 + 1 := by rw [hW]; simp
  have h0 : W.heap[w.heap.size]? = some (.cells (cv 0 0 ⟨#[]⟩ (.slice none 0 0)) 45 (0, 0)) := by
    rw [hW, Below.heap_alloc _ _ _ (alloc_lt _ _)]
    exact World.alloc_heap_new w _
  obtain ⟨W2, hW2⟩ : ∃ W2, W2 = W.drew.alloc (.cells ((cv 6 0 f (.slice none 0 0)).toList.toArray ++ ys.toArray ++ cs) 45) := ⟨_, rfl⟩
  have hb2 : Below W.heap.size W W2 := by rw [hW2]; exact (Below.drew (Below.refl _ _)).alloc (Nat.le_refl _) _
  have h2 : W2.heap[w.heap.size]? = some (.cells (cv 0 0 ⟨#[]⟩ (.slice none 0 0)) 45 (0, 0)) := (hb2.block _ (by omega)).trans h0
  have hr2 : Rw W2 W.heap.size 0 ((cv 6 0 f (.slice none 0 0)).toList ++ ys) := by
    have := Rw.of (World.alloc_heap_new W.drew (.cells ((cv 6 0 f (.slice none 0 0)).toList.toArray ++ ys.toArray ++ cs) 45))
    rw [← hW2] at this
    simp only [Array.toList_append] at this
    exact this.left
  have hl2 : W.heap.size < W2.heap.size := by rw [hW2]; exact alloc_lt _ _
  rw [← hW2] at hap
  have HB := hidd (hb.trans (hb2.mono hb.size))
  have HR := hidd hr2
  have HS : Hid (W.heap.size = w.heap.size + 1 + 1 ∧ W.heap.size < W2.heap.size) := ⟨hs, hl2⟩
  have HC := hidd hcap
  have q0 : W2.cell? ⟨w.heap.size, 0, none⟩ = some (.int .i64 0) := (cellO h2).trans rfl
  have z0 : W2.frozen? ⟨w.heap.size, 0, none⟩ = false := looseO h2
  have q1 : W2.cell? ⟨w.heap.size, 1, none⟩ = some (.int .i64 0) := (cellO h2).trans rfl
  have z1 : W2.frozen? ⟨w.heap.size, 1, none⟩ = false := looseO h2
  have q2 : W2.cell? ⟨w.heap.size, 2, none⟩ = some (.int .i64 0) := (cellO h2).trans rfl
  have z2 : W2.frozen? ⟨w.heap.size, 2, none⟩ = false := looseO h2
  have q3 : W2.cell? ⟨w.heap.size, 3, none⟩ = some (.string ⟨#[]⟩) := (cellO h2).trans rfl
  have z3 : W2.frozen? ⟨w.heap.size, 3, none⟩ = false := looseO h2
  have q4 : W2.cell? ⟨w.heap.size, 4, none⟩ = some (.string ⟨#[]⟩) := (cellO h2).trans rfl
  have z4 : W2.frozen? ⟨w.heap.size, 4, none⟩ = false := looseO h2
  have q5 : W2.cell? ⟨w.heap.size, 5, none⟩ = some (.int .i64 0) := (cellO h2).trans rfl
  have z5 : W2.frozen? ⟨w.heap.size, 5, none⟩ = false := looseO h2
  have q6 : W2.cell? ⟨w.heap.size, 6, none⟩ = some (.int .i64 0) := (cellO h2).trans rfl
  have z6 : W2.frozen? ⟨w.heap.size, 6, none⟩ = false := looseO h2
  have q7 : W2.cell? ⟨w.heap.size, 7, none⟩ = some (.string ⟨#[]⟩) := (cellO h2).trans rfl
  have z7 : W2.frozen? ⟨w.heap.size, 7, none⟩ = false := looseO h2
  have q8 : W2.cell? ⟨w.heap.size, 8, none⟩ = some (.int .i64 0) := (cellO h2).trans rfl
  have z8 : W2.frozen? ⟨w.heap.size, 8, none⟩ = false := looseO h2
  have q9 : W2.cell? ⟨w.heap.size, 9, none⟩ = some (.int .i64 0) := (cellO h2).trans rfl
  have z9 : W2.frozen? ⟨w.heap.size, 9, none⟩ = false := looseO h2
  have q10 : W2.cell? ⟨w.heap.size, 10, none⟩ = some (.slice none 0 0) := (cellO h2).trans rfl
  have z10 : W2.frozen? ⟨w.heap.size, 10, none⟩ = false := looseO h2
  have q11 : W2.cell? ⟨w.heap.size, 11, none⟩ = some (.slice none 0 0) := (cellO h2).trans rfl
  have z11 : W2.frozen? ⟨w.heap.size, 11, none⟩ = false := looseO h2
  clear hb hx hy hyl hs hcap h0 h2 hr2 hl2 hb2 hW2
  have hw1 := hW.symm
  clear hW
  unfold cv at hw1
  go_enter Tryd.func16, Tryd.ntmps16
  go_wp2_with (at_builtin; refine wpList_append_eq rfl _ _ 37 rfl _ _ rfl rfl _ _ hap ?_)
  have HK := hidd (((((((((((((Keep.refl w.heap.size W2).setCell ⟨w.heap.size, 0, none⟩ rfl (.int .i64 9)).setCell ⟨w.heap.size, 1, none⟩ rfl (.int .i64 0)).setCell ⟨w.heap.size, 2, none⟩ rfl (.int .i64 0)).setCell ⟨w.heap.size, 3, none⟩ rfl (.string ⟨#[]⟩)).setCell ⟨w.heap.size, 4, none⟩ rfl (.string ⟨#[]⟩)).setCell ⟨w.heap.size, 5, none⟩ rfl (.int .i64 0)).setCell ⟨w.heap.size, 6, none⟩ rfl (.int .i64 0)).setCell ⟨w.heap.size, 7, none⟩ rfl (.string ⟨#[]⟩)).setCell ⟨w.heap.size, 8, none⟩ rfl (.int .i64 0)).setCell ⟨w.heap.size, 9, none⟩ rfl (.int .i64 0)).setCell ⟨w.heap.size, 10, none⟩ rfl (.slice none 0 0)).setCell ⟨w.heap.size, 11, none⟩ rfl (.slice (some ⟨W.heap.size, 0, none⟩) (1 + n) cap))
  have hsz := HK.out.size
  refine bodyPost_ret (v := .agg (cv 9 0 ⟨#[]⟩ (.slice (some ⟨W.heap.size, 0, none⟩) (1 + n) cap))) (by simp [results, Tryd.results16, go_sem, cv, q0, q1, q2, q3, q4, q5, q6, q7, q8, q9, q10, q11]) rfl ⟨HB.out.trans (HK.out.toBelow (Nat.le_refl _) HB.out.size), W.heap.size, cap, by have := HS.out; omega, by have := HS.out; omega, HC.out, rfl, HR.out.stay (HK.out.block _ HS.out.2 (by have := HS.out.1; simp; omega))⟩
end Go.Proofs.YthooljlikllnpaaDoor
