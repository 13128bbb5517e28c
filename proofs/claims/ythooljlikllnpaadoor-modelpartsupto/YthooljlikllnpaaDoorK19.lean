/- Chapter 7: the law's own functions: num, call. Chapter 7: the law's own functions: alive. -/
import Derived.Test.YthooljlikllnpaaDoorK18
namespace Go.Proofs.YthooljlikllnpaaDoor
section
set_option linter.unusedVariables false
set_option linter.unusedSimpArgs false
open Go.RowKit

/-- A node's cells. -/
def cv (k n : Int) (own : ByteArray) (kv : Value) : Array Value := #[.int .i64 k, .int .i64 0, .int .i64 n, .string ⟨#[]⟩, .string own, .int .i64 0, .int .i64 0, .string ⟨#[]⟩, .int .i64 0, .int .i64 0, .slice none 0 0, kv]
set_option maxRecDepth 100000 in
set_option maxHeartbeats 800000 in
theorem num_any (n : Int) (w : World) : Calls Tryd.prog 15 #[.int .i64 n] w fun e w' => e = .returned (.agg (cv 1 n ⟨#[]⟩ (.slice none 0 0))) ∧ Below w.heap.size w w' := by
  go_enter Tryd.func15, Tryd.ntmps15
  go_wp2_with fail
  exact bodyPost_ret (v := .agg (cv 1 n ⟨#[]⟩ (.slice none 0 0))) (by simp [results, Tryd.results15, go_sem, cv]) rfl ⟨rfl, (Below.refl _ _).alloc (Nat.le_refl _) _⟩
theorem infoCore : (Tryd.prog.info? 45).map (fun i => (i.zero, i.size, i.bytes)) = some (some (.agg (cv 0 0 ⟨#[]⟩ (.slice none 0 0))), 12, 152) := by kernel_rfl
/-- Cells that lie one behind the other. -/
def Rw (w : World) (b o : Nat) (l : List Value) : Prop := ∀ j u, l[j]? = some u → w.cell? ⟨b, o + j, none⟩ = some u
theorem Rw.of {w : World} {b : Nat} {cs : Array Value} {t : TypeId} {fz : Nat × Nat} (h : w.heap[b]? = some (.cells cs t fz)) : Rw w b 0 cs.toList := by
  intro j u hj
  rw [Nat.zero_add]
  simp [World.cell?, h]
  simpa using hj
theorem Rw.left {w : World} {b o : Nat} {l r : List Value} (h : Rw w b o (l ++ r)) : Rw w b o l := fun j u hj => h j u (by rw [List.getElem?_append_left (List.getElem?_eq_some_iff.1 hj).1]; exact hj)
theorem Rw.right {w : World} {b o : Nat} {l r : List Value} (h : Rw w b o (l ++ r)) : Rw w b (o + l.length) r := fun j u hj => by
  have := h (l.length + j) u (by rw [List.getElem?_append_right (by omega), Nat.add_sub_cancel_left]; exact hj)
  rw [← Nat.add_assoc] at this
  exact this
theorem Rw.stay {w w' : World} {b o : Nat} {l : List Value} (h : Rw w b o l) (e : w'.heap[b]? = w.heap[b]?) : Rw w' b o l := fun j u hj => (World.cell?_of_block e).trans (h j u hj)
theorem add_lit0 (g j : Nat) : (⟨g, 0, none⟩ : Addr).add j = ⟨g, j, none⟩ := by unfold Addr.add; split <;> simp_all
theorem wpList_append_eq {P : Program} {w : World} {ops : Array Oper} {rest : List Oper} {o : Oper} {a : Act} {Q : Exit → Act → World → Prop} (hgd : o.guard = none) (s x : Operand) (t : TypeId)
    (ho : o.op = .call { callee := .builtin .append, args := #[s, x], argTypes := #[t, t] }) (v xv : Value) (hs : a.eval s = v) (hx : a.eval x = xv) (v' : Value) (w' : World)
    (hr : (Builtin.append_ #[t, t] o.type #[v, xv]).run P w = .ok v' w') (h : wpList P ops Q rest (a.put o.dst v') w') : wpList P ops Q (o :: rest) a w := by
  refine wpList_plain hgd fun _ hK => ?_
  unfold Oper.wp execOp
  simp only [ho, resolve, invoke, builtin, Sem.run_bind, Sem.run_pure, Result.andThen_ok, List.map_toArray, List.map_cons, List.map_nil, hs, hx, hr]
  exact hK _ _ h
theorem append_cores (W : World) (g L n c : Nat) (xs ys : List Value) (hx : Rw W g 0 xs) (hxl : xs.length = 12) (hy : Rw W L 0 ys) (hyl : ys.length = n * 12) (hn0 : 0 < n) (hn : n ≤ 1000) :
    ∃ cap cs, 1 + n ≤ cap ∧ (Builtin.append_ #[37, 37] 37 #[.slice (some ⟨g, 0, none⟩) 1 1, .slice (some ⟨L, 0, none⟩) n c]).run Tryd.prog W = .ok (.slice (some ⟨W.heap.size, 0, none⟩) (1 + n) cap) (W.drew.alloc (.cells (xs.toArray ++ ys.toArray ++ cs) 45)) := by
  obtain ⟨i0, hi, hz0, hz1, hz2⟩ := info_parts infoCore
  have := run_append_grow (P := Tryd.prog) W 37 37 45 i0 _ Tryd.underlying37 hi hz0 ⟨g, 0, none⟩ 1 1 xs (by rw [hz1, hxl]) (fun j v hj => by rw [add_lit0]; simpa using hx j v hj) ⟨L, 0, none⟩ n c ys (by rw [hz1, hyl]) (fun j v hj => by rw [add_lit0]; simpa using hy j v hj) (by omega) (by omega) (growslice_fits (by omega) (by rw [hz2]; omega))
  exact ⟨_, _, grownCap_ge W (1 + n) 1 45, this⟩
def emB : ByteArray := ⟨#[]⟩
set_option maxRecDepth 100000 in
set_option maxHeartbeats 3200000 in
theorem callL_any (f : ByteArray) (L n c : Nat) (ys : List Value) (w : World) (hy : Rw w L 0 ys) (hyl : ys.length = n * 12) (hn0 : 0 < n) (hn : n ≤ 1000) (hL : L < w.heap.size) :
    Calls Tryd.prog 16 #[.string f, .slice (some ⟨L, 0, none⟩) n c] w fun e w' => Below w.heap.size w w' ∧ ∃ K cap, w.heap.size ≤ K ∧ K < w'.heap.size ∧ 1 + n ≤ cap ∧ e = .returned (.agg (cv 9 0 ⟨#[]⟩ (.slice (some ⟨K, 0, none⟩) (1 + n) cap))) ∧ Rw w' K 0 ((cv 6 0 f (.slice none 0 0)).toList ++ ys) := by
  obtain ⟨W, hW⟩ : ∃ W, W = (w.alloc (.cells (cv 0 0 ⟨#[]⟩ (.slice none 0 0)) 45)).alloc (.cells (cv 6 0 f (.slice none 0 0)) 45) := ⟨_, rfl⟩
  have hb : Below w.heap.size w W := by rw [hW]; exact ((Below.refl _ _).alloc (Nat.le_refl _) _).alloc (by simp) _
  have hx : Rw W (w.heap.size + 1) 0 (cv 6 0 f (.slice none 0 0)).toList := by
    have := World.alloc_heap_new (w.alloc (.cells (cv 0 0 ⟨#[]⟩ (.slice none 0 0)) 45)) (.cells (cv 6 0 f (.slice none 0 0)) 45)
    rw [← hW] at this
    simp at this
    exact Rw.of this
  obtain ⟨cap, cs, hcap, hap⟩ := append_cores W (w.heap.size + 1) L n c _ ys hx rfl (hy.stay (hb.block L hL)) hyl hn0 hn
  have hs : W.heap.size = w.heap.size + 1 + 1 := by rw [hW]; simp
  have h0 : W.heap[w.heap.size]? = some (.cells (cv 0 0 ⟨#[]⟩ (.slice none 0 0)) 45 (0, 0)) := by
    rw [hW, Below.heap_alloc _ _ _ (alloc_lt _ _)]
    exact World.alloc_heap_new w _
  obtain ⟨W2, hW2⟩ : ∃ W2, W2 = W.drew.alloc (.cells ((cv 6 0 f (.slice none 0 0)).toList.toArray ++ ys.toArray ++ cs) 45) := ⟨_, rfl⟩
  have hb2 : Below W.heap.size W W2 := by rw [hW2]; exact (Below.drew (Below.refl _ _)).alloc (Nat.le_refl _) _
  have h2 : W2.heap[w.heap.size]? = some (.cells (cv 0 0 ⟨#[]⟩ (.slice none 0 0)) 45 (0, 0)) := (hb2.block _ (by omega)).trans h0
  have hr2 : Rw W2 W.heap.size 0 ((cv 6 0 f (.slice none 0 0)).toList ++ ys) := by
    have := Rw.of (World.alloc_heap_new W.drew (.cells ((cv 6 0 f (.slice none 0 0)).toList.toArray ++ ys.toArray ++ cs) 45))
    rw [← hW2] at this
    simp only [Array.toList_append] at this
    exact this.left
  have hl2 : W.heap.size < W2.heap.size := by rw [hW2]; exact alloc_lt _ _
  rw [← hW2] at hap
  have HB := hidd (hb.trans (hb2.mono hb.size))
  have HR := hidd hr2
  have HS : Hid (W.heap.size = w.heap.size + 1 + 1 ∧ W.heap.size < W2.heap.size) := ⟨hs, hl2⟩
  have HC := hidd hcap
  have q0 : W2.cell? ⟨w.heap.size, 0, none⟩ = some (.int .i64 0) := (cellO h2).trans rfl
  have z0 : W2.frozen? ⟨w.heap.size, 0, none⟩ = false := looseO h2
  have q1 : W2.cell? ⟨w.heap.size, 1, none⟩ = some (.int .i64 0) := (cellO h2).trans rfl
  have z1 : W2.frozen? ⟨w.heap.size, 1, none⟩ = false := looseO h2
  have q2 : W2.cell? ⟨w.heap.size, 2, none⟩ = some (.int .i64 0) := (cellO h2).trans rfl
  have z2 : W2.frozen? ⟨w.heap.size, 2, none⟩ = false := looseO h2
  have q3 : W2.cell? ⟨w.heap.size, 3, none⟩ = some (.string ⟨#[]⟩) := (cellO h2).trans rfl
  have z3 : W2.frozen? ⟨w.heap.size, 3, none⟩ = false := looseO h2
  have q4 : W2.cell? ⟨w.heap.size, 4, none⟩ = some (.string ⟨#[]⟩) := (cellO h2).trans rfl
  have z4 : W2.frozen? ⟨w.heap.size, 4, none⟩ = false := looseO h2
  have q5 : W2.cell? ⟨w.heap.size, 5, none⟩ = some (.int .i64 0) := (cellO h2).trans rfl
  have z5 : W2.frozen? ⟨w.heap.size, 5, none⟩ = false := looseO h2
  have q6 : W2.cell? ⟨w.heap.size, 6, none⟩ = some (.int .i64 0) := (cellO h2).trans rfl
  have z6 : W2.frozen? ⟨w.heap.size, 6, none⟩ = false := looseO h2
  have q7 : W2.cell? ⟨w.heap.size, 7, none⟩ = some (.string ⟨#[]⟩) := (cellO h2).trans rfl
  have z7 : W2.frozen? ⟨w.heap.size, 7, none⟩ = false := looseO h2
  have q8 : W2.cell? ⟨w.heap.size, 8, none⟩ = some (.int .i64 0) := (cellO h2).trans rfl
  have z8 : W2.frozen? ⟨w.heap.size, 8, none⟩ = false := looseO h2
  have q9 : W2.cell? ⟨w.heap.size, 9, none⟩ = some (.int .i64 0) := (cellO h2).trans rfl
  have z9 : W2.frozen? ⟨w.heap.size, 9, none⟩ = false := looseO h2
  have q10 : W2.cell? ⟨w.heap.size, 10, none⟩ = some (.slice none 0 0) := (cellO h2).trans rfl
  have z10 : W2.frozen? ⟨w.heap.size, 10, none⟩ = false := looseO h2
  have q11 : W2.cell? ⟨w.heap.size, 11, none⟩ = some (.slice none 0 0) := (cellO h2).trans rfl
  have z11 : W2.frozen? ⟨w.heap.size, 11, none⟩ = false := looseO h2
  clear hb hx hy hyl hs hcap h0 h2 hr2 hl2 hb2 hW2
  have hw1 := hW.symm
  clear hW
  unfold cv at hw1
  go_enter Tryd.func16, Tryd.ntmps16
  go_wp2_with (at_builtin; refine wpList_append_eq rfl _ _ 37 rfl _ _ rfl rfl _ _ hap ?_)
  have HK := hidd (((((((((((((Keep.refl w.heap.size W2).setCell ⟨w.heap.size, 0, none⟩ rfl (.int .i64 9)).setCell ⟨w.heap.size, 1, none⟩ rfl (.int .i64 0)).setCell ⟨w.heap.size, 2, none⟩ rfl (.int .i64 0)).setCell ⟨w.heap.size, 3, none⟩ rfl (.string ⟨#[]⟩)).setCell ⟨w.heap.size, 4, none⟩ rfl (.string ⟨#[]⟩)).setCell ⟨w.heap.size, 5, none⟩ rfl (.int .i64 0)).setCell ⟨w.heap.size, 6, none⟩ rfl (.int .i64 0)).setCell ⟨w.heap.size, 7, none⟩ rfl (.string ⟨#[]⟩)).setCell ⟨w.heap.size, 8, none⟩ rfl (.int .i64 0)).setCell ⟨w.heap.size, 9, none⟩ rfl (.int .i64 0)).setCell ⟨w.heap.size, 10, none⟩ rfl (.slice none 0 0)).setCell ⟨w.heap.size, 11, none⟩ rfl (.slice (some ⟨W.heap.size, 0, none⟩) (1 + n) cap))
  have hsz := HK.out.size
  refine bodyPost_ret (v := .agg (cv 9 0 ⟨#[]⟩ (.slice (some ⟨W.heap.size, 0, none⟩) (1 + n) cap))) (by simp [results, Tryd.results16, go_sem, cv, q0, q1, q2, q3, q4, q5, q6, q7, q8, q9, q10, q11]) rfl ⟨HB.out.trans (HK.out.toBelow (Nat.le_refl _) HB.out.size), W.heap.size, cap, by have := HS.out; omega, by have := HS.out; omega, HC.out, rfl, HR.out.stay (HK.out.block _ HS.out.2 (by have := HS.out.1; simp; omega))⟩
end
section
set_option linter.unusedVariables false
set_option linter.unusedSimpArgs false
open Go.RowKit

theorem Nc.of {w : World} {b o : Nat} {k n : Int} {own : ByteArray} {ka : Option Addr} {kl kc : Nat} {kids : List Cor} (h : Rw w b o (cv k n own (.slice ka kl kc)).toList) (hk : kids.length = kl) : Nc w b o ⟨k, 0, n, ⟨#[]⟩, own, dat0, kids⟩ none 0 ka kc := by
  subst hk
  exact ⟨by simpa using h 0 _ rfl, h 1 _ rfl, h 2 _ rfl, h 3 _ rfl, h 4 _ rfl, h 5 _ rfl, h 6 _ rfl, h 7 _ rfl, h 8 _ rfl, h 9 _ rfl, h 10 _ rfl, h 11 _ rfl⟩
theorem cc_leaf {B : Nat} {w : World} (g : Nat) (a : Option Addr) : Cc B w g a [] := by
  cases g with
  | zero => rfl
  | succ g => exact ⟨Nat.zero_le _, Or.inl rfl⟩
theorem cc_two {B : Nat} {w : World} {f : ByteArray} {x y : Int} {C L M cap cap2 : Nat} (h1 : Rw w C 0 (cv 9 0 ⟨#[]⟩ (.slice (some ⟨L, 0, none⟩) 2 cap)).toList)
    (h2 : Rw w L 0 ((cv 6 0 outB (.slice none 0 0)).toList ++ (cv 9 0 ⟨#[]⟩ (.slice (some ⟨M, 0, none⟩) 3 cap2)).toList))
    (h3 : Rw w M 0 ((cv 6 0 f (.slice none 0 0)).toList ++ ((cv 1 x ⟨#[]⟩ (.slice none 0 0)).toList ++ (cv 1 y ⟨#[]⟩ (.slice none 0 0)).toList)))
    (hC : C < B) (hL : L < B) (hM : M < B) (hcap : 2 ≤ cap) (hcap2 : 3 ≤ cap2) (hf : f.size ≤ maxLen) : Cc B w 3 (some ⟨C, 0, none⟩) [corC outB [corC f [corN x, corN y]]] := by
  have em : ByteArray.size ⟨#[]⟩ ≤ maxLen := Nat.zero_le _
  refine ⟨by simp, Or.inr ⟨C, 0, rfl, hC, fun i c hi => ?_⟩⟩
  match i, hi with
  | 0, hi =>
    simp at hi
    subst hi
    refine ⟨none, 0, some ⟨L, 0, none⟩, cap, Nc.of (by simpa using h1) rfl, ⟨em, em, em, Nat.le_refl _, hcap⟩, Dc.nil _ _ _ _, ?_⟩
    refine ⟨by simp [corC], Or.inr ⟨L, 0, rfl, hL, fun i c hi => ?_⟩⟩
    match i, hi with
    | 0, hi =>
      simp [corC] at hi
      subst hi
      exact ⟨none, 0, none, 0, Nc.of (by simpa using h2.left) rfl, ⟨em, by decide, em, Nat.le_refl _, Nat.le_refl _⟩, Dc.nil _ _ _ _, cc_leaf _ _⟩
    | 1, hi =>
      simp [corC] at hi
      subst hi
      refine ⟨none, 0, some ⟨M, 0, none⟩, cap2, Nc.of (by simpa [cv] using h2.right) rfl, ⟨em, em, em, Nat.le_refl _, hcap2⟩, Dc.nil _ _ _ _, ?_⟩
      refine ⟨by simp [corC], Or.inr ⟨M, 0, rfl, hM, fun i c hi => ?_⟩⟩
      match i, hi with
      | 0, hi =>
        simp [corC] at hi
        subst hi
        exact ⟨none, 0, none, 0, Nc.of (by simpa using h3.left) rfl, ⟨em, hf, em, Nat.le_refl _, Nat.le_refl _⟩, Dc.nil _ _ _ _, cc_leaf _ _⟩
      | 1, hi =>
        simp [corC] at hi
        subst hi
        exact ⟨none, 0, none, 0, Nc.of (by simpa [cv] using h3.right.left) rfl, ⟨em, em, em, Nat.le_refl _, Nat.le_refl _⟩, Dc.nil _ _ _ _, cc_leaf _ _⟩
      | 2, hi =>
        simp [corC] at hi
        subst hi
        exact ⟨none, 0, none, 0, Nc.of (by simpa [cv] using h3.right.right) rfl, ⟨em, em, em, Nat.le_refl _, Nat.le_refl _⟩, Dc.nil _ _ _ _, cc_leaf _ _⟩
      | n + 3, hi => simp [corC] at hi
    | n + 2, hi => simp [corC] at hi
  | n + 1, hi => simp at hi
def kid2 (x y : Int) : List Value := (cv 1 x ⟨#[]⟩ (.slice none 0 0)).toList ++ (cv 1 y ⟨#[]⟩ (.slice none 0 0)).toList
theorem call2 (f : ByteArray) (x y : Int) (W : World) : Calls Tryd.prog 16 #[.string f, .slice (some ⟨W.heap.size, 0, none⟩) 2 2] (W.alloc (.cells (kid2 x y).toArray 45)) fun e w' => Below W.heap.size W w' ∧ ∃ M cap, W.heap.size ≤ M ∧ M < w'.heap.size ∧ 3 ≤ cap ∧ e = .returned (.agg (cv 9 0 ⟨#[]⟩ (.slice (some ⟨M, 0, none⟩) 3 cap))) ∧ Rw w' M 0 ((cv 6 0 f (.slice none 0 0)).toList ++ kid2 x y) := by
  have hb : Below W.heap.size W (W.alloc (.cells (kid2 x y).toArray 45)) := (Below.refl _ _).alloc (Nat.le_refl _) _
  have h := Rw.of (World.alloc_heap_new W (.cells (kid2 x y).toArray 45))
  refine (callL_any f W.heap.size 2 2 (kid2 x y) _ (by simpa using h) rfl (by omega) (by omega) (alloc_lt _ _)).mono ?_
  rintro e w' ⟨h1, M, cap, h2, h3, h4, h5, h6⟩
  exact ⟨hb.trans (h1.mono hb.size), M, cap, Nat.le_trans hb.size h2, h3, h4, h5, h6⟩
theorem call1 (f : ByteArray) (M cap2 : Nat) (W : World) : Calls Tryd.prog 16 #[.string f, .slice (some ⟨W.heap.size, 0, none⟩) 1 1] (W.alloc (.cells (cv 9 0 ⟨#[]⟩ (.slice (some ⟨M, 0, none⟩) 3 cap2)) 45)) fun e w' => Below W.heap.size W w' ∧ ∃ L cap, W.heap.size ≤ L ∧ L < w'.heap.size ∧ 2 ≤ cap ∧ e = .returned (.agg (cv 9 0 ⟨#[]⟩ (.slice (some ⟨L, 0, none⟩) 2 cap))) ∧ Rw w' L 0 ((cv 6 0 f (.slice none 0 0)).toList ++ (cv 9 0 ⟨#[]⟩ (.slice (some ⟨M, 0, none⟩) 3 cap2)).toList) := by
  have hb : Below W.heap.size W (W.alloc (.cells (cv 9 0 ⟨#[]⟩ (.slice (some ⟨M, 0, none⟩) 3 cap2)) 45)) := (Below.refl _ _).alloc (Nat.le_refl _) _
  have h := Rw.of (World.alloc_heap_new W (.cells (cv 9 0 ⟨#[]⟩ (.slice (some ⟨M, 0, none⟩) 3 cap2)) 45))
  refine (callL_any f W.heap.size 1 1 _ _ h rfl (by omega) (by omega) (alloc_lt _ _)).mono ?_
  rintro e w' ⟨h1, L, cap, h2, h3, h4, h5, h6⟩
  exact ⟨hb.trans (h1.mono hb.size), L, cap, Nat.le_trans hb.size h2, h3, h4, h5, h6⟩
/-- A part of one expression, laid. -/
def laid (nm : ByteArray) (L cap : Nat) (W : World) : World := (W.alloc (.cells (cv 9 0 ⟨#[]⟩ (.slice (some ⟨L, 0, none⟩) 2 cap)) 45)).alloc (.cells #[.string nm, .slice (some ⟨W.heap.size, 0, none⟩) 1 1] 39)
theorem laid_ok (nm f : ByteArray) (x y : Int) (L cap M cap2 : Nat) (W : World) (hL : L < W.heap.size) (hM : M < W.heap.size) (hc : 2 ≤ cap) (hc2 : 3 ≤ cap2) (hf : f.size ≤ maxLen)
    (h2 : Rw W L 0 ((cv 6 0 outB (.slice none 0 0)).toList ++ (cv 9 0 ⟨#[]⟩ (.slice (some ⟨M, 0, none⟩) 3 cap2)).toList)) (h3 : Rw W M 0 ((cv 6 0 f (.slice none 0 0)).toList ++ kid2 x y)) :
    Below W.heap.size W (laid nm L cap W) ∧ Cc (W.heap.size + 1) (laid nm L cap W) 3 (some ⟨W.heap.size, 0, none⟩) [corC outB [corC f [corN x, corN y]]] ∧ W.heap.size + 1 < (laid nm L cap W).heap.size ∧
      (laid nm L cap W).heap[W.heap.size + 1]? = some (.cells #[.string nm, .slice (some ⟨W.heap.size, 0, none⟩) 1 1] 39 (0, 0)) := by
  have hb : Below W.heap.size W (laid nm L cap W) := ((Below.refl _ _).alloc (Nat.le_refl _) _).alloc (by simp) _
  have hn := World.alloc_heap_new (W.alloc (.cells (cv 9 0 ⟨#[]⟩ (.slice (some ⟨L, 0, none⟩) 2 cap)) 45)) (.cells #[.string nm, .slice (some ⟨W.heap.size, 0, none⟩) 1 1] 39)
  have hC : (laid nm L cap W).heap[W.heap.size]? = some (.cells (cv 9 0 ⟨#[]⟩ (.slice (some ⟨L, 0, none⟩) 2 cap)) 45 (0, 0)) := by
    unfold laid
    rw [Below.heap_alloc _ _ _ (alloc_lt _ _)]
    exact World.alloc_heap_new W _
  refine ⟨hb, cc_two (Rw.of hC) (h2.stay (hb.block L hL)) (h3.stay (hb.block M hM)) (by omega) (by omega) (by omega) hc hc2 hf, by simp [laid], ?_⟩
  simpa [laid] using hn
theorem laid_pair (T : Nat) (nm : ByteArray) (x y : Int) (L cap M cap2 : Nat) (W : World) (hL : L < W.heap.size) (hM : M < W.heap.size) (hc : 2 ≤ cap) (hc2 : 3 ≤ cap2)
    (h2 : Rw W L 0 ((cv 6 0 outB (.slice none 0 0)).toList ++ (cv 9 0 ⟨#[]⟩ (.slice (some ⟨M, 0, none⟩) 3 cap2)).toList)) (h3 : Rw W M 0 ((cv 6 0 consB (.slice none 0 0)).toList ++ kid2 x y))
    (ht : Tab T W) (hT : T ≤ W.heap.size) (q1 : rangeN x = true) (q2 : rangeN y = true) :
    Calls Tryd.prog 8 #[.slice (some ⟨W.heap.size + 1, 0, none⟩) 1 1, .int .i64 20] (laid nm L cap W) fun e w' => Below W.heap.size W w' ∧ ∃ a n c, e = .returned (.tuple #[.agg #[.int .i64 1, .slice a n c], fv (0, 0)]) ∧ T1 true (pairB x y) a n c w' := by
  obtain ⟨g1, g2, g3, g4⟩ := laid_ok nm consB x y L cap M cap2 W hL hM hc hc2 (by decide) h2 h3
  refine (Run_pair x y (W.heap.size + 1) 2 T (W.heap.size + 1) W.heap.size 0 1 nm _ g2 (by omega) (by omega) g4 (ht.below (g1.mono hT)) (by omega) q1 q2).mono ?_
  rintro e w' ⟨hb, r⟩
  exact ⟨g1.trans (hb.mono g1.size), r⟩
theorem laid_sum (T : Nat) (nm : ByteArray) (f : Fin 4) (x y : Int) (L cap M cap2 : Nat) (W : World) (hL : L < W.heap.size) (hM : M < W.heap.size) (hc : 2 ≤ cap) (hc2 : 3 ≤ cap2)
    (h2 : Rw W L 0 ((cv 6 0 outB (.slice none 0 0)).toList ++ (cv 9 0 ⟨#[]⟩ (.slice (some ⟨M, 0, none⟩) 3 cap2)).toList)) (h3 : Rw W M 0 ((cv 6 0 (opB f) (.slice none 0 0)).toList ++ kid2 x y))
    (ht : Tab T W) (hT : T ≤ W.heap.size) (q1 : rangeN x = true) (q2 : rangeN y = true) :
    Calls Tryd.prog 8 #[.slice (some ⟨W.heap.size + 1, 0, none⟩) 1 1, .int .i64 100] (laid nm L cap W) fun e w' => Below W.heap.size W w' ∧ ∃ a n c, e = .returned (.tuple #[.agg #[.int .i64 (if opOk f x y then 1 else 6), .slice a n c], fv (0, 0)]) ∧ T1 (opOk f x y) (opS f x y) a n c w' := by
  have hf : (opB f).size ≤ maxLen := by match f with | 0 => decide | 1 => decide | 2 => decide | 3 => decide
  obtain ⟨g1, g2, g3, g4⟩ := laid_ok nm (opB f) x y L cap M cap2 W hL hM hc hc2 hf h2 h3
  refine (Run_sum f x y (W.heap.size + 1) 2 T (W.heap.size + 1) W.heap.size 0 1 nm _ g2 (by omega) (by omega) g4 (ht.below (g1.mono hT)) (by omega) q1 q2).mono ?_
  rintro e w' ⟨hb, r⟩
  exact ⟨g1.trans (hb.mono g1.size), r⟩
theorem cell_lt {w : World} {G q : Nat} {v : Value} (h : w.cell? ⟨G, q, none⟩ = some v) : G < w.heap.size := by
  by_cases hl : G < w.heap.size
  · exact hl
  · simp [World.cell?, Array.getElem?_eq_none (Nat.le_of_not_lt hl)] at h
theorem two_boxes {w : World} {G q : Nat} {v : Value} (A B : Obj) (h : w.cell? ⟨G, q, none⟩ = some v) : ((w.alloc A).alloc B).cell? ⟨G, q, none⟩ = some v := by
  have hl := cell_lt h
  have hb : Below w.heap.size w ((w.alloc A).alloc B) := ((Below.refl _ _).alloc (Nat.le_refl _) _).alloc (by simp) _
  exact (hb.cell (p := ⟨G, q, none⟩) hl).trans h
theorem pair12 : pairB 1 2 = [40, 49, 32, 46, 32, 50, 41] := by
  unfold pairB Lib.itoa
  simp
  unfold Lib.decDigits
  simp
set_option maxRecDepth 100000 in
set_option maxHeartbeats 3200000 in
theorem alive_any (T : Nat) (w : World) (ht : Tab T w) (hT : T ≤ w.heap.size) : Calls Tryd.prog 13 #[] w fun e w' => e = .returned (.bool true) ∧ Below w.heap.size w w' := by
  have HN := hidd num_any
  have HC2 := hidd (call2 consB 1 2)
  have HC1 := hidd (call1 outB)
  have HLP := hidd (laid_pair T ⟨#[109]⟩ 1 2)
  have HT : Hid (Tab T w ∧ T ≤ w.heap.size) := ⟨ht, hT⟩
  clear ht hT
  unfold kid2 cv consB outB laid at *
  simp only [List.append_toArray, List.append, List.cons_append, List.nil_append] at HC2
  go_enter Tryd.func13, Tryd.ntmps13
  go_wp2_with fail
  refine (HN.out 1 _).mono ?_
  rintro e w1 ⟨rfl, hb1⟩
  go_wp2_with fail
  refine (HN.out 2 _).mono ?_
  rintro e w2 ⟨rfl, hb2⟩
  go_wp2_with fail
  refine (HC2.out _).mono ?_
  rintro e w3 ⟨hb3, M, cap2, hM, hM3, hc2, rfl, hr3⟩
  go_wp2_with fail
  refine (HC1.out M cap2 _).mono ?_
  rintro e w4 ⟨hb4, L, cap, hL, hL4, hc, rfl, hr4⟩
  have hm3 := hb4.size
  have hB : Below w.heap.size w w4 := (hb1.trans (hb2.mono hb1.size)).trans ((hb3.mono (Nat.le_trans hb1.size hb2.size)).trans (hb4.mono (Nat.le_trans hb1.size (Nat.le_trans hb2.size hb3.size))))
  have HB := hidd hB
  have HX := hidd (HLP.out L cap M cap2 w4 hL4 (by omega) hc hc2 hr4 (hr3.stay (hb4.block M hM3)) (HT.out.1.below (hB.mono HT.out.2)) (Nat.le_trans HT.out.2 hB.size) rfl rfl)
  rw [pair12] at HX
  clear HLP hr3 hr4 hb1 hb2 hb3 hb4 hB HC1 HC2 HN HT
  go_wp2_with fail
  refine HX.out.mono ?_
  rintro e w5 ⟨hb5, a, n, c, rfl, ht1⟩
  obtain ⟨rfl, G, rfl, hG⟩ := ht1.1 rfl
  have HB5 := hidd (HB.out.trans (hb5.mono HB.out.size))
  clear hb5 ht1 HX
  unfold fv
  have hG2 := two_boxes (.cells #[.int .i64 1, .slice (some ⟨G, 0, none⟩) 1 c] 25) (.cells #[.int .i64 0, .int .i64 0] 28) hG
  have HB6 : Hid (Below w.heap.size w ((w5.alloc (.cells #[.int .i64 1, .slice (some ⟨G, 0, none⟩) 1 c] 25)).alloc (.cells #[.int .i64 0, .int .i64 0] 28))) := (HB5.out.alloc HB5.out.size _).alloc (by have := HB5.out.size; simp; omega) _
  go_wp2_with fail
  go_ret
  exact ⟨rfl, HB6.out⟩
end
end Go.Proofs.YthooljlikllnpaaDoor
