/- Instructions: package code's named and last. Chapter 9: from one place to another one. Chapter 9: on from an instruction. Chapter 9: what is known of procedures, in memory. Chapter 9: a body. Chapter 9: a procedure that another one makes. Chapter 9: a procedure that another one makes, where it may. -/
import Derived.Laws.Rows
import Derived.Test.YthikdpclifeonaaGreatDoorK12
import Derived.Test.YthikdpclifeonaaGreatDoorK13
namespace Go.Proofs.YthikdpclifeonaaGreatDoor
section
set_option linter.unusedVariables false
set_option linter.unusedSimpArgs false
open Go.RowKit

/-- An instruction's cells, its value. -/
def ic (i : In) (q : Value) : Array Value := #[.int .i64 i.op, .int .i64 i.a, .int .i64 i.n, .string i.lib, .string i.own, .int .i64 i.quote.kind, .int .i64 i.quote.n, .string i.quote.name, .int .i64 i.quote.stamp, .int .i64 i.quote.lib, q]
def iv (i : In) (qa : Option Addr) (qc : Nat) : Value := .agg (ic i (.slice qa i.quote.kids.length qc))
def fill11 (W : World) (N : Nat) (x0 x1 x2 x3 x4 x5 x6 x7 x8 x9 x10 : Value) : World := (((((((((((W).setCell ⟨N, 0, none⟩ x0).setCell ⟨N, 1, none⟩ x1).setCell ⟨N, 2, none⟩ x2).setCell ⟨N, 3, none⟩ x3).setCell ⟨N, 4, none⟩ x4).setCell ⟨N, 5, none⟩ x5).setCell ⟨N, 6, none⟩ x6).setCell ⟨N, 7, none⟩ x7).setCell ⟨N, 8, none⟩ x8).setCell ⟨N, 9, none⟩ x9).setCell ⟨N, 10, none⟩ x10
theorem fill11_keep (W : World) (N : Nat) (x0 x1 x2 x3 x4 x5 x6 x7 x8 x9 x10 : Value) : Keep N W (fill11 W N x0 x1 x2 x3 x4 x5 x6 x7 x8 x9 x10) := by
  unfold fill11
  exact (((((((((((Keep.refl N W).setCell ⟨N, 0, none⟩ rfl x0).setCell ⟨N, 1, none⟩ rfl x1).setCell ⟨N, 2, none⟩ rfl x2).setCell ⟨N, 3, none⟩ rfl x3).setCell ⟨N, 4, none⟩ rfl x4).setCell ⟨N, 5, none⟩ rfl x5).setCell ⟨N, 6, none⟩ rfl x6).setCell ⟨N, 7, none⟩ rfl x7).setCell ⟨N, 8, none⟩ rfl x8).setCell ⟨N, 9, none⟩ rfl x9).setCell ⟨N, 10, none⟩ rfl x10
theorem fill11_heap {W : World} {N : Nat} {y0 y1 y2 y3 y4 y5 y6 y7 y8 y9 y10 : Value} (h : W.heap[N]? = some (.cells #[y0, y1, y2, y3, y4, y5, y6, y7, y8, y9, y10] 84 (0, 0))) (x0 x1 x2 x3 x4 x5 x6 x7 x8 x9 x10 : Value) :
    (fill11 W N x0 x1 x2 x3 x4 x5 x6 x7 x8 x9 x10).heap[N]? = some (.cells #[x0, x1, x2, x3, x4, x5, x6, x7, x8, x9, x10] 84 (0, 0)) := by
  have h0 := heap_setCell_same (W) N 0 #[y0, y1, y2, y3, y4, y5, y6, y7, y8, y9, y10] 84 x0 h
  rw [show (#[y0, y1, y2, y3, y4, y5, y6, y7, y8, y9, y10] : Array Value).setIfInBounds 0 x0 = #[x0, y1, y2, y3, y4, y5, y6, y7, y8, y9, y10] from rfl] at h0
  have h1 := heap_setCell_same ((W).setCell ⟨N, 0, none⟩ x0) N 1 #[x0, y1, y2, y3, y4, y5, y6, y7, y8, y9, y10] 84 x1 h0
  rw [show (#[x0, y1, y2, y3, y4, y5, y6, y7, y8, y9, y10] : Array Value).setIfInBounds 1 x1 = #[x0, x1, y2, y3, y4, y5, y6, y7, y8, y9, y10] from rfl] at h1
  have h2 := heap_setCell_same (((W).setCell ⟨N, 0, none⟩ x0).setCell ⟨N, 1, none⟩ x1) N 2 #[x0, x1, y2, y3, y4, y5, y6, y7, y8, y9, y10] 84 x2 h1
  rw [show (#[x0, x1, y2, y3, y4, y5, y6, y7, y8, y9, y10] : Array Value).setIfInBounds 2 x2 = #[x0, x1, x2, y3, y4, y5, y6, y7, y8, y9, y10] from rfl] at h2
  have h3 := heap_setCell_same ((((W).setCell ⟨N, 0, none⟩ x0).setCell ⟨N, 1, none⟩ x1).setCell ⟨N, 2, none⟩ x2) N 3 #[x0, x1, x2, y3, y4, y5, y6, y7, y8, y9, y10] 84 x3 h2
  rw [show (#[x0, x1, x2, y3, y4, y5, y6, y7, y8, y9, y10] : Array Value).setIfInBounds 3 x3 = #[x0, x1, x2, x3, y4, y5, y6, y7, y8, y9, y10] from rfl] at h3
  have h4 := heap_setCell_same (((((W).setCell ⟨N, 0, none⟩ x0).setCell ⟨N, 1, none⟩ x1).setCell ⟨N, 2, none⟩ x2).setCell ⟨N, 3, none⟩ x3) N 4 #[x0, x1, x2, x3, y4, y5, y6, y7, y8, y9, y10] 84 x4 h3
  rw [show (#[x0, x1, x2, x3, y4, y5, y6, y7, y8, y9, y10] : Array Value).setIfInBounds 4 x4 = #[x0, x1, x2, x3, x4, y5, y6, y7, y8, y9, y10] from rfl] at h4
  have h5 := heap_setCell_same ((((((W).setCell ⟨N, 0, none⟩ x0).setCell ⟨N, 1, none⟩ x1).setCell ⟨N, 2, none⟩ x2).setCell ⟨N, 3, none⟩ x3).setCell ⟨N, 4, none⟩ x4) N 5 #[x0, x1, x2, x3, x4, y5, y6, y7, y8, y9, y10] 84 x5 h4
  rw [show (#[x0, x1, x2, x3, x4, y5, y6, y7, y8, y9, y10] : Array Value).setIfInBounds 5 x5 = #[x0, x1, x2, x3, x4, x5, y6, y7, y8, y9, y10] from rfl] at h5
  have h6 := heap_setCell_same (((((((W).setCell ⟨N, 0, none⟩ x0).setCell ⟨N, 1, none⟩ x1).setCell ⟨N, 2, none⟩ x2).setCell ⟨N, 3, none⟩ x3).setCell ⟨N, 4, none⟩ x4).setCell ⟨N, 5, none⟩ x5) N 6 #[x0, x1, x2, x3, x4, x5, y6, y7, y8, y9, y10] 84 x6 h5
  rw [show (#[x0, x1, x2, x3, x4, x5, y6, y7, y8, y9, y10] : Array Value).setIfInBounds 6 x6 = #[x0, x1, x2, x3, x4, x5, x6, y7, y8, y9, y10] from rfl] at h6
  have h7 := heap_setCell_same ((((((((W).setCell ⟨N, 0, none⟩ x0).setCell ⟨N, 1, none⟩ x1).setCell ⟨N, 2, none⟩ x2).setCell ⟨N, 3, none⟩ x3).setCell ⟨N, 4, none⟩ x4).setCell ⟨N, 5, none⟩ x5).setCell ⟨N, 6, none⟩ x6) N 7 #[x0, x1, x2, x3, x4, x5, x6, y7, y8, y9, y10] 84 x7 h6
  rw [show (#[x0, x1, x2, x3, x4, x5, x6, y7, y8, y9, y10] : Array Value).setIfInBounds 7 x7 = #[x0, x1, x2, x3, x4, x5, x6, x7, y8, y9, y10] from rfl] at h7
  have h8 := heap_setCell_same (((((((((W).setCell ⟨N, 0, none⟩ x0).setCell ⟨N, 1, none⟩ x1).setCell ⟨N, 2, none⟩ x2).setCell ⟨N, 3, none⟩ x3).setCell ⟨N, 4, none⟩ x4).setCell ⟨N, 5, none⟩ x5).setCell ⟨N, 6, none⟩ x6).setCell ⟨N, 7, none⟩ x7) N 8 #[x0, x1, x2, x3, x4, x5, x6, x7, y8, y9, y10] 84 x8 h7
  rw [show (#[x0, x1, x2, x3, x4, x5, x6, x7, y8, y9, y10] : Array Value).setIfInBounds 8 x8 = #[x0, x1, x2, x3, x4, x5, x6, x7, x8, y9, y10] from rfl] at h8
  have h9 := heap_setCell_same ((((((((((W).setCell ⟨N, 0, none⟩ x0).setCell ⟨N, 1, none⟩ x1).setCell ⟨N, 2, none⟩ x2).setCell ⟨N, 3, none⟩ x3).setCell ⟨N, 4, none⟩ x4).setCell ⟨N, 5, none⟩ x5).setCell ⟨N, 6, none⟩ x6).setCell ⟨N, 7, none⟩ x7).setCell ⟨N, 8, none⟩ x8) N 9 #[x0, x1, x2, x3, x4, x5, x6, x7, x8, y9, y10] 84 x9 h8
  rw [show (#[x0, x1, x2, x3, x4, x5, x6, x7, x8, y9, y10] : Array Value).setIfInBounds 9 x9 = #[x0, x1, x2, x3, x4, x5, x6, x7, x8, x9, y10] from rfl] at h9
  have h10 := heap_setCell_same (((((((((((W).setCell ⟨N, 0, none⟩ x0).setCell ⟨N, 1, none⟩ x1).setCell ⟨N, 2, none⟩ x2).setCell ⟨N, 3, none⟩ x3).setCell ⟨N, 4, none⟩ x4).setCell ⟨N, 5, none⟩ x5).setCell ⟨N, 6, none⟩ x6).setCell ⟨N, 7, none⟩ x7).setCell ⟨N, 8, none⟩ x8).setCell ⟨N, 9, none⟩ x9) N 10 #[x0, x1, x2, x3, x4, x5, x6, x7, x8, x9, y10] 84 x10 h9
  rw [show (#[x0, x1, x2, x3, x4, x5, x6, x7, x8, x9, y10] : Array Value).setIfInBounds 10 x10 = #[x0, x1, x2, x3, x4, x5, x6, x7, x8, x9, x10] from rfl] at h10
  exact h10
end
section
set_option linter.unusedVariables false
set_option linter.unusedSimpArgs false
open Go.RowKit

/-- Heights in a block of one's own. -/
def HR (g : Nat) (T : TypeId) (H : List Int) (w : World) : Prop := w.heap[g]? = some (.cells (H.map (Value.int .i64)).toArray T (0, 0))
theorem HR.cell {g : Nat} {T : TypeId} {H : List Int} {w : World} (h : HR g T H w) {i : Nat} (hi : i < H.length) : w.cell? ⟨g, i, none⟩ = some (.int .i64 (H.getD i (-1))) := by
  have e : (H.map (Value.int IntKind.i64)).toArray[i]? = some (.int .i64 (H.getD i (-1))) := by
    rw [List.getElem?_toArray, List.getElem?_map, List.getElem?_eq_getElem hi, List.getD_eq_getElem?_getD, List.getElem?_eq_getElem hi]; rfl
  simp only [World.cell?, show w.heap[g]? = _ from h]
  simpa using e
theorem HR.loose {g : Nat} {T : TypeId} {H : List Int} {w : World} (h : HR g T H w) (i : Nat) : w.frozen? ⟨g, i, none⟩ = false := by
  simp [World.frozen?, show w.heap[g]? = _ from h]
theorem HR.set {g : Nat} {T : TypeId} {H : List Int} {w : World} (h : HR g T H w) (i : Nat) (x : Int) : HR g T (H.set i x) (w.setCell ⟨g, i, none⟩ (.int .i64 x)) := by
  have := heap_setCell_same w g i (H.map (Value.int .i64)).toArray T (.int .i64 x) h
  unfold HR
  rw [this]
  simp [List.map_set]

set_option maxHeartbeats 800000 in
theorem reach_any (g : Nat) (T : TypeId) (H : List Int) (cap frm : Nat) (tt hh : Int) (w : World) (h : HR g T H w) (hl : H.length ≤ 6000) (hf : frm < H.length) :
    Calls Tryz.prog 155 #[.slice (some ⟨g, 0, none⟩) H.length cap, .int .i64 frm, .int .i64 tt, .int .i64 hh] w fun r w' =>
      (reachH H frm tt hh = none → r = .returned (.bool false) ∧ w' = w) ∧ ∀ H', reachH H frm tt hh = some H' → r = .returned (.bool true) ∧ HR g T H' w' ∧ (w' = w ∨ ∃ i x, w' = w.setCell ⟨g, i, none⟩ (.int .i64 x)) := by
  have HH := hidd h
  by_cases c1 : tt ≤ frm
  · have HE : Hid (reachH H frm tt hh = none) := by unfold Hid reachH; rw [if_pos (Or.inl c1)]
    clear h
    go_enter Tryz.func155, Tryz.ntmps155
    go_wp2_with fail
    go_ret
    exact ⟨fun _ => ⟨rfl, rfl⟩, fun H' e => by rw [HE.out] at e; simp at e⟩
  by_cases c2 : (H.length : Int) ≤ tt
  · have HE : Hid (reachH H frm tt hh = none) := by unfold Hid reachH; rw [if_pos (Or.inr c2)]
    clear h
    go_enter Tryz.func155, Tryz.ntmps155
    go_wp2_with fail
    go_ret
    exact ⟨fun _ => ⟨rfl, rfl⟩, fun H' e => by rw [HE.out] at e; simp at e⟩
  obtain ⟨t, rfl⟩ : ∃ t : Nat, tt = t := ⟨tt.toNat, by omega⟩
  have ht : t < H.length := by omega
  have z0 := h.cell ht
  have zf := h.loose t
  by_cases c3 : H.getD t (-1) = -1
  · have HE : Hid (reachH H frm t hh = some (H.set t hh)) := by unfold Hid reachH; rw [if_neg (by omega), Int.toNat_natCast, if_pos c3]
    rw [c3] at z0
    have z1 := (h.set t hh).cell (i := t) (by simpa using ht)
    rw [show (H.set t hh).getD t (-1) = hh by rw [List.getD_eq_getElem?_getD, List.getElem?_set_self ht]; rfl] at z1
    have HS := hidd (h.set t hh)
    clear h
    go_enter Tryz.func155, Tryz.ntmps155
    go_wp2_with fail
    go_ret
    exact ⟨fun e => by rw [HE.out] at e; simp at e, fun H' e => by rw [HE.out] at e; simp only [Option.some.injEq] at e; subst e; exact ⟨rfl, HS.out, Or.inr ⟨_, _, rfl⟩⟩⟩
  · generalize hx : H.getD t (-1) = x at *
    have c3' : (x == -1) = false := by simpa using c3
    by_cases c4 : x = hh
    · have HE : Hid (reachH H frm t hh = some H) := by unfold Hid reachH; rw [if_neg (by omega), Int.toNat_natCast, hx, if_neg c3, if_pos c4]
      clear h hx
      subst c4
      go_enter Tryz.func155, Tryz.ntmps155
      go_wp2_with fail
      go_ret
      exact ⟨fun e => by rw [HE.out] at e; simp at e, fun H' e => by rw [HE.out] at e; simp only [Option.some.injEq] at e; subst e; exact ⟨rfl, HH.out, Or.inl rfl⟩⟩
    · have HE : Hid (reachH H frm t hh = none) := by unfold Hid reachH; rw [if_neg (by omega), Int.toNat_natCast, hx, if_neg c3, if_neg c4]
      have c4' : (x == hh) = false := by simpa using c4
      clear h hx
      go_enter Tryz.func155, Tryz.ntmps155
      go_wp2_with fail
      go_ret
      exact ⟨fun _ => ⟨rfl, rfl⟩, fun H' e => by rw [HE.out] at e; simp at e⟩
end
section
set_option linter.unusedVariables false
set_option linter.unusedSimpArgs false
open Go.RowKit

def ToldH (g : Nat) (T : TypeId) (X : Option (List Int)) (w : World) (r : Ending) (w' : World) : Prop := r = .returned (.bool X.isSome) ∧ (∀ H', X = some H' → HR g T H' w') ∧ Keep g w w'
theorem reach_told (g : Nat) (T : TypeId) (H : List Int) (cap frm : Nat) (tt hh : Int) (w : World) (h : HR g T H w) (hl : H.length ≤ 6000) (hf : frm < H.length) :
    Calls Tryz.prog 155 #[.slice (some ⟨g, 0, none⟩) H.length cap, .int .i64 frm, .int .i64 tt, .int .i64 hh] w (ToldH g T (reachH H frm tt hh) w) := by
  refine (reach_any g T H cap frm tt hh w h hl hf).mono ?_
  rintro r w' ⟨h1, h2⟩
  cases e : reachH H frm tt hh with
  | none =>
    obtain ⟨rfl, rfl⟩ := h1 e
    exact ⟨rfl, fun H' e' => by simp at e', Keep.refl _ _⟩
  | some H1 =>
    obtain ⟨rfl, a, b⟩ := h2 H1 e
    refine ⟨rfl, fun H' e' => by simp only [Option.some.injEq] at e'; subst e'; exact a, ?_⟩
    rcases b with rfl | ⟨i, x, rfl⟩
    · exact Keep.refl _ _
    · exact (Keep.refl _ _).setCell _ rfl _
theorem reach_len {H H' : List Int} {frm : Nat} {tt hh : Int} (e : reachH H frm tt hh = some H') : H'.length = H.length := by
  unfold reachH at e
  split at e
  · simp at e
  · split at e
    · simp only [Option.some.injEq] at e; subst e; simp
    · split at e
      · simp only [Option.some.injEq] at e; subst e; rfl
      · simp at e
theorem moves_le (x : In) (hc : x.op = 8 → 0 ≤ x.a ∧ x.a ≤ 2000) : 0 ≤ (movesI x).1 ∧ (movesI x).1 ≤ 2001 ∧ 0 ≤ (movesI x).2 ∧ (movesI x).2 ≤ 1 := by
  unfold movesI
  split
  · simp
  · split
    · rename_i e
      have := hc e
      simp
      omega
    · split
      · simp
      · split <;> simp

set_option maxHeartbeats 1600000 in
theorem leave_any (g : Nat) (T : TypeId) (H : List Int) (cap place : Nat) (x : In) (b o : Nat) (last : Int) (w : World) (h : HR g T H w) (hl : H.length ≤ 6000) (hp : place < H.length) (hh : -1 ≤ H.getD place (-1) ∧ H.getD place (-1) ≤ 6000)
    (h0 : w.cell? ⟨b, o, none⟩ = some (.int .i64 x.op)) (h1 : w.cell? ⟨b, o + 1, none⟩ = some (.int .i64 x.a)) (hc : x.op = 8 → 0 ≤ x.a ∧ x.a ≤ 2000) :
    Calls Tryz.prog 136 #[.slice (some ⟨g, 0, none⟩) H.length cap, .int .i64 place, .pointer (some ⟨b, o, none⟩), .int .i64 last] w (ToldH g T (leaveH last H place x) w) := by
  have M := hidd (moves_any x b o w h0 h1 hc)
  obtain ⟨b1, b2, b3, b4⟩ := moves_le x hc
  have z0 := h.cell hp
  have R := hidd (fun tt hh => reach_told g T H cap place tt hh w h hl hp)
  have R2 := hidd (fun (H1 : List Int) (w1 : World) tt hh (k : HR g T H1 w1) (e : H1.length = H.length) => reach_told g T H1 cap place tt hh w1 k (by omega) (by omega))
  have HH := hidd h
  have HL : Hid (leaveH last H place x = if H.getD place (-1) < (movesI x).1 then none else if x.op = 15 then (if H.getD place (-1) - (movesI x).1 + (movesI x).2 = last then some H else none) else if x.op = 9 then reachH H place x.a (H.getD place (-1) - (movesI x).1 + (movesI x).2) else if x.op = 10 then (reachH H place x.a (H.getD place (-1) - (movesI x).1 + (movesI x).2)).bind (fun h' => reachH h' place ((place + 1 : Nat) : Int) (H.getD place (-1) - (movesI x).1 + (movesI x).2)) else reachH H place ((place + 1 : Nat) : Int) (H.getD place (-1) - (movesI x).1 + (movesI x).2)) := rfl
  rw [HL.out]
  generalize movesI x = p at M b1 b2 b3 b4 ⊢
  obtain ⟨p1, p2⟩ := p
  simp only at M b1 b2 b3 b4 ⊢
  generalize H.getD place (-1) = y at hh z0 ⊢
  obtain ⟨y1, y2⟩ := hh
  obtain ⟨op, a, n, lb, ow, q⟩ := x
  simp only at h0 h1 hc M ⊢
  clear h hc HL
  by_cases c1 : y < p1
  · rw [if_pos c1]
    go_enter Tryz.func136, Tryz.ntmps136
    go_wp2_with fail
    refine M.out.mono ?_
    rintro e w1 ⟨rfl, rfl⟩
    go_wp2_with fail
    go_ret
    exact ⟨rfl, fun H' e => by simp at e, Keep.refl _ _⟩
  rw [if_neg c1]
  by_cases c15 : op = 15
  · subst c15
    simp only [if_true]
    by_cases c2 : y - p1 + p2 = last
    · rw [if_pos c2]
      have c2' : (y - p1 + p2 == last) = true := by simpa using c2
      go_enter Tryz.func136, Tryz.ntmps136
      go_wp2_with fail
      refine M.out.mono ?_
      rintro e w1 ⟨rfl, rfl⟩
      go_wp2_with fail
      go_ret
      exact ⟨rfl, fun H' e => by simp only [Option.some.injEq] at e; subst e; exact HH.out, Keep.refl _ _⟩
    · rw [if_neg c2]
      have c2' : (y - p1 + p2 == last) = false := by simpa using c2
      go_enter Tryz.func136, Tryz.ntmps136
      go_wp2_with fail
      refine M.out.mono ?_
      rintro e w1 ⟨rfl, rfl⟩
      go_wp2_with fail
      go_ret
      exact ⟨rfl, fun H' e => by simp at e, Keep.refl _ _⟩
  rw [if_neg c15]
  have e15 : (op == 15) = false := by simpa using c15
  by_cases c9 : op = 9
  · subst c9
    simp only [if_true]
    go_enter Tryz.func136, Tryz.ntmps136
    go_wp2_with fail
    refine M.out.mono ?_
    rintro e w1 ⟨rfl, rfl⟩
    go_wp2_with fail
    refine (R.out _ _).mono ?_
    rintro e w2 ⟨rfl, q1, q2⟩
    have Q1 := hidd q1
    have Q2 := hidd q2
    clear q1 q2
    generalize hX : reachH H place a (y - p1 + p2) = X at Q1 ⊢
    have HX := hidd hX
    clear hX
    go_wp2_with fail
    go_ret
    show ToldH g T (reachH H place a (y - p1 + p2)) _ _ _
    rw [HX.out]
    exact ⟨rfl, Q1.out, Q2.out⟩
  rw [if_neg c9]
  have e9 : (op == 9) = false := by simpa using c9
  by_cases c10 : op = 10
  · subst c10
    simp only [if_true]
    go_enter Tryz.func136, Tryz.ntmps136
    go_wp2_with fail
    refine M.out.mono ?_
    rintro e w1 ⟨rfl, rfl⟩
    go_wp2_with fail
    refine (R.out _ _).mono ?_
    rintro e w2 ⟨rfl, q1, q2⟩
    have Q1 := hidd q1
    have Q2 := hidd q2
    clear q1 q2
    have RL := hidd (fun H' => reach_len (H := H) (H' := H') (frm := place) (tt := a) (hh := y - p1 + p2))
    generalize hX : reachH H place a (y - p1 + p2) = X at Q1 RL ⊢
    have HX := hidd hX
    clear hX
    cases X with
    | none =>
      go_wp2_with fail
      go_ret
      show ToldH g T ((reachH H place a (y - p1 + p2)).bind fun h' => reachH h' place ((place + 1 : Nat) : Int) (y - p1 + p2)) _ _ _
      rw [HX.out]
      exact ⟨rfl, fun H' e => by simp at e, Q2.out⟩
    | some H1 =>
      have el := RL.out H1 rfl
      have R3 := hidd (R2.out H1 w2 ((place + 1 : Nat) : Int) (y - p1 + p2) (Q1.out H1 rfl) el)
      rw [el] at R3
      clear el
      go_wp2_with fail
      refine R3.out.mono ?_
      rintro e w3 ⟨rfl, q1, q2⟩
      have Q3 := hidd q1
      have Q4 := hidd q2
      clear q1 q2
      generalize hX : reachH H1 place ((place + 1 : Nat) : Int) (y - p1 + p2) = X at Q3 ⊢
      have HX1 := hidd hX
      clear hX
      go_wp2_with fail
      go_ret
      show ToldH g T ((reachH H place a (y - p1 + p2)).bind fun h' => reachH h' place ((place + 1 : Nat) : Int) (y - p1 + p2)) _ _ _
      rw [HX.out, Option.bind_some, HX1.out]
      exact ⟨rfl, Q3.out, Q2.out.trans Q4.out⟩
  rw [if_neg c10]
  have e10 : (op == 10) = false := by simpa using c10
  go_enter Tryz.func136, Tryz.ntmps136
  go_wp2_with fail
  refine M.out.mono ?_
  rintro e w1 ⟨rfl, rfl⟩
  go_wp2_with fail
  refine (R.out ((place + 1 : Nat) : Int) _).mono ?_
  rintro e w2 ⟨rfl, q1, q2⟩
  have Q1 := hidd q1
  have Q2 := hidd q2
  clear q1 q2
  generalize hX : reachH H place ((place + 1 : Nat) : Int) (y - p1 + p2) = X at Q1 ⊢
  have HX := hidd hX
  clear hX
  go_wp2_with fail
  go_ret
  show ToldH g T (reachH H place ((place + 1 : Nat) : Int) (y - p1 + p2)) _ _ _
  rw [HX.out]
  exact ⟨rfl, Q1.out, Q2.out⟩
end
section
set_option linter.unusedVariables false
set_option linter.unusedSimpArgs false
open Go.RowKit

def stCells : Option (Bool × Int) → List Value
  | none => [.bool false, .bool false, .int .i64 0]
  | some x => [.bool x.1, .bool true, .int .i64 x.2]
theorem stCells_len (s : Option (Bool × Int)) : (stCells s).length = 3 := by cases s <;> rfl
def flatK (K : Kn) : List Value := K.flatMap stCells
theorem flatK_cons (s : Option (Bool × Int)) (r : Kn) : flatK (s :: r) = stCells s ++ flatK r := by simp [flatK]
theorem flatK_len : ∀ (K : Kn), (flatK K).length = K.length * 3
  | [] => rfl
  | s :: r => by rw [flatK_cons, List.length_append, stCells_len, flatK_len r, List.length_cons]; omega
theorem flatK_at : ∀ (K : Kn) (i j : Nat) (s : Option (Bool × Int)), K[i]? = some s → j < 3 → (flatK K)[i * 3 + j]? = (stCells s)[j]?
  | s :: r, 0, j, s', h, hj => by
    simp only [List.getElem?_cons_zero, Option.some.injEq] at h
    subst h
    rw [flatK_cons, Nat.zero_mul, Nat.zero_add, List.getElem?_append_left (by rw [stCells_len]; exact hj)]
  | s :: r, i + 1, j, s', h, hj => by
    simp only [List.getElem?_cons_succ] at h
    rw [flatK_cons, List.getElem?_append_right (by rw [stCells_len]; omega), stCells_len, show (i + 1) * 3 + j - 3 = i * 3 + j by omega]
    exact flatK_at r i j s' h hj
theorem flatK_set : ∀ (K : Kn) (i : Nat) (s : Option (Bool × Int)) (x y z : Value), stCells s = [x, y, z] → i < K.length → (((flatK K).set (i * 3) x).set (i * 3 + 1) y).set (i * 3 + 2) z = flatK (K.set i s)
  | s' :: r, 0, s, x, y, z, h, hi => by
    rw [List.set_cons_zero, flatK_cons, flatK_cons, h]
    cases s' <;> rfl
  | s' :: r, i + 1, s, x, y, z, h, hi => by
    rw [List.set_cons_succ, flatK_cons, flatK_cons, ← flatK_set r i s x y z h (by simpa using hi)]
    have e : ∀ (l : List Value) (n : Nat) (u : Value), (stCells s' ++ l).set (n + 3) u = stCells s' ++ l.set n u := fun l n u => by
      rw [List.set_append_right _ _ (by rw [stCells_len]; omega), stCells_len, Nat.add_sub_cancel]
    rw [show (i + 1) * 3 = i * 3 + 3 by omega, show i * 3 + 3 + 1 = (i * 3 + 1) + 3 by omega, show i * 3 + 3 + 2 = (i * 3 + 2) + 3 by omega, e, e, e]

def KR (G : Nat) (K : Kn) (w : World) : Prop := w.heap[G]? = some (.cells (flatK K).toArray 232 (0, 0))
theorem KR.cell {G : Nat} {K : Kn} {w : World} (h : KR G K w) {i j : Nat} {s : Option (Bool × Int)} {x : Value} (hi : K[i]? = some s) (hj : j < 3) (hx : (stCells s)[j]? = some x) : w.cell? ⟨G, i * 3 + j, none⟩ = some x := by
  have e := (flatK_at K i j s hi hj).trans hx
  simp only [World.cell?, show w.heap[G]? = _ from h]
  simpa using e
theorem KR.loose {G : Nat} {K : Kn} {w : World} (h : KR G K w) (i : Nat) : w.frozen? ⟨G, i, none⟩ = false := by
  simp [World.frozen?, show w.heap[G]? = _ from h]
theorem KR.set {G : Nat} {K : Kn} {w : World} (h : KR G K w) {i : Nat} {s : Option (Bool × Int)} {x y z : Value} (hs : stCells s = [x, y, z]) (hi : i < K.length) :
    KR G (K.set i s) (((w.setCell ⟨G, i * 3, none⟩ x).setCell ⟨G, i * 3 + 1, none⟩ y).setCell ⟨G, i * 3 + 2, none⟩ z) := by
  have h1 := heap_setCell_same w G (i * 3) (flatK K).toArray 232 x h
  have h2 := heap_setCell_same _ G (i * 3 + 1) _ 232 y h1
  have h3 := heap_setCell_same _ G (i * 3 + 2) _ 232 z h2
  unfold KR
  rw [h3, ← flatK_set K i s x y z hs hi]
  simp
end
section
set_option linter.unusedVariables false
set_option linter.unusedSimpArgs false
open Go.RowKit

set_option maxRecDepth 100000 in
set_option maxHeartbeats 1600000 in
theorem cbody_any (C G pb po n pc kc i : Nat) (args : Int) (K : Kn) (w : World) (h : KR G K w) (hK : K.length = n) (hi : i < n) (hn : n ≤ 100000) (hCG : C ≠ G) (hPG : pb ≠ G)
    (c0 : w.cell? ⟨C, 0, none⟩ = some (.slice (some ⟨pb, po, none⟩) n pc)) (c1 : w.cell? ⟨C, 1, none⟩ = some (.slice (some ⟨G, 0, none⟩) n kc)) (ca : w.cell? ⟨pb, po + i * 2, none⟩ = some (.int .i64 args)) :
    Calls Tryz.prog 81 #[.pointer (some ⟨C, 0, none⟩), .int .i64 i] w fun r w' => r = .returned (.int .i64 (if args = 0 then 0 else 3)) ∧ KR G (K.set i (some (true, 0))) w' ∧ Keep G w w' := by
  have hs : K[i]? = some K[i] := List.getElem?_eq_getElem (by omega)
  obtain ⟨x0, x1, x2, hx⟩ : ∃ x0 x1 x2, stCells K[i] = [x0, x1, x2] := by
    generalize K[i] = s
    cases s <;> exact ⟨_, _, _, rfl⟩
  have z0 := h.cell (j := 0) hs (by omega) (by rw [hx]; rfl)
  have z1 := h.cell (j := 1) hs (by omega) (by rw [hx]; rfl)
  have z2 := h.cell (j := 2) hs (by omega) (by rw [hx]; rfl)
  have f0 := h.loose (i * 3)
  have f1 := h.loose (i * 3 + 1)
  have f2 := h.loose (i * 3 + 2)
  rw [Nat.add_zero] at z0
  have HS := hidd (h.set (i := i) (s := some (true, 0)) rfl (by omega))
  have HKp := hidd ((((Keep.refl G w).setCell ⟨G, i * 3, none⟩ rfl (.bool true)).setCell ⟨G, i * 3 + 1, none⟩ rfl (.bool true)).setCell ⟨G, i * 3 + 2, none⟩ rfl (.int .i64 0))
  have B := hidd (below_any i n w)
  rw [if_pos (by omega)] at B
  clear hs hx h
  by_cases ha : args = 0
  · subst ha
    rw [if_pos rfl]
    have O := hidd (fun w => otherwise_any true 3 w)
    go_enter Tryz.func81, Tryz.ntmps81
    go_wp2_with fail
    refine B.out.mono ?_
    rintro e w1 ⟨rfl, rfl⟩
    go_wp2_with fail
    refine (O.out _).mono ?_
    rintro e w2 ⟨rfl, rfl⟩
    go_wp2_with fail
    go_ret
    exact ⟨rfl, HS.out, HKp.out⟩
  · rw [if_neg ha]
    have ha' : (args == 0) = false := by simpa using ha
    have O := hidd (fun w => otherwise_any false 3 w)
    go_enter Tryz.func81, Tryz.ntmps81
    go_wp2_with fail
    refine B.out.mono ?_
    rintro e w1 ⟨rfl, rfl⟩
    go_wp2_with fail
    refine (O.out _).mono ?_
    rintro e w2 ⟨rfl, rfl⟩
    go_wp2_with fail
    go_ret
    exact ⟨rfl, HS.out, HKp.out⟩
end
section
set_option linter.unusedVariables false
set_option linter.unusedSimpArgs false
open Go.RowKit

set_option maxRecDepth 100000 in
set_option maxHeartbeats 1600000 in
theorem closure_no (C G pb po n pc kc q : Nat) (a : Int) (K : Kn) (w : World) (h : KR G K w) (hK : K.length = n) (hq : q < n) (hn : n ≤ 100000)
    (c0 : w.cell? ⟨C, 0, none⟩ = some (.slice (some ⟨pb, po, none⟩) n pc)) (c1 : w.cell? ⟨C, 1, none⟩ = some (.slice (some ⟨G, 0, none⟩) n kc)) (hno : a ≤ q ∨ (n : Int) ≤ a ∨ (K.getD a.toNat none).isSome = true) :
    Calls Tryz.prog 134 #[.pointer (some ⟨C, 0, none⟩), .int .i64 q, .int .i64 a] w fun r w' => r = .returned (.int .i64 (if a ≤ q ∨ (n : Int) ≤ a then 3 else 8)) ∧ w' = w := by
  by_cases d1 : a ≤ q
  · rw [if_pos (Or.inl d1)]
    go_enter Tryz.func134, Tryz.ntmps134
    go_wp2_with fail
    go_ret
    exact ⟨rfl, rfl⟩
  by_cases d2 : (n : Int) ≤ a
  · rw [if_pos (Or.inr d2)]
    go_enter Tryz.func134, Tryz.ntmps134
    go_wp2_with fail
    go_ret
    exact ⟨rfl, rfl⟩
  rw [if_neg (by omega)]
  obtain ⟨t, rfl⟩ : ∃ t : Nat, a = t := ⟨a.toNat, by omega⟩
  have ht : t < K.length := by omega
  have hs : K[t]? = some K[t] := List.getElem?_eq_getElem ht
  have hsome : (K.getD t none).isSome = true := by
    rcases hno with e | e | e
    · omega
    · omega
    · simpa using e
  rw [List.getD_eq_getElem?_getD, hs] at hsome
  obtain ⟨y, hy⟩ : ∃ y, K[t] = some y := Option.isSome_iff_exists.1 hsome
  have z1 := h.cell (j := 1) hs (by omega) (by rw [hy]; rfl)
  clear hno hs hsome hy
  go_enter Tryz.func134, Tryz.ntmps134
  go_wp2_with fail
  go_ret
  exact ⟨rfl, rfl⟩
end
section
set_option linter.unusedVariables false
set_option linter.unusedSimpArgs false
open Go.RowKit

set_option maxRecDepth 100000 in
set_option maxHeartbeats 3200000 in
theorem closure_yes (C G pb po n pc kc q t : Nat) (args ar : Int) (K : Kn) (w : World) (h : KR G K w) (hK : K.length = n) (hq : q < t) (ht : t < n) (hn : n ≤ 100000) (hCG : C ≠ G) (hPG : pb ≠ G)
    (c0 : w.cell? ⟨C, 0, none⟩ = some (.slice (some ⟨pb, po, none⟩) n pc)) (c1 : w.cell? ⟨C, 1, none⟩ = some (.slice (some ⟨G, 0, none⟩) n kc)) (ca : w.cell? ⟨pb, po + t * 2, none⟩ = some (.int .i64 args))
    (hat : K[t]? = some none) (har : ∃ b, K[q]? = some (some (b, ar))) (b1 : 0 ≤ args ∧ args ≤ 2000) (b2 : 0 ≤ ar ∧ ar ≤ 1000000000) :
    Calls Tryz.prog 134 #[.pointer (some ⟨C, 0, none⟩), .int .i64 q, .int .i64 t] w fun r w' => r = .returned (.int .i64 0) ∧ KR G (K.set t (some (false, ar + args))) w' ∧ Keep G w w' := by
  obtain ⟨b, har⟩ := har
  have y1 := h.cell (j := 1) hat (by omega) rfl
  have y0 := h.cell (j := 0) hat (by omega) rfl
  have y2 := h.cell (j := 2) hat (by omega) rfl
  have z2 := h.cell (j := 2) har (by omega) rfl
  have f0 := h.loose (t * 3)
  have f1 := h.loose (t * 3 + 1)
  have f2 := h.loose (t * 3 + 2)
  rw [Nat.add_zero] at y0
  have HS := hidd (h.set (i := t) (s := some (false, ar + args)) rfl (by omega))
  have HKp := hidd ((((Keep.refl G w).setCell ⟨G, t * 3, none⟩ rfl (.bool false)).setCell ⟨G, t * 3 + 1, none⟩ rfl (.bool true)).setCell ⟨G, t * 3 + 2, none⟩ rfl (.int .i64 (ar + args)))
  obtain ⟨b3, b4⟩ := b1
  obtain ⟨b5, b6⟩ := b2
  have htq : ¬ (t : Int) ≤ q := by omega
  have htn : ¬ (n : Int) ≤ t := by omega
  clear h hat har
  go_enter Tryz.func134, Tryz.ntmps134
  go_wp2_with fail
  go_region
  all_goals
    go_wp2_with fail
    go_ret
    exact ⟨rfl, HS.out, HKp.out.drew⟩
end
end Go.Proofs.YthikdpclifeonaaGreatDoor
