/- Chapter 9: what is known of procedures, in memory. Chapter 9: a body. Chapter 9: a procedure that another one makes. Chapter 9: a procedure that another one makes, where it may. -/
import Derived.Test.YtdnbingddbakaaaDoorK15
import Derived.Test.YtdnbingddbakaaaDoorK18
namespace Go.Proofs.YtdnbingddbakaaaDoor
section
set_option linter.unusedVariables false
set_option linter.unusedSimpArgs false
open Go.RowKit

def stCells : Option (Bool × Int) → List Value
  | none => [.bool false, .bool false, .int .i64 0]
  | some x => [.bool x.1, .bool true, .int .i64 x.2]
theorem stCells_len (s : Option (Bool × Int)) : (stCells s).length = 3 := by cases s <;> rfl
def flatK (K : Kn) : List Value := K.flatMap stCells
theorem flatK_cons (s : Option (Bool × Int)) (r : Kn) : flatK (s :: r) = stCells s ++ flatK r := by simp [flatK]
theorem flatK_len : ∀ (K : Kn), (flatK K).length = K.length * 3
  | [] => rfl
  | s :: r => by rw [flatK_cons, List.length_append, stCells_len, flatK_len r, List.length_cons]; omega
theorem flatK_at : ∀ (K : Kn) (i j : Nat) (s : Option (Bool × Int)), K[i]? = some s → j < 3 → (flatK K)[i * 3 + j]? = (stCells s)[j]?
  | s :: r, 0, j, s', h, hj => by
    simp only [List.getElem?_cons_zero, Option.some.injEq] at h
    subst h
    rw [flatK_cons, Nat.zero_mul, Nat.zero_add, List.getElem?_append_left (by rw [stCells_len]; exact hj)]
  | s :: r, i + 1, j, s', h, hj => by
    simp only [List.getElem?_cons_succ] at h
    rw [flatK_cons, List.getElem?_append_right (by rw [stCells_len]; omega), stCells_len, show (i + 1) * 3 + j - 3 = i * 3 + j by omega]
    exact flatK_at r i j s' h hj
theorem flatK_set : ∀ (K : Kn) (i : Nat) (s : Option (Bool × Int)) (x y z : Value), stCells s = [x, y, z] → i < K.length → (((flatK K).set (i * 3) x).set (i * 3 + 1) y).set (i * 3 + 2) z = flatK (K.set i s)
  | s' :: r, 0, s, x, y, z, h, hi => by
    rw [List.set_cons_zero, flatK_cons, flatK_cons, h]
    cases s' <;> rfl
  | s' :: r, i + 1, s, x, y, z, h, hi => by
    rw [List.set_cons_succ, flatK_cons, flatK_cons, ← flatK_set r i s x y z h (by simpa using hi)]
    have e : ∀ (l : List Value) (n : Nat) (u : Value), (stCells s' ++ l).set (n + 3) u = stCells s' ++ l.set n u := fun l n u => by
      rw [List.set_append_right _ _ (by rw [stCells_len]; omega), stCells_len, Nat.add_sub_cancel]
    rw [show (i + 1) * 3 = i * 3 + 3 by omega, show i * 3 + 3 + 1 = (i * 3 + 1) + 3 by omega, show i * 3 + 3 + 2 = (i * 3 + 2) + 3 by omega, e, e, e]

def KR (G : Nat) (K : Kn) (w : World) : Prop := w.heap[G]? = some (.cells (flatK K).toArray 111 (0, 0))
theorem KR.cell {G : Nat} {K : Kn} {w : World} (h : KR G K w) {i j : Nat} {s : Option (Bool × Int)} {x : Value} (hi : K[i]? = some s) (hj : j < 3) (hx : (stCells s)[j]? = some x) : w.cell? ⟨G, i * 3 + j, none⟩ = some x := by
  have e := (flatK_at K i j s hi hj).trans hx
  simp only [World.cell?, show w.heap[G]? = _ from h]
  simpa using e
theorem KR.loose {G : Nat} {K : Kn} {w : World} (h : KR G K w) (i : Nat) : w.frozen? ⟨G, i, none⟩ = false := by
  simp [World.frozen?, show w.heap[G]? = _ from h]
theorem KR.set {G : Nat} {K : Kn} {w : World} (h : KR G K w) {i : Nat} {s : Option (Bool × Int)} {x y z : Value} (hs : stCells s = [x, y, z]) (hi : i < K.length) :
    KR G (K.set i s) (((w.setCell ⟨G, i * 3, none⟩ x).setCell ⟨G, i * 3 + 1, none⟩ y).setCell ⟨G, i * 3 + 2, none⟩ z) := by
  have h1 := heap_setCell_same w G (i * 3) (flatK K).toArray 111 x h
  have h2 := heap_setCell_same _ G (i * 3 + 1) _ 111 y h1
  have h3 := heap_setCell_same _ G (i * 3 + 2) _ 111 z h2
  unfold KR
  rw [h3, ← flatK_set K i s x y z hs hi]
  simp
end
section
set_option linter.unusedVariables false
set_option linter.unusedSimpArgs false
open Go.RowKit

set_option maxRecDepth 100000 in
set_option maxHeartbeats 1600000 in
theorem cbody_any (C G pb po n pc kc i : Nat) (args : Int) (K : Kn) (w : World) (h : KR G K w) (hK : K.length = n) (hi : i < n) (hn : n ≤ 100000) (hCG : C ≠ G) (hPG : pb ≠ G)
    (c0 : w.cell? ⟨C, 0, none⟩ = some (.slice (some ⟨pb, po, none⟩) n pc)) (c1 : w.cell? ⟨C, 1, none⟩ = some (.slice (some ⟨G, 0, none⟩) n kc)) (ca : w.cell? ⟨pb, po + i * 2, none⟩ = some (.int .i64 args)) :
    Calls Tryd.prog 52 #[.pointer (some ⟨C, 0, none⟩), .int .i64 i] w fun r w' => r = .returned (.int .i64 (if args = 0 then 0 else 3)) ∧ KR G (K.set i (some (true, 0))) w' ∧ Keep G w w' := by
  have hs : K[i]? = some K[i] := List.getElem?_eq_getElem (by omega)
  obtain ⟨x0, x1, x2, hx⟩ : ∃ x0 x1 x2, stCells K[i] = [x0, x1, x2] := by
    generalize K[i] = s
    cases s <;> exact ⟨_, _, _, rfl⟩
  have z0 := h.cell (j := 0) hs (by omega) (by rw [hx]; rfl)
  have z1 := h.cell (j := 1) hs (by omega) (by rw [hx]; rfl)
  have z2 := h.cell (j := 2) hs (by omega) (by rw [hx]; rfl)
  have f0 := h.loose (i * 3)
  have f1 := h.loose (i * 3 + 1)
  have f2 := h.loose (i * 3 + 2)
  rw [Nat.add_zero] at z0
  have HS := hidd (h.set (i := i) (s := some (true, 0)) rfl (by omega))
  have HKp := hidd ((((Keep.refl G w).setCell ⟨G, i * 3, none⟩ rfl (.bool true)).setCell ⟨G, i * 3 + 1, none⟩ rfl (.bool true)).setCell ⟨G, i * 3 + 2, none⟩ rfl (.int .i64 0))
  have B := hidd (below_any i n w)
  rw [if_pos (by omega)] at B
  clear hs hx h
  by_cases ha : args = 0
  · subst ha
    rw [if_pos rfl]
    have O := hidd (fun w => otherwise_any true 3 w)
    go_enter Tryd.func52, Tryd.ntmps52
    go_wp2_with fail
    refine B.out.mono ?_
    rintro e w1 ⟨rfl, rfl⟩
    go_wp2_with fail
    refine (O.out _).mono ?_
    rintro e w2 ⟨rfl, rfl⟩
    go_wp2_with fail
    go_ret
    exact ⟨rfl, HS.out, HKp.out⟩
  · rw [if_neg ha]
    have ha' : (args == 0) = false := by simpa using ha
    have O := hidd (fun w => otherwise_any false 3 w)
    go_enter Tryd.func52, Tryd.ntmps52
    go_wp2_with fail
    refine B.out.mono ?_
    rintro e w1 ⟨rfl, rfl⟩
    go_wp2_with fail
    refine (O.out _).mono ?_
    rintro e w2 ⟨rfl, rfl⟩
    go_wp2_with fail
    go_ret
    exact ⟨rfl, HS.out, HKp.out⟩
end
section
set_option linter.unusedVariables false
set_option linter.unusedSimpArgs false
open Go.RowKit

set_option maxRecDepth 100000 in
set_option maxHeartbeats 1600000 in
theorem closure_no (C G pb po n pc kc q : Nat) (a : Int) (K : Kn) (w : World) (h : KR G K w) (hK : K.length = n) (hq : q < n) (hn : n ≤ 100000)
    (c0 : w.cell? ⟨C, 0, none⟩ = some (.slice (some ⟨pb, po, none⟩) n pc)) (c1 : w.cell? ⟨C, 1, none⟩ = some (.slice (some ⟨G, 0, none⟩) n kc)) (hno : a ≤ q ∨ (n : Int) ≤ a ∨ (K.getD a.toNat none).isSome = true) :
    Calls Tryd.prog 71 #[.pointer (some ⟨C, 0, none⟩), .int .i64 q, .int .i64 a] w fun r w' => r = .returned (.int .i64 (if a ≤ q ∨ (n : Int) ≤ a then 3 else 8)) ∧ w' = w := by
  by_cases d1 : a ≤ q
  · rw [if_pos (Or.inl d1)]
    go_enter Tryd.func71, Tryd.ntmps71
    go_wp2_with fail
    go_ret
    exact ⟨rfl, rfl⟩
  by_cases d2 : (n : Int) ≤ a
  · rw [if_pos (Or.inr d2)]
    go_enter Tryd.func71, Tryd.ntmps71
    go_wp2_with fail
    go_ret
    exact ⟨rfl, rfl⟩
  rw [if_neg (by omega)]
  obtain ⟨t, rfl⟩ : ∃ t : Nat, a = t := ⟨a.toNat, by omega⟩
  have ht : t < K.length := by omega
  have hs : K[t]? = some K[t] := List.getElem?_eq_getElem ht
  have hsome : (K.getD t none).isSome = true := by
    rcases hno with e | e | e
    · omega
    · omega
    · simpa using e
  rw [List.getD_eq_getElem?_getD, hs] at hsome
  obtain ⟨y, hy⟩ : ∃ y, K[t] = some y := Option.isSome_iff_exists.1 hsome
  have z1 := h.cell (j := 1) hs (by omega) (by rw [hy]; rfl)
  clear hno hs hsome hy
  go_enter Tryd.func71, Tryd.ntmps71
  go_wp2_with fail
  go_ret
  exact ⟨rfl, rfl⟩
end
section
set_option linter.unusedVariables false
set_option linter.unusedSimpArgs false
open Go.RowKit

set_option maxRecDepth 100000 in
set_option maxHeartbeats 3200000 in
theorem closure_yes (C G pb po n pc kc q t : Nat) (args ar : Int) (K : Kn) (w : World) (h : KR G K w) (hK : K.length = n) (hq : q < t) (ht : t < n) (hn : n ≤ 100000) (hCG : C ≠ G) (hPG : pb ≠ G)
    (c0 : w.cell? ⟨C, 0, none⟩ = some (.slice (some ⟨pb, po, none⟩) n pc)) (c1 : w.cell? ⟨C, 1, none⟩ = some (.slice (some ⟨G, 0, none⟩) n kc)) (ca : w.cell? ⟨pb, po + t * 2, none⟩ = some (.int .i64 args))
    (hat : K[t]? = some none) (har : ∃ b, K[q]? = some (some (b, ar))) (b1 : 0 ≤ args ∧ args ≤ 2000) (b2 : 0 ≤ ar ∧ ar ≤ 1000000000) :
    Calls Tryd.prog 71 #[.pointer (some ⟨C, 0, none⟩), .int .i64 q, .int .i64 t] w fun r w' => r = .returned (.int .i64 0) ∧ KR G (K.set t (some (false, ar + args))) w' ∧ Keep G w w' := by
  obtain ⟨b, har⟩ := har
  have y1 := h.cell (j := 1) hat (by omega) rfl
  have y0 := h.cell (j := 0) hat (by omega) rfl
  have y2 := h.cell (j := 2) hat (by omega) rfl
  have z2 := h.cell (j := 2) har (by omega) rfl
  have f0 := h.loose (t * 3)
  have f1 := h.loose (t * 3 + 1)
  have f2 := h.loose (t * 3 + 2)
  rw [Nat.add_zero] at y0
  have HS := hidd (h.set (i := t) (s := some (false, ar + args)) rfl (by omega))
  have HKp := hidd ((((Keep.refl G w).setCell ⟨G, t * 3, none⟩ rfl (.bool false)).setCell ⟨G, t * 3 + 1, none⟩ rfl (.bool true)).setCell ⟨G, t * 3 + 2, none⟩ rfl (.int .i64 (ar + args)))
  obtain ⟨b3, b4⟩ := b1
  obtain ⟨b5, b6⟩ := b2
  have htq : ¬ (t : Int) ≤ q := by omega
  have htn : ¬ (n : Int) ≤ t := by omega
  clear h hat har
  go_enter Tryd.func71, Tryd.ntmps71
  go_wp2_with fail
  go_region
  all_goals
    go_wp2_with fail
    go_ret
    exact ⟨rfl, HS.out, HKp.out.drew⟩
end
end Go.Proofs.YtdnbingddbakaaaDoor
