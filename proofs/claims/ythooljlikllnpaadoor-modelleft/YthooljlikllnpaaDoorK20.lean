/- Chapter 7: package model: out of a sum is evaluated. -/
import Derived.Test.YthooljlikllnpaaDoorK19
namespace Go.Proofs.YthooljlikllnpaaDoor
set_option linter.unusedVariables false
set_option linter.unusedSimpArgs false
open Go.RowKit

def opS (f : Fin 4) (a b : Int) : List UInt8 := match f with | 0 => Lib.itoa (a + b) | 1 => Lib.itoa (a - b) | 2 => Lib.itoa (a * b) | 3 => truthB (decide (a < b))
theorem value_op (f : Fin 4) (a b : Int) (T B c : Nat) (w : World) (h : Wr B c 0 [] w) (hBw : B ≤ w.heap.size) (ht : Tab T w) (hT : T ≤ B) (hq : opOk f a b = true) (hlen : ∀ n, rangeN n = true → (Lib.itoa n).length ≤ 100) :
    Calls Tryd.prog 81 #[.pointer (some ⟨c, 0, none⟩), .iface (opT f) (opX f a b)] w fun e w' => e = .returned (.tuple #[]) ∧ Wr B c 1 (opS f a b) w' ∧ Below B w w' := by
  match f, hq with
  | 0, hq => exact value_num T B c 0 _ [] w h (by omega) (by omega) (by simp) hBw ht hT hq (hlen _ hq)
  | 1, hq => exact value_num T B c 0 _ [] w h (by omega) (by omega) (by simp) hBw ht hT hq (hlen _ hq)
  | 2, hq => exact value_num T B c 0 _ [] w h (by omega) (by omega) (by simp) hBw ht hT hq (hlen _ hq)
  | 3, _ => exact value_truth B c 0 _ [] w h (by omega) (by omega) (by simp) hBw
theorem eval_out (f : Fin 4) (a b : Int) (rb cb co lb lo cap mb mo cap2 T : Nat) (gm fr : Value) (left calls : Int) (w : World)
    (hr : RN rb (.slice none 0 0) left calls gm w) (hl : 6 ≤ left) (hl9 : left ≤ 1000000) (hc : rb ≠ cb) (hlb : rb ≠ lb) (hmb : rb ≠ mb) (hlw : lb < w.heap.size) (hmw : mb < w.heap.size) (hrb : rb < w.heap.size) (hcap : 2 ≤ cap) (hcap2 : 3 ≤ cap2)
    (ht : Tab T w) (hT : T ≤ rb) (hlen : ∀ n, rangeN n = true → (Lib.itoa n).length ≤ 100) (hne : ∀ n, Lib.itoa n ≠ [])
    (h1 : rangeN a = true) (h2 : rangeN b = true)
    (k0 : w.cell? ⟨cb, co, none⟩ = some (.int .i64 9)) (k11 : w.cell? ⟨cb, co + 11, none⟩ = some (.slice (some ⟨lb, lo, none⟩) 2 cap))
    (o0 : w.cell? ⟨lb, lo, none⟩ = some (.int .i64 6)) (o4 : w.cell? ⟨lb, lo + 4, none⟩ = some (.string outB))
    (n0 : w.cell? ⟨lb, lo + 12, none⟩ = some (.int .i64 9)) (n11 : w.cell? ⟨lb, lo + 12 + 11, none⟩ = some (.slice (some ⟨mb, mo, none⟩) 3 cap2))
    (p0 : w.cell? ⟨mb, mo, none⟩ = some (.int .i64 6)) (p4 : w.cell? ⟨mb, mo + 4, none⟩ = some (.string (opB f)))
    (q0 : w.cell? ⟨mb, mo + 12, none⟩ = some (.int .i64 1)) (q2 : w.cell? ⟨mb, mo + 12 + 2, none⟩ = some (.int .i64 a))
    (s0 : w.cell? ⟨mb, mo + 24, none⟩ = some (.int .i64 1)) (s2 : w.cell? ⟨mb, mo + 24 + 2, none⟩ = some (.int .i64 b)) :
    Calls Tryd.prog 28 #[.pointer (some ⟨rb, 0, none⟩), .pointer (some ⟨cb, co, none⟩), fr] w (Ev rb (opOk f a b) (.iface (opT f) (opX f a b)) (endP 6) (RN1 rb (opS f a b) (left - 6) calls gm) (RN rb (.slice none 0 0) (left - 6) calls gm) w) := by
  have cell : ∀ W, Keep rb w W → ∀ q, W.cell? ⟨lb, q, none⟩ = w.cell? ⟨lb, q, none⟩ := fun W hk q => hk.cell (p := ⟨lb, q, none⟩) hlw (fun e => hlb e.symm)
  have cellM : ∀ W, Keep rb w W → ∀ q, W.cell? ⟨mb, q, none⟩ = w.cell? ⟨mb, q, none⟩ := fun W hk q => hk.cell (p := ⟨mb, q, none⟩) hmw (fun e => hmb e.symm)
  cases hq : opOk f a b
  · refine eval_call rb cb co lb lo 2 cap (.slice none 0 0) gm fr left calls (fun j => decide (j = 0)) (fun j => if j = 0 then 114 else opT f) (fun j => if j = 0 then .string outB else opX f a b)
      true false (opT f) (opX f a b) (endP 6) (fun j W => RN rb (.slice none 0 0) (left - 1 - (if j = 0 then 0 else if j = 1 then 1 else 5)) calls gm W ∧ j ≤ 1) _ _ w hr (by omega) hl9 hc (by omega) hcap hrb k0 k11 (fun j W W' e h => ⟨RN.stay e h.1, h.2⟩) (fun W h => ⟨by simpa using h, by omega⟩) ?_ ?_ (fun h => absurd (h 1 (by omega)) (by decide)) (fun _ => rfl)
    · intro j W hj hk hR
      match j, hj with
      | 0, _ =>
        have := Ev.prim (fr := fr) (E := endP 6) (D := RN rb (.slice none 0 0) (left - 6) calls gm) hR.1 (by simp; omega) (by simp; omega) hlb ((cell W hk _).trans o0) ((cell W hk _).trans o4)
        refine (show Calls Tryd.prog 28 _ W _ by simpa using this).mono ?_
        rintro e w' ⟨g1, g2⟩
        refine ⟨g1, ?_⟩
        rcases g2 with ⟨_, g3, g4⟩ | ⟨g3, _⟩
        · exact Or.inl ⟨rfl, g3, by simpa using g4, by omega⟩
        · cases g3
      | 1, _ =>
        have := eval_sum f a b rb lb (lo + 12) mb mo cap2 (.slice none 0 0) gm fr (left - 2) calls W (by have := hR.1; simp at this; exact (show left - 1 - 1 = left - 2 by omega) ▸ this) (by omega) (by omega) hlb hmb (Nat.lt_of_lt_of_le hmw hk.size) (Nat.lt_of_lt_of_le hrb hk.size) hcap2 h1 h2 ((cell W hk _).trans n0) ((cell W hk _).trans n11) ((cellM W hk _).trans p0) ((cellM W hk _).trans p4) ((cellM W hk _).trans q0) ((cellM W hk _).trans q2) ((cellM W hk _).trans s0) ((cellM W hk _).trans s2)
        rw [hq, show left - 2 - 4 = left - 6 by omega] at this
        refine (show Calls Tryd.prog 28 _ W _ by simpa using this).mono ?_
        rintro e w' ⟨g1, g2⟩
        refine ⟨g1, ?_⟩
        rcases g2 with ⟨g3, _⟩ | ⟨_, g3, g4⟩
        · cases g3
        · exact Or.inr ⟨rfl, g3, g4⟩
    · intro N W hN hNW hk hR hcs
      exact absurd hR.2 (by omega)
  · refine eval_call rb cb co lb lo 2 cap (.slice none 0 0) gm fr left calls (fun _ => true) (fun j => if j = 0 then 114 else opT f) (fun j => if j = 0 then .string outB else opX f a b)
      true true (opT f) (opX f a b) (endP 6) (fun j W => RN rb (.slice none 0 0) (left - 1 - (if j = 0 then 0 else if j = 1 then 1 else 5)) calls gm W) _ _ w hr (by omega) hl9 hc (by omega) hcap hrb k0 k11 (fun j W W' e h => RN.stay e h) (fun W h => by simpa using h) ?_ ?_ (fun _ => rfl) (fun ⟨j, _, h⟩ => absurd h (by simp))
    · intro j W hj hk hR
      match j, hj with
      | 0, _ =>
        have := Ev.prim (fr := fr) (E := endP 6) (D := RN rb (.slice none 0 0) (left - 6) calls gm) hR (by simp; omega) (by simp; omega) hlb ((cell W hk _).trans o0) ((cell W hk _).trans o4)
        simpa using this
      | 1, _ =>
        have := eval_sum f a b rb lb (lo + 12) mb mo cap2 (.slice none 0 0) gm fr (left - 2) calls W (by have := hR; simp at this; exact (show left - 1 - 1 = left - 2 by omega) ▸ this) (by omega) (by omega) hlb hmb (Nat.lt_of_lt_of_le hmw hk.size) (Nat.lt_of_lt_of_le hrb hk.size) hcap2 h1 h2 ((cell W hk _).trans n0) ((cell W hk _).trans n11) ((cellM W hk _).trans p0) ((cellM W hk _).trans p4) ((cellM W hk _).trans q0) ((cellM W hk _).trans q2) ((cellM W hk _).trans s0) ((cellM W hk _).trans s2)
        rw [hq, show left - 2 - 4 = left - 6 by omega] at this
        have e : left - 1 - 5 = left - 6 := by omega
        simpa [e] using this
    · intro N W hN hNW hk hR hcs
      have g0 := hcs 0 (by omega)
      have g1 := hcs 1 (by omega)
      have hR' : RN rb (.slice none 0 0) (left - 6) calls gm W := by
        have e : left - 1 - 5 = left - 6 := by omega
        simpa [e] using hR
      refine call_prim1 rb N outB true (opT f) (opX f a b) (endP 6) _ _ W (by simpa using g0) ?_
      have hrbW : rb < W.heap.size := Nat.lt_of_lt_of_le hrb hk.size
      have htW : Tab T W := ht.below (hk.toBelow hT (by omega))
      have hsn : opS f a b ≠ [] := by match f with | 0 => exact hne _ | 1 => exact hne _ | 2 => exact hne _ | 3 => simp [opS, truthB]
      refine (prim_out rb N 1 (opT f) (opX f a b) (opS f a b) (left - 6) calls gm W (by simpa using g1) hNW (by omega) ?_).mono ?_
      · exact put_nil rb T (opT f) (opX f a b) (opS f a b) (left - 6) calls gm W hR' htW (by omega) hrbW hsn (fun W' hW' hs' ht' => value_op f a b T _ _ W' hW' hs' ht' (by omega) hq hlen)
      · rintro e w' ⟨rfl, hk', hr'⟩
        exact ⟨hk', Or.inl ⟨rfl, rfl, hr'⟩⟩
end Go.Proofs.YthooljlikllnpaaDoor
