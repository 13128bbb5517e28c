/- Chapter 7: package model: a call of a procedure with numbers that are put out, evaluated. -/
import Derived.Test.YthooljlikllnpaaDoorK41
namespace Go.Proofs.YthooljlikllnpaaDoor
set_option linter.unusedVariables false
set_option linter.unusedSimpArgs false
open Go.RowKit

def corO (n : Int) : Cor := corC outB [corN n]
def corA (k : Nat) : Cor := ⟨8, k, 0, ⟨#[]⟩, ⟨#[]⟩, dat0, [corN 0]⟩
def corL (ns : List Int) : Cor := ⟨9, 0, 0, ⟨#[]⟩, ⟨#[]⟩, dat0, corA ns.length :: ns.map corO⟩
theorem Cn.index {B : Nat} {w : World} {g b o : Nat} {c : Cor} (h : Cn B w g b o c) : w.cell? ⟨b, o + 1, none⟩ = some (.int .i64 c.index) := by
  obtain ⟨hb, qa, qc, ka, kc, hn, ho, hd, hk⟩ := h
  exact hn.c1
theorem RT.rn {B rb : Nat} {txs : List (List UInt8)} {left calls : Int} {gm : Value} {W : World} (h : RT B rb txs left calls gm W) : ∃ tv, RN rb tv left calls gm W := by
  obtain ⟨tv, h1, h2⟩ := h
  exact ⟨tv, h1⟩
def RL (B rb mb mo fb : Nat) (ns : List Int) (left : Int) (gm : Value) (vs : List (TypeId × Value)) (W : World) : Prop :=
  RF fb W ∧ match vs with
  | [] => RT B rb [] (left - 1) 0 gm W
  | v0 :: r => (∃ P, v0 = (115, .pointer (some ⟨P, 0, none⟩)) ∧ W.heap[P]? = some (.cells #[.int .i64 ns.length, .pointer (some ⟨mb, mo, none⟩), .pointer (some ⟨fb, 0, none⟩)] 117 (0, 0))) ∧ RT B rb ((ns.take r.length).map Lib.itoa) (left - 2 - 3 * r.length) 0 gm W
theorem eval_left (B T : Nat) (ns : List Int) (g rb cb co fb : Nat) (gm : Value) (left : Int) (w : World)
    (hr : RT B rb [] left 0 gm w) (hn : ns.length ≤ 30) (hl : 100 ≤ left) (hl9 : left ≤ 1000000) (hB : B ≤ rb) (hBw : B ≤ w.heap.size) (hC : Cn B w g cb co (corL ns)) (hF : RF fb w)
    (ht : Tab T w) (hT : T ≤ B) (h1 : ∀ n ∈ ns, rangeN n = true) :
    Calls Tryd.prog 28 #[.pointer (some ⟨rb, 0, none⟩), .pointer (some ⟨cb, co, none⟩), .pointer (some ⟨fb, 0, none⟩)] w (EvK B rb (fun t v W => RT B rb (ns.map Lib.itoa) (left - 2 - 3 * ns.length - 1) 0 gm W) w) := by
  obtain ⟨g1, lb, lo, cap, k11, hcap, hlb, hkid⟩ := hC.row (by simp [corL])
  obtain ⟨tv, hRN⟩ := hr.rn
  have hrb : rb < w.heap.size := (Array.getElem?_eq_some_iff.1 hRN).1
  have hlen : (corL ns).kids.length = ns.length + 1 := by simp [corL]
  rw [hlen] at k11 hcap
  have hA : Cn B w g1 lb lo (corA ns.length) := by simpa using hkid 0 _ rfl
  obtain ⟨g2, mb, mo, cap2, m11, hcap2, hmb, hmk⟩ := hA.row (by simp [corA])
  have hM : Cn B w g2 mb mo (corN 0) := by simpa using hmk 0 _ rfl
  have cel := hC.cells
  have fne : fb ≠ rb := ne_type hRN hF (by decide)
  refine eval_callK B rb cb co lb lo (ns.length + 1) cap [] gm (.pointer (some ⟨fb, 0, none⟩)) left 0 (RL B rb mb mo fb ns left gm) _ w hr (by omega) hl9 (by have := hC.1; omega) (by omega) hcap hrb cel.1 k11 ?_ (fun W hb => ?_) ?_ ?_
  · intro vs W N cs q v e1 _ h
    obtain ⟨hf, h⟩ := h
    refine ⟨(Below.heap_setCell _ _ _ _ (by simpa using ne77 e1 hf (by decide))).trans hf, ?_⟩
    match vs, h with
    | [], h => exact h.set77 e1
    | v0 :: r, h =>
      obtain ⟨⟨P, e2, e3⟩, e4⟩ := h
      exact ⟨⟨P, e2, (Below.heap_setCell _ _ _ _ (by simpa using ne77 e1 e3 (by decide))).trans e3⟩, e4.set77 e1⟩
  · refine ⟨?_, hr.first hb⟩
    refine (hb.block fb (Array.getElem?_eq_some_iff.1 hF).1).trans ?_
    exact (Below.heap_setCell _ _ _ _ (by simpa using fne)).trans hF
  · intro vs W hj hk hR
    have hkB := hk.toBelow hB hBw
    have hBW : B ≤ W.heap.size := Nat.le_trans hBw hk.size
    obtain ⟨hf, h⟩ := hR
    match vs, hj, h with
    | [], _, h =>
      have hA' := hA.below hkB
      have m11' := (hkB.cell (p := ⟨lb, lo + 11, none⟩) hlb).trans m11
      have ca := hA'.cells
      refine (eval_lam B rb lb (lo + 0) mb mo cap2 fb [] gm (left - 1) 0 ns.length W h (by omega) (by omega) (by omega) hcap2 (by simpa [corA] using ca.1) (by simpa [corA] using hA'.index) (by simpa [corA] using m11')).mono ?_
      rintro e w' ⟨q1, t, v, rfl, rfl, q2, P, q3, rfl, q4⟩
      refine ⟨q1, _, _, rfl, q1.at hf (by decide) fne, ⟨P, rfl, q4⟩, ?_⟩
      have e : left - 1 - 1 = left - 2 - 3 * ((0 : Nat) : Int) := by omega
      simp only [List.length_nil, List.take_zero, List.map_nil]
      rw [← e]
      exact q2
    | v0 :: r, hj, h =>
      obtain ⟨⟨P, e2, e3⟩, e4⟩ := h
      have hrl : r.length < ns.length := by simpa using hj
      obtain ⟨tvW, hRW⟩ := e4.rn
      have pne : P ≠ rb := ne_type hRW e3 (by decide)
      have hO : Cn B W g1 lb (lo + (r.length + 1) * 12) (corO ns[r.length]) := (hkid (r.length + 1) _ (by simp [corL, hrl])).below hkB
      obtain ⟨g3, ob, oo, cap3, o11, hcap3, hob, hok⟩ := hO.row (by simp [corO, corC])
      have o0 := hok 0 _ rfl
      have o1 := hok 1 _ rfl
      have co0 := hO.cells
      refine (out_num B T ns[r.length] ((ns.take r.length).map Lib.itoa) rb lb (lo + (r.length + 1) * 12) ob oo cap3 gm (.pointer (some ⟨fb, 0, none⟩)) (left - 2 - 3 * r.length) 0 W e4 (by omega) (by omega) hB hBW hlb hob hcap3 (by simp; omega) (ht.below (hkB.mono hT)) hT (h1 _ (List.getElem_mem hrl))
        (by simpa [corO, corC] using co0.1) (by simpa [corO, corC] using o11) (by simpa [corP] using o0.cells.1) (by simpa [corP] using o0.cells.2.2) (by simpa [corN] using o1.cells.1) (by simpa [corN] using o1.cells.2.1)).mono ?_
      rintro e w' ⟨q1, t, v, rfl, rfl, rfl, q2⟩
      refine ⟨q1, _, _, rfl, q1.at hf (by decide) fne, ⟨P, e2, q1.at e3 (by decide) pne⟩, ?_⟩
      have e : left - 2 - 3 * (r.length : Int) - 3 = left - 2 - 3 * ((r.length + 1 : Nat) : Int) := by omega
      rw [e] at q2
      have et : (ns.take r.length).map Lib.itoa ++ [Lib.itoa ns[r.length]] = (ns.take (r.length + 1)).map Lib.itoa := by
        rw [List.take_add_one, List.getElem?_eq_getElem hrl, List.map_append]
        rfl
      rw [et] at q2
      simpa using q2
  · intro N vs W hN hNW hk hvl h77 hR hcs
    have hkB := hk.toBelow hB hBw
    obtain ⟨hf, h⟩ := hR
    match vs, hvl, h, hcs with
    | v0 :: r, hvl, h, hcs =>
      obtain ⟨⟨P, rfl, e3⟩, e4⟩ := h
      have hrl : r.length = ns.length := by simpa using hvl
      rw [hrl, List.take_length] at e4
      have cM := (hM.below hkB).cells
      refine (call_proc B rb N ns.length P mb mo fb (ns.map Lib.itoa) gm (left - 2 - 3 * ns.length) 0 W e4 (by omega) (by omega) hB (Nat.le_trans hBw hk.size) hmb (by omega) (hcs 0 _ _ rfl) e3 hf (by simpa [corN] using cM.1) (by simpa [corN] using cM.2.1)).mono ?_
      rintro e w' ⟨q1, t, v, rfl, rfl, rfl, q2⟩
      exact ⟨q1, _, _, rfl, q2⟩
end Go.Proofs.YthooljlikllnpaaDoor
