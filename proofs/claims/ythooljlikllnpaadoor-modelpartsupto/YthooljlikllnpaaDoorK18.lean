/- Chapter 7: package model: what is put out of a sum, and of a pair, as Run tells it. -/
import Derived.Test.YthooljlikllnpaaDoorK17
import Derived.Lib.ItoaLen
namespace Go.Proofs.YthooljlikllnpaaDoor
set_option linter.unusedVariables false
set_option linter.unusedSimpArgs false
open Go.RowKit

def dat0 : Dat := ⟨0, 0, ⟨#[]⟩, 0, 0, []⟩
def corN (n : Int) : Cor := ⟨1, 0, n, ⟨#[]⟩, ⟨#[]⟩, dat0, []⟩
def corP (f : ByteArray) : Cor := ⟨6, 0, 0, ⟨#[]⟩, f, dat0, []⟩
def corC (f : ByteArray) (l : List Cor) : Cor := ⟨9, 0, 0, ⟨#[]⟩, ⟨#[]⟩, dat0, corP f :: l⟩

theorem Cn.row {B : Nat} {w : World} {g b o : Nat} {c : Cor} (h : Cn B w g b o c) (h0 : c.kids ≠ []) : ∃ g' lb lo kc, w.cell? ⟨b, o + 11, none⟩ = some (.slice (some ⟨lb, lo, none⟩) c.kids.length kc) ∧ c.kids.length ≤ kc ∧ lb < B ∧ ∀ i k, c.kids[i]? = some k → Cn B w g' lb (lo + i * 12) k := by
  obtain ⟨hb, qa, qc, ka, kc, hn, ho, hd, hk⟩ := h
  obtain ⟨g', lb, lo, rfl, rfl, hh⟩ := hk.at h0
  refine ⟨g', lb, lo, kc, hn.c11, ho.2.2.2.2, ?_, hh⟩
  obtain ⟨k, hk⟩ := List.exists_mem_of_ne_nil _ h0
  obtain ⟨i, hi, e⟩ := List.getElem_of_mem hk
  exact (hh i k (by rw [List.getElem?_eq_getElem hi, e])).1
theorem Cn.cells {B : Nat} {w : World} {g b o : Nat} {c : Cor} (h : Cn B w g b o c) : w.cell? ⟨b, o, none⟩ = some (.int .i64 c.kind) ∧ w.cell? ⟨b, o + 2, none⟩ = some (.int .i64 c.n) ∧ w.cell? ⟨b, o + 4, none⟩ = some (.string c.own) := by
  obtain ⟨hb, qa, qc, ka, kc, hn, ho, hd, hk⟩ := h
  exact ⟨hn.c0, hn.c2, hn.c4⟩
/-- Of an expression that puts out what is made of two numbers, where it lies. -/
theorem Cn.two {B : Nat} {w : World} {g cb co : Nat} {f : ByteArray} {x y : Int} (h : Cn B w g cb co (corC outB [corC f [corN x, corN y]])) :
    ∃ lb lo cap mb mo cap2, cb < B ∧ lb < B ∧ mb < B ∧ 2 ≤ cap ∧ 3 ≤ cap2 ∧ w.cell? ⟨cb, co, none⟩ = some (.int .i64 9) ∧ w.cell? ⟨cb, co + 11, none⟩ = some (.slice (some ⟨lb, lo, none⟩) 2 cap) ∧
      w.cell? ⟨lb, lo, none⟩ = some (.int .i64 6) ∧ w.cell? ⟨lb, lo + 4, none⟩ = some (.string outB) ∧
      w.cell? ⟨lb, lo + 12, none⟩ = some (.int .i64 9) ∧ w.cell? ⟨lb, lo + 12 + 11, none⟩ = some (.slice (some ⟨mb, mo, none⟩) 3 cap2) ∧
      w.cell? ⟨mb, mo, none⟩ = some (.int .i64 6) ∧ w.cell? ⟨mb, mo + 4, none⟩ = some (.string f) ∧
      w.cell? ⟨mb, mo + 12, none⟩ = some (.int .i64 1) ∧ w.cell? ⟨mb, mo + 12 + 2, none⟩ = some (.int .i64 x) ∧
      w.cell? ⟨mb, mo + 24, none⟩ = some (.int .i64 1) ∧ w.cell? ⟨mb, mo + 24 + 2, none⟩ = some (.int .i64 y) := by
  obtain ⟨g1, lb, lo, cap, h1, h2, h3, h4⟩ := h.row (by simp [corC])
  have k0 := h4 0 _ rfl
  have k1 := h4 1 _ rfl
  obtain ⟨g2, mb, mo, cap2, i1, i2, i3, i4⟩ := k1.row (by simp [corC])
  have j0 := i4 0 _ rfl
  have j1 := i4 1 _ rfl
  have j2 := i4 2 _ rfl
  have q := h.cells
  refine ⟨lb, lo, cap, mb, mo, cap2, h.1, h3, i3, h2, i2, q.1, h1, ?_, ?_, ?_, ?_, ?_, ?_, ?_, ?_, ?_, ?_⟩
  · simpa [corP] using k0.cells.1
  · simpa [corP] using k0.cells.2.2
  · simpa [corC] using k1.cells.1
  · simpa [corC] using i1
  · simpa [corP] using j0.cells.1
  · simpa [corP] using j0.cells.2.2
  · simpa [corN] using j1.cells.1
  · simpa [corN] using j1.cells.2.1
  · simpa [corN] using j2.cells.1
  · simpa [corN] using j2.cells.2.1
theorem right_two (f : ByteArray) (x y : Int) (hf : argsB f ≠ 0) (h1 : rangeN x = true) (h2 : rangeN y = true) : wrongB [corC outB [corC f [corN x, corN y]]] = 0 := by
  unfold rangeN at h1 h2
  simp only [Bool.and_eq_true, decide_eq_true_eq] at h1 h2
  have hN : ∀ f x n, (-1000000000000000 ≤ x ∧ x ≤ 1000000000000000) → n ≤ 100 → ckC (f + 1) 0 (corN x) n = (0, n + 1) := by
    intro f x n hx hn
    have : ¬ 3000 < n + 1 := by omega
    simp [ckC, corN, wkids, wfields, hx, ckL, this]
  have hPm : ∀ g (s : ByteArray) n, argsB s ≠ 0 → n ≤ 100 → ckC (g + 1) 0 (corP s) n = (0, n + 1) := by
    intro g s n hs hn
    have : ¬ 3000 < n + 1 := by omega
    simp [ckC, corP, wkids, wfields, hs, ckL, this]
  have hO : argsB outB ≠ 0 := by decide +kernel
  have e2 : ∀ n, n ≤ 50 → ckC (297 + 2) 0 (corC f [corN x, corN y]) n = (0, n + 4) := by
    intro n hn
    have : ¬ 3000 < n + 1 := by omega
    rw [ckC]
    simp [corC, wkids, wfields, ckL, this, hPm 297 f (n + 1) hf (by omega), hN 297 x (n + 2) h1 (by omega), hN 297 y (n + 3) h2 (by omega)]
  have e3 : ckC (298 + 2) 0 (corC outB [corC f [corN x, corN y]]) 0 = (0, 6) := by
    rw [ckC]
    have p := hPm 298 outB 1 hO (by omega)
    have q := e2 2 (by omega)
    simp only [corC] at q
    simp [corC, wkids, wfields, ckL, p]
    simp [q]
  have e : (ckC 300 0 (corC outB [corC f [corN x, corN y]]) 0).1 = 0 := by
    have := congrArg Prod.fst e3
    exact this
  simp [wrongB, ckB, e]
theorem itoa_short (n : Int) (h : rangeN n = true) : (Lib.itoa n).length ≤ 100 := by
  unfold rangeN at h
  simp only [Bool.and_eq_true, decide_eq_true_eq] at h
  have := Lib.itoa_length_le n (by omega) (by omega)
  omega
/-- What a run has told of one text, or of none. -/
def T1 (ok : Bool) (s : List UInt8) (a : Option Addr) (n c : Nat) (W : World) : Prop :=
  (ok = true → n = 1 ∧ ∃ G, a = some ⟨G, 0, none⟩ ∧ W.cell? ⟨G, 0, none⟩ = some (.string ⟨s.toArray⟩)) ∧ (ok = false → n = 0 ∧ a = none)
theorem T1.set {ok : Bool} {s : List UInt8} {a : Option Addr} {n c N q : Nat} {y : Int} {v : Value} {W : World} (hc : W.cell? ⟨N, 0, none⟩ = some (.int .i64 y)) (h : T1 ok s a n c W) : T1 ok s a n c (W.setCell ⟨N, q, none⟩ v) := by
  refine ⟨fun e => ?_, h.2⟩
  obtain ⟨h1, G, rfl, h3⟩ := h.1 e
  refine ⟨h1, G, rfl, ?_⟩
  have hne : G ≠ N := by
    rintro rfl
    rw [h3] at hc
    cases hc
  rw [World.cell?_of_block (Below.heap_setCell _ _ _ _ (by simpa using hne))]
  exact h3
theorem decDigits_some (u : Nat) : Lib.decDigits u ≠ [] := by
  rw [Lib.decDigits]
  split <;> simp
theorem itoa_some (n : Int) : Lib.itoa n ≠ [] := by
  unfold Lib.itoa
  split
  · simp
  · exact decDigits_some _
theorem part_cells {w : World} {pb : Nat} {nm : ByteArray} {v : Value} (hp : w.heap[pb]? = some (.cells #[.string nm, v] 39 (0, 0))) : pb < w.heap.size ∧ w.cell? ⟨pb, 0, none⟩ = some (.string nm) ∧ w.cell? ⟨pb, 0 + 1, none⟩ = some v :=
  ⟨(Array.getElem?_eq_some_iff.1 hp).1, (cellO hp).trans rfl, (cellO hp).trans rfl⟩
/-- Run, of a part that puts out what two numbers come to. -/
theorem Run_sum (f : Fin 4) (x y : Int) (B g T pb cb co ccap : Nat) (nm : ByteArray) (w : World) (hl : Cc B w (g + 1) (some ⟨cb, co, none⟩) [corC outB [corC (opB f) [corN x, corN y]]]) (hB : B ≤ w.heap.size) (hcc : 1 ≤ ccap)
    (hp : w.heap[pb]? = some (.cells #[.string nm, .slice (some ⟨cb, co, none⟩) 1 ccap] 39 (0, 0))) (ht : Tab T w) (hT : T ≤ w.heap.size) (h1 : rangeN x = true) (h2 : rangeN y = true) :
    Calls Tryd.prog 8 #[.slice (some ⟨pb, 0, none⟩) 1 1, .int .i64 100] w fun e w' => Below w.heap.size w w' ∧ ∃ a n c, e = .returned (.tuple #[.agg #[.int .i64 (if opOk f x y then 1 else 6), .slice a n c], fv (0, 0)]) ∧ T1 (opOk f x y) (opS f x y) a n c w' := by
  obtain ⟨hpb, p0, p1⟩ := part_cells hp
  have hfa : argsB (opB f) ≠ 0 := by match f with | 0 => decide +kernel | 1 => decide +kernel | 2 => decide +kernel | 3 => decide +kernel
  have hC : ∀ W, Below w.heap.size w W → Cn B W g cb co (corC outB [corC (opB f) [corN x, corN y]]) := fun W hb => by
    obtain ⟨g', b', o', e1, e2, hh⟩ := hl.at (by simp)
    cases e1
    cases e2
    have := (hh 0 _ rfl).below (hb.mono hB)
    simpa using this
  refine Run_st pb (if opOk f x y then 1 else 6) 100 (by omega) (by omega) (T1 (opOk f x y) (opS f x y)) w (fun a n c N q y' v W hc h => h.set hc) ?_ ?_
  · intro W hb
    have := Wrong1 B (g + 1) pb nm [corC outB [corC (opB f) [corN x, corN y]]] (some ⟨cb, co, none⟩) ccap W (hl.below (hb.mono hB)) (Nat.le_trans hB hb.size) hcc ((hb.block pb hpb).trans hp)
    rw [right_two (opB f) x y hfa h1 h2] at this
    exact this
  · intro rb gm W hb hrb hrW hR
    have hsz := hb.size
    refine (run_one rb pb 0 1 cb co ccap nm (opOk f x y) (opT f) (opX f x y) 6 (RN1 rb (opS f x y) (100 - 6) 0 gm) (RN rb (.slice none 0 0) (100 - 6) 0 gm) W hrW ((hb.cell (p := ⟨pb, 0, none⟩) hpb).trans p0) ((hb.cell (p := ⟨pb, 0 + 1, none⟩) hpb).trans p1) (by omega) ?_ (fun W1 W2 e h => RN.stay e h) ?_).mono ?_
    · rintro N y' z W1 hc hne ⟨G, cap', hr, hs⟩
      refine ⟨G, cap', RN.stay (Below.heap_setCell _ _ _ _ (by simpa using fun e => hne e.symm)) hr, ?_⟩
      have hne : G ≠ N := by
        rintro rfl
        rw [hs] at hc
        cases hc
      rw [World.cell?_of_block (Below.heap_setCell _ _ _ _ (by simpa using hne))]
      exact hs
    · intro W2 fr hb2
      have hs2 := hb2.size
      obtain ⟨lb, lo, cap, mb, mo, cap2, q1, q2, q3, q4, q5, c0, c1, c2, c3, c4, c5, c6, c7, c8, c9, c10, c11⟩ := (hC W2 (hb.trans (hb2.mono hsz))).two
      exact eval_out f x y rb cb co lb lo cap mb mo cap2 T gm fr 100 0 W2 (RN.stay (hb2.block rb hrW) hR) (by omega) (by omega) (by omega) (by omega) (by omega) (by omega) (by omega) (by omega) q4 q5
        (ht.below ((hb.trans (hb2.mono hsz)).mono hT)) (by omega) itoa_short itoa_some h1 h2 c0 c1 c2 c3 c4 c5 c6 c7 c8 c9 c10 c11
    · rintro e w' ⟨rfl, hk, hr1, hr2⟩
      cases hq : opOk f x y
      · exact ⟨rfl, hk, none, 0, 0, _, _, hr2 hq, fun e => absurd e (by simp), fun _ => ⟨rfl, rfl⟩⟩
      · obtain ⟨G, cap', hr, hs⟩ := hr1 hq
        exact ⟨rfl, hk, some ⟨G, 0, none⟩, 1, cap', _, _, hr, fun _ => ⟨rfl, G, rfl, hs⟩, fun e => absurd e (by simp)⟩
/-- Run, of a part that puts out a pair of two numbers. -/
theorem Run_pair (x y : Int) (B g T pb cb co ccap : Nat) (nm : ByteArray) (w : World) (hl : Cc B w (g + 1) (some ⟨cb, co, none⟩) [corC outB [corC consB [corN x, corN y]]]) (hB : B ≤ w.heap.size) (hcc : 1 ≤ ccap)
    (hp : w.heap[pb]? = some (.cells #[.string nm, .slice (some ⟨cb, co, none⟩) 1 ccap] 39 (0, 0))) (ht : Tab T w) (hT : T ≤ w.heap.size) (h1 : rangeN x = true) (h2 : rangeN y = true) :
    Calls Tryd.prog 8 #[.slice (some ⟨pb, 0, none⟩) 1 1, .int .i64 20] w fun e w' => Below w.heap.size w w' ∧ ∃ a n c, e = .returned (.tuple #[.agg #[.int .i64 1, .slice a n c], fv (0, 0)]) ∧ T1 true (pairB x y) a n c w' := by
  obtain ⟨hpb, p0, p1⟩ := part_cells hp
  have hfa : argsB consB ≠ 0 := by decide +kernel
  have hC : ∀ W, Below w.heap.size w W → Cn B W g cb co (corC outB [corC consB [corN x, corN y]]) := fun W hb => by
    obtain ⟨g', b', o', e1, e2, hh⟩ := hl.at (by simp)
    cases e1
    cases e2
    have := (hh 0 _ rfl).below (hb.mono hB)
    simpa using this
  refine Run_st pb 1 20 (by omega) (by omega) (T1 true (pairB x y)) w (fun a n c N q y' v W hc h => h.set hc) ?_ ?_
  · intro W hb
    have := Wrong1 B (g + 1) pb nm [corC outB [corC consB [corN x, corN y]]] (some ⟨cb, co, none⟩) ccap W (hl.below (hb.mono hB)) (Nat.le_trans hB hb.size) hcc ((hb.block pb hpb).trans hp)
    rw [right_two consB x y hfa h1 h2] at this
    exact this
  · intro rb gm W hb hrb hrW hR
    have hsz := hb.size
    refine (run_oneV rb pb 0 1 cb co ccap nm (RN1 rb (pairB x y) (20 - 6) 0 gm) W hrW ((hb.cell (p := ⟨pb, 0, none⟩) hpb).trans p0) ((hb.cell (p := ⟨pb, 0 + 1, none⟩) hpb).trans p1) (by omega) ?_ ?_).mono ?_
    · rintro N y' z W1 hc hne ⟨G, cap', hr, hs⟩
      refine ⟨G, cap', RN.stay (Below.heap_setCell _ _ _ _ (by simpa using fun e => hne e.symm)) hr, ?_⟩
      have hne : G ≠ N := by
        rintro rfl
        rw [hs] at hc
        cases hc
      rw [World.cell?_of_block (Below.heap_setCell _ _ _ _ (by simpa using hne))]
      exact hs
    · intro W2 fr hb2
      have hs2 := hb2.size
      obtain ⟨lb, lo, cap, mb, mo, cap2, q1, q2, q3, q4, q5, c0, c1, c2, c3, c4, c5, c6, c7, c8, c9, c10, c11⟩ := (hC W2 (hb.trans (hb2.mono hsz))).two
      refine (eval_outC x y rb cb co lb lo cap mb mo cap2 T gm fr 20 0 W2 (RN.stay (hb2.block rb hrW) hR) (by omega) (by omega) (by omega) (by omega) (by omega) (by omega) (by omega) (by omega) q4 q5
        (ht.below ((hb.trans (hb2.mono hsz)).mono hT)) (by omega) h1 h2 (itoa_short x h1) (itoa_short y h2) c0 c1 c2 c3 c4 c5 c6 c7 c8 c9 c10 c11).mono ?_
      rintro e w' ⟨hk, t, v, rfl, _, hr⟩
      exact ⟨hk, t, v, rfl, hr⟩
    · rintro e w' ⟨rfl, hk, G, cap', hr, hs⟩
      exact ⟨rfl, hk, some ⟨G, 0, none⟩, 1, cap', _, _, hr, fun _ => ⟨rfl, G, rfl, hs⟩, fun e => absurd e (by simp)⟩
end Go.Proofs.YthooljlikllnpaaDoor
