/- Chapter 7: ModelSums: what its function run tells. -/
import Derived.Test.YthooljlikllnpaaDoorK20
namespace Go.Proofs.YthooljlikllnpaaDoor
set_option linter.unusedVariables false
set_option linter.unusedSimpArgs false
open Go.RowKit

theorem Rw.below {w w' : World} {b o : Nat} {l : List Value} (h : Rw w b o l) (hb : Below w.heap.size w w') (hl : b < w.heap.size) : Rw w' b o l := h.stay (hb.block b hl)
def nvV (n : Int) : Value := .agg (cv 1 n ⟨#[]⟩ (.slice none 0 0))
def cvV (k n cap : Nat) : Value := .agg (cv 9 0 ⟨#[]⟩ (.slice (some ⟨k, 0, none⟩) n cap))
def F3 (f : ByteArray) (x y : Int) (M cap : Nat) (W : World) : Prop := 3 ≤ cap ∧ M < W.heap.size ∧ Rw W M 0 ((cv 6 0 f (.slice none 0 0)).toList ++ kid2 x y)
theorem F3.up {f : ByteArray} {x y : Int} {M cap : Nat} {W W' : World} (h : F3 f x y M cap W) (hb : Below W.heap.size W W') : F3 f x y M cap W' := ⟨h.1, Nat.lt_of_lt_of_le h.2.1 hb.size, h.2.2.below hb h.2.1⟩
def D14 (x y : Int) (v : Value) (W : World) : Prop := ∃ N, v = .slice (some ⟨N, 0, none⟩) 2 2 ∧ N < W.heap.size ∧ Rw W N 0 (kid2 x y)
theorem D14.up {x y : Int} {v : Value} {W W' : World} (h : D14 x y v W) (hb : Below W.heap.size W W') : D14 x y v W' := by
  obtain ⟨N, h1, h2, h3⟩ := h
  exact ⟨N, h1, Nat.lt_of_lt_of_le h2 hb.size, h3.below hb h2⟩
def D15 (f : ByteArray) (x y : Int) (v : Value) (W : World) : Prop := ∃ M cap, v = cvV M 3 cap ∧ F3 f x y M cap W
theorem D15.up {f : ByteArray} {x y : Int} {v : Value} {W W' : World} (h : D15 f x y v W) (hb : Below W.heap.size W W') : D15 f x y v W' := by
  obtain ⟨M, cap, h1, h2⟩ := h
  exact ⟨M, cap, h1, h2.up hb⟩
def D16 (f : ByteArray) (x y : Int) (v : Value) (W : World) : Prop := ∃ N M cap, v = .slice (some ⟨N, 0, none⟩) 1 1 ∧ N < W.heap.size ∧ Rw W N 0 (cv 9 0 ⟨#[]⟩ (.slice (some ⟨M, 0, none⟩) 3 cap)).toList ∧ F3 f x y M cap W
theorem D16.up {f : ByteArray} {x y : Int} {v : Value} {W W' : World} (h : D16 f x y v W) (hb : Below W.heap.size W W') : D16 f x y v W' := by
  obtain ⟨N, M, cap, h1, h2, h3, h4⟩ := h
  exact ⟨N, M, cap, h1, Nat.lt_of_lt_of_le h2 hb.size, h3.below hb h2, h4.up hb⟩
def G2 (f : ByteArray) (x y : Int) (L cap : Nat) (W : World) : Prop := 2 ≤ cap ∧ L < W.heap.size ∧ ∃ M cap2, Rw W L 0 ((cv 6 0 outB (.slice none 0 0)).toList ++ (cv 9 0 ⟨#[]⟩ (.slice (some ⟨M, 0, none⟩) 3 cap2)).toList) ∧ F3 f x y M cap2 W
theorem G2.up {f : ByteArray} {x y : Int} {L cap : Nat} {W W' : World} (h : G2 f x y L cap W) (hb : Below W.heap.size W W') : G2 f x y L cap W' := by
  obtain ⟨h1, h2, M, cap2, h3, h4⟩ := h
  exact ⟨h1, Nat.lt_of_lt_of_le h2 hb.size, M, cap2, h3.below hb h2, h4.up hb⟩
def D17 (f : ByteArray) (x y : Int) (v : Value) (W : World) : Prop := ∃ L cap, v = cvV L 2 cap ∧ G2 f x y L cap W
theorem D17.up {f : ByteArray} {x y : Int} {v : Value} {W W' : World} (h : D17 f x y v W) (hb : Below W.heap.size W W') : D17 f x y v W' := by
  obtain ⟨M, cap, h1, h2⟩ := h
  exact ⟨M, cap, h1, h2.up hb⟩
def G1 (f : ByteArray) (x y : Int) (C : Nat) (W : World) : Prop := C < W.heap.size ∧ ∃ L cap, Rw W C 0 (cv 9 0 ⟨#[]⟩ (.slice (some ⟨L, 0, none⟩) 2 cap)).toList ∧ G2 f x y L cap W
theorem G1.up {f : ByteArray} {x y : Int} {C : Nat} {W W' : World} (h : G1 f x y C W) (hb : Below W.heap.size W W') : G1 f x y C W' := by
  obtain ⟨h2, L, cap, h3, h4⟩ := h
  exact ⟨Nat.lt_of_lt_of_le h2 hb.size, L, cap, h3.below hb h2, h4.up hb⟩
def D18 (f : ByteArray) (x y : Int) (v : Value) (W : World) : Prop := ∃ C, v = .slice (some ⟨C, 0, none⟩) 1 1 ∧ G1 f x y C W
theorem D18.up {f : ByteArray} {x y : Int} {v : Value} {W W' : World} (h : D18 f x y v W) (hb : Below W.heap.size W W') : D18 f x y v W' := by
  obtain ⟨C, h1, h2⟩ := h
  exact ⟨C, h1, h2.up hb⟩
def D19 (f : ByteArray) (x y : Int) (v : Value) (W : World) : Prop := ∃ C, v = .agg #[.string ⟨#[]⟩, .slice (some ⟨C, 0, none⟩) 1 1] ∧ G1 f x y C W
theorem D19.up {f : ByteArray} {x y : Int} {v : Value} {W W' : World} (h : D19 f x y v W) (hb : Below W.heap.size W W') : D19 f x y v W' := by
  obtain ⟨C, h1, h2⟩ := h
  exact ⟨C, h1, h2.up hb⟩
def D20 (f : ByteArray) (x y : Int) (v : Value) (W : World) : Prop := ∃ N C, v = .slice (some ⟨N, 0, none⟩) 1 1 ∧ N < W.heap.size ∧ W.heap[N]? = some (.cells #[.string ⟨#[]⟩, .slice (some ⟨C, 0, none⟩) 1 1] 39 (0, 0)) ∧ G1 f x y C W
theorem D20.up {f : ByteArray} {x y : Int} {v : Value} {W W' : World} (h : D20 f x y v W) (hb : Below W.heap.size W W') : D20 f x y v W' := by
  obtain ⟨N, C, h1, h2, h3, h4⟩ := h
  exact ⟨N, C, h1, Nat.lt_of_lt_of_le h2 hb.size, (hb.block N h2).trans h3, h4.up hb⟩
theorem T1.up {ok : Bool} {s : List UInt8} {a : Option Addr} {n c : Nat} {W W' : World} (h : T1 ok s a n c W) (hb : Below W.heap.size W W') : T1 ok s a n c W' := by
  refine ⟨fun e => ?_, h.2⟩
  obtain ⟨h1, G, h2, h3⟩ := h.1 e
  exact ⟨h1, G, h2, (hb.cell (p := ⟨G, 0, none⟩) (cell_lt h3)).trans h3⟩
def aggR (how : Int) (a : Option Addr) (n c : Nat) : Value := .agg #[.int .i64 how, .slice a n c]
def aggF : Value := .agg #[.int .i64 0, .int .i64 0]
def D21 (ok : Bool) (s : List UInt8) (how : Int) (v : Value) (W : World) : Prop := ∃ a n c, v = .tuple #[aggR how a n c, aggF] ∧ T1 ok s a n c W
theorem D21.up {ok : Bool} {s : List UInt8} {how : Int} {v : Value} {W W' : World} (h : D21 ok s how v W) (hb : Below W.heap.size W W') : D21 ok s how v W' := by
  obtain ⟨a, n, c, h1, h2⟩ := h
  exact ⟨a, n, c, h1, h2.up hb⟩
def D22 (ok : Bool) (s : List UInt8) (how : Int) (v : Value) (W : World) : Prop := ∃ a n c, v = aggR how a n c ∧ T1 ok s a n c W
theorem D22.up {ok : Bool} {s : List UInt8} {how : Int} {v : Value} {W W' : World} (h : D22 ok s how v W) (hb : Below W.heap.size W W') : D22 ok s how v W' := by
  obtain ⟨a, n, c, h1, h2⟩ := h
  exact ⟨a, n, c, h1, h2.up hb⟩
/-- The box of a result, and of a fault. -/
def D6 (b : Nat) (st : Bool) (ok : Bool) (s : List UInt8) (how : Int) (v : Value) (W : World) : Prop := ∃ N, v = .pointer (some ⟨N, 0, none⟩) ∧ b ≤ N ∧ N < W.heap.size ∧
  ((st = false ∧ W.heap[N]? = some (.cells #[.int .i64 0, .slice none 0 0] 25 (0, 0))) ∨ (st = true ∧ ∃ a n c, W.heap[N]? = some (.cells #[.int .i64 how, .slice a n c] 25 (0, 0)) ∧ T1 ok s a n c W))
theorem D6.up {b : Nat} {st ok : Bool} {s : List UInt8} {how : Int} {v : Value} {W W' : World} (h : D6 b st ok s how v W) (hb : Below W.heap.size W W') : D6 b st ok s how v W' := by
  obtain ⟨N, h1, h2, h3, h4⟩ := h
  refine ⟨N, h1, h2, Nat.lt_of_lt_of_le h3 hb.size, ?_⟩
  rcases h4 with ⟨g1, g2⟩ | ⟨g1, a, n, c, g2, g3⟩
  · exact Or.inl ⟨g1, (hb.block N h3).trans g2⟩
  · exact Or.inr ⟨g1, a, n, c, (hb.block N h3).trans g2, g3.up hb⟩
def D7 (b : Nat) (v : Value) (W : World) : Prop := ∃ N, v = .pointer (some ⟨N, 0, none⟩) ∧ b ≤ N ∧ N < W.heap.size ∧ W.heap[N]? = some (.cells #[.int .i64 0, .int .i64 0] 28 (0, 0))
theorem D7.up {b : Nat} {v : Value} {W W' : World} (h : D7 b v W) (hb : Below W.heap.size W W') : D7 b v W' := by
  obtain ⟨N, h1, h2, h3, h4⟩ := h
  exact ⟨N, h1, h2, Nat.lt_of_lt_of_le h3 hb.size, (hb.block N h3).trans h4⟩
theorem gs_ne {l : Array Bool} {i j : Nat} (h : i ≠ j) : (l.setIfInBounds i true).getD j false = l.getD j false := by
  simp [Array.getD_eq_getD_getElem?, Array.getElem?_setIfInBounds, h]
theorem gs_eq {l : Array Bool} {i : Nat} (h : i < l.size) : (l.setIfInBounds i true).getD i false = true := by
  simp [Array.getD_eq_getD_getElem?, Array.getElem?_setIfInBounds, h]
theorem un_of {l : Array Bool} {i : Nat} (h : l.getD i true = false) : l.getD i false = false := by
  by_cases hl : i < l.size
  · simpa [Array.getD, hl] using h
  · simp [Array.getD, hl]
structure I19 (b : Nat) (w0 : World) (fb : ByteArray) (x y : Int) (ok : Bool) (s : List UInt8) (how : Int) (l : Array Bool) (v6 v7 v8 v9 v10 v11 v12 v13 v14 v15 v16 v17 v18 v19 v20 v21 v22 v23 : Value) (W : World) : Prop where
  size : l.size = 20
  below : Below w0.heap.size w0 W
  base : b = w0.heap.size
  q18 : l.getD 18 false = true → ∀ j, j < 18 → j ≠ 15 → l.getD j false = true
  q19 : l.getD 19 false = true → l.getD 18 false = true ∧ l.getD 15 false = true
  p6 : l.getD 16 false = true → D6 b (l.getD 18 false) ok s how v6 W
  p7 : l.getD 19 false = false → l.getD 17 false = true → D7 b v7 W
  p8 : l.getD 19 false = false → l.getD 13 false = true → D21 ok s how v8 W
  p9 : l.getD 18 false = false → l.getD 0 false = true → v9 = .string fb
  p10 : l.getD 18 false = false → l.getD 1 false = true → v10 = .int .i64 x
  p11 : l.getD 18 false = false → l.getD 2 false = true → v11 = nvV x
  p12 : l.getD 18 false = false → l.getD 3 false = true → v12 = .int .i64 y
  p13 : l.getD 18 false = false → l.getD 4 false = true → v13 = nvV y
  p14 : l.getD 18 false = false → l.getD 5 false = true → D14 x y v14 W
  p15 : l.getD 18 false = false → l.getD 6 false = true → D15 fb x y v15 W
  p16 : l.getD 18 false = false → l.getD 7 false = true → D16 fb x y v16 W
  p17 : l.getD 18 false = false → l.getD 8 false = true → D17 fb x y v17 W
  p18 : l.getD 18 false = false → l.getD 9 false = true → D18 fb x y v18 W
  p19 : l.getD 18 false = false → l.getD 10 false = true → D19 fb x y v19 W
  p20 : l.getD 18 false = false → l.getD 11 false = true → D20 fb x y v20 W
  p21 : l.getD 18 false = false → l.getD 12 false = true → D21 ok s how v21 W
  p22 : l.getD 18 false = false → l.getD 14 false = true → D22 ok s how v22 W
  p23 : l.getD 15 false = true → v23 = aggF
theorem I19.t0 {b : Nat} {w0 : World} {fb : ByteArray} {x y : Int} {ok : Bool} {s : List UInt8} {how : Int} {l : Array Bool} {v6 v7 v8 v9 v10 v11 v12 v13 v14 v15 v16 v17 v18 v19 v20 v21 v22 v23 : Value} {W : World} {n : Value} {W' : World} (h : I19 b w0 fb x y ok s how l v6 v7 v8 v9 v10 v11 v12 v13 v14 v15 v16 v17 v18 v19 v20 v21 v22 v23 W) (hu : l.getD 0 true = false) (hb : Below W.heap.size W W') (hn : n = .string fb) : I19 b w0 fb x y ok s how (l.setIfInBounds 0 true) v6 v7 v8 n v10 v11 v12 v13 v14 v15 v16 v17 v18 v19 v20 v21 v22 v23 W' := by
  have hs : 0 < l.size := by rw [h.size]; decide
  have e18 : (l.setIfInBounds 0 true).getD 18 false = l.getD 18 false := gs_ne (by decide)
  have e19 : (l.setIfInBounds 0 true).getD 19 false = l.getD 19 false := gs_ne (by decide)
  refine ⟨by rw [Array.size_setIfInBounds]; exact h.size, h.below.trans (hb.mono h.below.size), h.base, ?q18, ?q19, fun e => e18.symm ▸ (h.p6 (by rw [gs_ne (by decide)] at e; exact e)).up hb, fun g e => (h.p7 (by rw [e19] at g; exact g) (by rw [gs_ne (by decide)] at e; exact e)).up hb, fun g e => (h.p8 (by rw [e19] at g; exact g) (by rw [gs_ne (by decide)] at e; exact e)).up hb, fun g e => hn, fun g e => h.p10 (by rw [e18] at g; exact g) (by rw [gs_ne (by decide)] at e; exact e), fun g e => h.p11 (by rw [e18] at g; exact g) (by rw [gs_ne (by decide)] at e; exact e), fun g e => h.p12 (by rw [e18] at g; exact g) (by rw [gs_ne (by decide)] at e; exact e), fun g e => h.p13 (by rw [e18] at g; exact g) (by rw [gs_ne (by decide)] at e; exact e), fun g e => (h.p14 (by rw [e18] at g; exact g) (by rw [gs_ne (by decide)] at e; exact e)).up hb, fun g e => (h.p15 (by rw [e18] at g; exact g) (by rw [gs_ne (by decide)] at e; exact e)).up hb, fun g e => (h.p16 (by rw [e18] at g; exact g) (by rw [gs_ne (by decide)] at e; exact e)).up hb, fun g e => (h.p17 (by rw [e18] at g; exact g) (by rw [gs_ne (by decide)] at e; exact e)).up hb, fun g e => (h.p18 (by rw [e18] at g; exact g) (by rw [gs_ne (by decide)] at e; exact e)).up hb, fun g e => (h.p19 (by rw [e18] at g; exact g) (by rw [gs_ne (by decide)] at e; exact e)).up hb, fun g e => (h.p20 (by rw [e18] at g; exact g) (by rw [gs_ne (by decide)] at e; exact e)).up hb, fun g e => (h.p21 (by rw [e18] at g; exact g) (by rw [gs_ne (by decide)] at e; exact e)).up hb, fun g e => (h.p22 (by rw [e18] at g; exact g) (by rw [gs_ne (by decide)] at e; exact e)).up hb, fun e => h.p23 (by rw [gs_ne (by decide)] at e; exact e)⟩
  case q18 => 
    intro e j hj hj5
    rw [e18] at e
    have := h.q18 e j hj hj5
    by_cases hij : 0 = j
    · subst hij; exact gs_eq hs
    · rw [gs_ne hij]; exact this
  case q19 => 
    intro e
    rw [e19] at e
    obtain ⟨g1, g2⟩ := h.q19 e
    refine ⟨by rw [e18]; exact g1, ?_⟩
    by_cases hij : 0 = 15
    · exact absurd hij (by decide)
    · rw [gs_ne hij]; exact g2
theorem I19.t1 {b : Nat} {w0 : World} {fb : ByteArray} {x y : Int} {ok : Bool} {s : List UInt8} {how : Int} {l : Array Bool} {v6 v7 v8 v9 v10 v11 v12 v13 v14 v15 v16 v17 v18 v19 v20 v21 v22 v23 : Value} {W : World} {n : Value} {W' : World} (h : I19 b w0 fb x y ok s how l v6 v7 v8 v9 v10 v11 v12 v13 v14 v15 v16 v17 v18 v19 v20 v21 v22 v23 W) (hu : l.getD 1 true = false) (hb : Below W.heap.size W W') (hn : n = .int .i64 x) : I19 b w0 fb x y ok s how (l.setIfInBounds 1 true) v6 v7 v8 v9 n v11 v12 v13 v14 v15 v16 v17 v18 v19 v20 v21 v22 v23 W' := by
  have hs : 1 < l.size := by rw [h.size]; decide
  have e18 : (l.setIfInBounds 1 true).getD 18 false = l.getD 18 false := gs_ne (by decide)
  have e19 : (l.setIfInBounds 1 true).getD 19 false = l.getD 19 false := gs_ne (by decide)
  refine ⟨by rw [Array.size_setIfInBounds]; exact h.size, h.below.trans (hb.mono h.below.size), h.base, ?q18, ?q19, fun e => e18.symm ▸ (h.p6 (by rw [gs_ne (by decide)] at e; exact e)).up hb, fun g e => (h.p7 (by rw [e19] at g; exact g) (by rw [gs_ne (by decide)] at e; exact e)).up hb, fun g e => (h.p8 (by rw [e19] at g; exact g) (by rw [gs_ne (by decide)] at e; exact e)).up hb, fun g e => h.p9 (by rw [e18] at g; exact g) (by rw [gs_ne (by decide)] at e; exact e), fun g e => hn, fun g e => h.p11 (by rw [e18] at g; exact g) (by rw [gs_ne (by decide)] at e; exact e), fun g e => h.p12 (by rw [e18] at g; exact g) (by rw [gs_ne (by decide)] at e; exact e), fun g e => h.p13 (by rw [e18] at g; exact g) (by rw [gs_ne (by decide)] at e; exact e), fun g e => (h.p14 (by rw [e18] at g; exact g) (by rw [gs_ne (by decide)] at e; exact e)).up hb, fun g e => (h.p15 (by rw [e18] at g; exact g) (by rw [gs_ne (by decide)] at e; exact e)).up hb, fun g e => (h.p16 (by rw [e18] at g; exact g) (by rw [gs_ne (by decide)] at e; exact e)).up hb, fun g e => (h.p17 (by rw [e18] at g; exact g) (by rw [gs_ne (by decide)] at e; exact e)).up hb, fun g e => (h.p18 (by rw [e18] at g; exact g) (by rw [gs_ne (by decide)] at e; exact e)).up hb, fun g e => (h.p19 (by rw [e18] at g; exact g) (by rw [gs_ne (by decide)] at e; exact e)).up hb, fun g e => (h.p20 (by rw [e18] at g; exact g) (by rw [gs_ne (by decide)] at e; exact e)).up hb, fun g e => (h.p21 (by rw [e18] at g; exact g) (by rw [gs_ne (by decide)] at e; exact e)).up hb, fun g e => (h.p22 (by rw [e18] at g; exact g) (by rw [gs_ne (by decide)] at e; exact e)).up hb, fun e => h.p23 (by rw [gs_ne (by decide)] at e; exact e)⟩
  case q18 => 
    intro e j hj hj5
    rw [e18] at e
    have := h.q18 e j hj hj5
    by_cases hij : 1 = j
    · subst hij; exact gs_eq hs
    · rw [gs_ne hij]; exact this
  case q19 => 
    intro e
    rw [e19] at e
    obtain ⟨g1, g2⟩ := h.q19 e
    refine ⟨by rw [e18]; exact g1, ?_⟩
    by_cases hij : 1 = 15
    · exact absurd hij (by decide)
    · rw [gs_ne hij]; exact g2
theorem I19.t2 {b : Nat} {w0 : World} {fb : ByteArray} {x y : Int} {ok : Bool} {s : List UInt8} {how : Int} {l : Array Bool} {v6 v7 v8 v9 v10 v11 v12 v13 v14 v15 v16 v17 v18 v19 v20 v21 v22 v23 : Value} {W : World} {n : Value} {W' : World} (h : I19 b w0 fb x y ok s how l v6 v7 v8 v9 v10 v11 v12 v13 v14 v15 v16 v17 v18 v19 v20 v21 v22 v23 W) (hu : l.getD 2 true = false) (hb : Below W.heap.size W W') (hn : n = nvV x) : I19 b w0 fb x y ok s how (l.setIfInBounds 2 true) v6 v7 v8 v9 v10 n v12 v13 v14 v15 v16 v17 v18 v19 v20 v21 v22 v23 W' := by
  have hs : 2 < l.size := by rw [h.size]; decide
  have e18 : (l.setIfInBounds 2 true).getD 18 false = l.getD 18 false := gs_ne (by decide)
  have e19 : (l.setIfInBounds 2 true).getD 19 false = l.getD 19 false := gs_ne (by decide)
  refine ⟨by rw [Array.size_setIfInBounds]; exact h.size, h.below.trans (hb.mono h.below.size), h.base, ?q18, ?q19, fun e => e18.symm ▸ (h.p6 (by rw [gs_ne (by decide)] at e; exact e)).up hb, fun g e => (h.p7 (by rw [e19] at g; exact g) (by rw [gs_ne (by decide)] at e; exact e)).up hb, fun g e => (h.p8 (by rw [e19] at g; exact g) (by rw [gs_ne (by decide)] at e; exact e)).up hb, fun g e => h.p9 (by rw [e18] at g; exact g) (by rw [gs_ne (by decide)] at e; exact e), fun g e => h.p10 (by rw [e18] at g; exact g) (by rw [gs_ne (by decide)] at e; exact e), fun g e => hn, fun g e => h.p12 (by rw [e18] at g; exact g) (by rw [gs_ne (by decide)] at e; exact e), fun g e => h.p13 (by rw [e18] at g; exact g) (by rw [gs_ne (by decide)] at e; exact e), fun g e => (h.p14 (by rw [e18] at g; exact g) (by rw [gs_ne (by decide)] at e; exact e)).up hb, fun g e => (h.p15 (by rw [e18] at g; exact g) (by rw [gs_ne (by decide)] at e; exact e)).up hb, fun g e => (h.p16 (by rw [e18] at g; exact g) (by rw [gs_ne (by decide)] at e; exact e)).up hb, fun g e => (h.p17 (by rw [e18] at g; exact g) (by rw [gs_ne (by decide)] at e; exact e)).up hb, fun g e => (h.p18 (by rw [e18] at g; exact g) (by rw [gs_ne (by decide)] at e; exact e)).up hb, fun g e => (h.p19 (by rw [e18] at g; exact g) (by rw [gs_ne (by decide)] at e; exact e)).up hb, fun g e => (h.p20 (by rw [e18] at g; exact g) (by rw [gs_ne (by decide)] at e; exact e)).up hb, fun g e => (h.p21 (by rw [e18] at g; exact g) (by rw [gs_ne (by decide)] at e; exact e)).up hb, fun g e => (h.p22 (by rw [e18] at g; exact g) (by rw [gs_ne (by decide)] at e; exact e)).up hb, fun e => h.p23 (by rw [gs_ne (by decide)] at e; exact e)⟩
  case q18 => 
    intro e j hj hj5
    rw [e18] at e
    have := h.q18 e j hj hj5
    by_cases hij : 2 = j
    · subst hij; exact gs_eq hs
    · rw [gs_ne hij]; exact this
  case q19 => 
    intro e
    rw [e19] at e
    obtain ⟨g1, g2⟩ := h.q19 e
    refine ⟨by rw [e18]; exact g1, ?_⟩
    by_cases hij : 2 = 15
    · exact absurd hij (by decide)
    · rw [gs_ne hij]; exact g2
theorem I19.t3 {b : Nat} {w0 : World} {fb : ByteArray} {x y : Int} {ok : Bool} {s : List UInt8} {how : Int} {l : Array Bool} {v6 v7 v8 v9 v10 v11 v12 v13 v14 v15 v16 v17 v18 v19 v20 v21 v22 v23 : Value} {W : World} {n : Value} {W' : World} (h : I19 b w0 fb x y ok s how l v6 v7 v8 v9 v10 v11 v12 v13 v14 v15 v16 v17 v18 v19 v20 v21 v22 v23 W) (hu : l.getD 3 true = false) (hb : Below W.heap.size W W') (hn : n = .int .i64 y) : I19 b w0 fb x y ok s how (l.setIfInBounds 3 true) v6 v7 v8 v9 v10 v11 n v13 v14 v15 v16 v17 v18 v19 v20 v21 v22 v23 W' := by
  have hs : 3 < l.size := by rw [h.size]; decide
  have e18 : (l.setIfInBounds 3 true).getD 18 false = l.getD 18 false := gs_ne (by decide)
  have e19 : (l.setIfInBounds 3 true).getD 19 false = l.getD 19 false := gs_ne (by decide)
  refine ⟨by rw [Array.size_setIfInBounds]; exact h.size, h.below.trans (hb.mono h.below.size), h.base, ?q18, ?q19, fun e => e18.symm ▸ (h.p6 (by rw [gs_ne (by decide)] at e; exact e)).up hb, fun g e => (h.p7 (by rw [e19] at g; exact g) (by rw [gs_ne (by decide)] at e; exact e)).up hb, fun g e => (h.p8 (by rw [e19] at g; exact g) (by rw [gs_ne (by decide)] at e; exact e)).up hb, fun g e => h.p9 (by rw [e18] at g; exact g) (by rw [gs_ne (by decide)] at e; exact e), fun g e => h.p10 (by rw [e18] at g; exact g) (by rw [gs_ne (by decide)] at e; exact e), fun g e => h.p11 (by rw [e18] at g; exact g) (by rw [gs_ne (by decide)] at e; exact e), fun g e => hn, fun g e => h.p13 (by rw [e18] at g; exact g) (by rw [gs_ne (by decide)] at e; exact e), fun g e => (h.p14 (by rw [e18] at g; exact g) (by rw [gs_ne (by decide)] at e; exact e)).up hb, fun g e => (h.p15 (by rw [e18] at g; exact g) (by rw [gs_ne (by decide)] at e; exact e)).up hb, fun g e => (h.p16 (by rw [e18] at g; exact g) (by rw [gs_ne (by decide)] at e; exact e)).up hb, fun g e => (h.p17 (by rw [e18] at g; exact g) (by rw [gs_ne (by decide)] at e; exact e)).up hb, fun g e => (h.p18 (by rw [e18] at g; exact g) (by rw [gs_ne (by decide)] at e; exact e)).up hb, fun g e => (h.p19 (by rw [e18] at g; exact g) (by rw [gs_ne (by decide)] at e; exact e)).up hb, fun g e => (h.p20 (by rw [e18] at g; exact g) (by rw [gs_ne (by decide)] at e; exact e)).up hb, fun g e => (h.p21 (by rw [e18] at g; exact g) (by rw [gs_ne (by decide)] at e; exact e)).up hb, fun g e => (h.p22 (by rw [e18] at g; exact g) (by rw [gs_ne (by decide)] at e; exact e)).up hb, fun e => h.p23 (by rw [gs_ne (by decide)] at e; exact e)⟩
  case q18 => 
    intro e j hj hj5
    rw [e18] at e
    have := h.q18 e j hj hj5
    by_cases hij : 3 = j
    · subst hij; exact gs_eq hs
    · rw [gs_ne hij]; exact this
  case q19 => 
    intro e
    rw [e19] at e
    obtain ⟨g1, g2⟩ := h.q19 e
    refine ⟨by rw [e18]; exact g1, ?_⟩
    by_cases hij : 3 = 15
    · exact absurd hij (by decide)
    · rw [gs_ne hij]; exact g2
theorem I19.t4 {b : Nat} {w0 : World} {fb : ByteArray} {x y : Int} {ok : Bool} {s : List UInt8} {how : Int} {l : Array Bool} {v6 v7 v8 v9 v10 v11 v12 v13 v14 v15 v16 v17 v18 v19 v20 v21 v22 v23 : Value} {W : World} {n : Value} {W' : World} (h : I19 b w0 fb x y ok s how l v6 v7 v8 v9 v10 v11 v12 v13 v14 v15 v16 v17 v18 v19 v20 v21 v22 v23 W) (hu : l.getD 4 true = false) (hb : Below W.heap.size W W') (hn : n = nvV y) : I19 b w0 fb x y ok s how (l.setIfInBounds 4 true) v6 v7 v8 v9 v10 v11 v12 n v14 v15 v16 v17 v18 v19 v20 v21 v22 v23 W' := by
  have hs : 4 < l.size := by rw [h.size]; decide
  have e18 : (l.setIfInBounds 4 true).getD 18 false = l.getD 18 false := gs_ne (by decide)
  have e19 : (l.setIfInBounds 4 true).getD 19 false = l.getD 19 false := gs_ne (by decide)
  refine ⟨by rw [Array.size_setIfInBounds]; exact h.size, h.below.trans (hb.mono h.below.size), h.base, ?q18, ?q19, fun e => e18.symm ▸ (h.p6 (by rw [gs_ne (by decide)] at e; exact e)).up hb, fun g e => (h.p7 (by rw [e19] at g; exact g) (by rw [gs_ne (by decide)] at e; exact e)).up hb, fun g e => (h.p8 (by rw [e19] at g; exact g) (by rw [gs_ne (by decide)] at e; exact e)).up hb, fun g e => h.p9 (by rw [e18] at g; exact g) (by rw [gs_ne (by decide)] at e; exact e), fun g e => h.p10 (by rw [e18] at g; exact g) (by rw [gs_ne (by decide)] at e; exact e), fun g e => h.p11 (by rw [e18] at g; exact g) (by rw [gs_ne (by decide)] at e; exact e), fun g e => h.p12 (by rw [e18] at g; exact g) (by rw [gs_ne (by decide)] at e; exact e), fun g e => hn, fun g e => (h.p14 (by rw [e18] at g; exact g) (by rw [gs_ne (by decide)] at e; exact e)).up hb, fun g e => (h.p15 (by rw [e18] at g; exact g) (by rw [gs_ne (by decide)] at e; exact e)).up hb, fun g e => (h.p16 (by rw [e18] at g; exact g) (by rw [gs_ne (by decide)] at e; exact e)).up hb, fun g e => (h.p17 (by rw [e18] at g; exact g) (by rw [gs_ne (by decide)] at e; exact e)).up hb, fun g e => (h.p18 (by rw [e18] at g; exact g) (by rw [gs_ne (by decide)] at e; exact e)).up hb, fun g e => (h.p19 (by rw [e18] at g; exact g) (by rw [gs_ne (by decide)] at e; exact e)).up hb, fun g e => (h.p20 (by rw [e18] at g; exact g) (by rw [gs_ne (by decide)] at e; exact e)).up hb, fun g e => (h.p21 (by rw [e18] at g; exact g) (by rw [gs_ne (by decide)] at e; exact e)).up hb, fun g e => (h.p22 (by rw [e18] at g; exact g) (by rw [gs_ne (by decide)] at e; exact e)).up hb, fun e => h.p23 (by rw [gs_ne (by decide)] at e; exact e)⟩
  case q18 => 
    intro e j hj hj5
    rw [e18] at e
    have := h.q18 e j hj hj5
    by_cases hij : 4 = j
    · subst hij; exact gs_eq hs
    · rw [gs_ne hij]; exact this
  case q19 => 
    intro e
    rw [e19] at e
    obtain ⟨g1, g2⟩ := h.q19 e
    refine ⟨by rw [e18]; exact g1, ?_⟩
    by_cases hij : 4 = 15
    · exact absurd hij (by decide)
    · rw [gs_ne hij]; exact g2
theorem I19.t5 {b : Nat} {w0 : World} {fb : ByteArray} {x y : Int} {ok : Bool} {s : List UInt8} {how : Int} {l : Array Bool} {v6 v7 v8 v9 v10 v11 v12 v13 v14 v15 v16 v17 v18 v19 v20 v21 v22 v23 : Value} {W : World} {n : Value} {W' : World} (h : I19 b w0 fb x y ok s how l v6 v7 v8 v9 v10 v11 v12 v13 v14 v15 v16 v17 v18 v19 v20 v21 v22 v23 W) (hu : l.getD 5 true = false) (hb : Below W.heap.size W W') (hn : D14 x y n W') : I19 b w0 fb x y ok s how (l.setIfInBounds 5 true) v6 v7 v8 v9 v10 v11 v12 v13 n v15 v16 v17 v18 v19 v20 v21 v22 v23 W' := by
  have hs : 5 < l.size := by rw [h.size]; decide
  have e18 : (l.setIfInBounds 5 true).getD 18 false = l.getD 18 false := gs_ne (by decide)
  have e19 : (l.setIfInBounds 5 true).getD 19 false = l.getD 19 false := gs_ne (by decide)
  refine ⟨by rw [Array.size_setIfInBounds]; exact h.size, h.below.trans (hb.mono h.below.size), h.base, ?q18, ?q19, fun e => e18.symm ▸ (h.p6 (by rw [gs_ne (by decide)] at e; exact e)).up hb, fun g e => (h.p7 (by rw [e19] at g; exact g) (by rw [gs_ne (by decide)] at e; exact e)).up hb, fun g e => (h.p8 (by rw [e19] at g; exact g) (by rw [gs_ne (by decide)] at e; exact e)).up hb, fun g e => h.p9 (by rw [e18] at g; exact g) (by rw [gs_ne (by decide)] at e; exact e), fun g e => h.p10 (by rw [e18] at g; exact g) (by rw [gs_ne (by decide)] at e; exact e), fun g e => h.p11 (by rw [e18] at g; exact g) (by rw [gs_ne (by decide)] at e; exact e), fun g e => h.p12 (by rw [e18] at g; exact g) (by rw [gs_ne (by decide)] at e; exact e), fun g e => h.p13 (by rw [e18] at g; exact g) (by rw [gs_ne (by decide)] at e; exact e), fun g e => hn, fun g e => (h.p15 (by rw [e18] at g; exact g) (by rw [gs_ne (by decide)] at e; exact e)).up hb, fun g e => (h.p16 (by rw [e18] at g; exact g) (by rw [gs_ne (by decide)] at e; exact e)).up hb, fun g e => (h.p17 (by rw [e18] at g; exact g) (by rw [gs_ne (by decide)] at e; exact e)).up hb, fun g e => (h.p18 (by rw [e18] at g; exact g) (by rw [gs_ne (by decide)] at e; exact e)).up hb, fun g e => (h.p19 (by rw [e18] at g; exact g) (by rw [gs_ne (by decide)] at e; exact e)).up hb, fun g e => (h.p20 (by rw [e18] at g; exact g) (by rw [gs_ne (by decide)] at e; exact e)).up hb, fun g e => (h.p21 (by rw [e18] at g; exact g) (by rw [gs_ne (by decide)] at e; exact e)).up hb, fun g e => (h.p22 (by rw [e18] at g; exact g) (by rw [gs_ne (by decide)] at e; exact e)).up hb, fun e => h.p23 (by rw [gs_ne (by decide)] at e; exact e)⟩
  case q18 => 
    intro e j hj hj5
    rw [e18] at e
    have := h.q18 e j hj hj5
    by_cases hij : 5 = j
    · subst hij; exact gs_eq hs
    · rw [gs_ne hij]; exact this
  case q19 => 
    intro e
    rw [e19] at e
    obtain ⟨g1, g2⟩ := h.q19 e
    refine ⟨by rw [e18]; exact g1, ?_⟩
    by_cases hij : 5 = 15
    · exact absurd hij (by decide)
    · rw [gs_ne hij]; exact g2
theorem I19.t6 {b : Nat} {w0 : World} {fb : ByteArray} {x y : Int} {ok : Bool} {s : List UInt8} {how : Int} {l : Array Bool} {v6 v7 v8 v9 v10 v11 v12 v13 v14 v15 v16 v17 v18 v19 v20 v21 v22 v23 : Value} {W : World} {n : Value} {W' : World} (h : I19 b w0 fb x y ok s how l v6 v7 v8 v9 v10 v11 v12 v13 v14 v15 v16 v17 v18 v19 v20 v21 v22 v23 W) (hu : l.getD 6 true = false) (hb : Below W.heap.size W W') (hn : D15 fb x y n W') : I19 b w0 fb x y ok s how (l.setIfInBounds 6 true) v6 v7 v8 v9 v10 v11 v12 v13 v14 n v16 v17 v18 v19 v20 v21 v22 v23 W' := by
  have hs : 6 < l.size := by rw [h.size]; decide
  have e18 : (l.setIfInBounds 6 true).getD 18 false = l.getD 18 false := gs_ne (by decide)
  have e19 : (l.setIfInBounds 6 true).getD 19 false = l.getD 19 false := gs_ne (by decide)
  refine ⟨by rw [Array.size_setIfInBounds]; exact h.size, h.below.trans (hb.mono h.below.size), h.base, ?q18, ?q19, fun e => e18.symm ▸ (h.p6 (by rw [gs_ne (by decide)] at e; exact e)).up hb, fun g e => (h.p7 (by rw [e19] at g; exact g) (by rw [gs_ne (by decide)] at e; exact e)).up hb, fun g e => (h.p8 (by rw [e19] at g; exact g) (by rw [gs_ne (by decide)] at e; exact e)).up hb, fun g e => h.p9 (by rw [e18] at g; exact g) (by rw [gs_ne (by decide)] at e; exact e), fun g e => h.p10 (by rw [e18] at g; exact g) (by rw [gs_ne (by decide)] at e; exact e), fun g e => h.p11 (by rw [e18] at g; exact g) (by rw [gs_ne (by decide)] at e; exact e), fun g e => h.p12 (by rw [e18] at g; exact g) (by rw [gs_ne (by decide)] at e; exact e), fun g e => h.p13 (by rw [e18] at g; exact g) (by rw [gs_ne (by decide)] at e; exact e), fun g e => (h.p14 (by rw [e18] at g; exact g) (by rw [gs_ne (by decide)] at e; exact e)).up hb, fun g e => hn, fun g e => (h.p16 (by rw [e18] at g; exact g) (by rw [gs_ne (by decide)] at e; exact e)).up hb, fun g e => (h.p17 (by rw [e18] at g; exact g) (by rw [gs_ne (by decide)] at e; exact e)).up hb, fun g e => (h.p18 (by rw [e18] at g; exact g) (by rw [gs_ne (by decide)] at e; exact e)).up hb, fun g e => (h.p19 (by rw [e18] at g; exact g) (by rw [gs_ne (by decide)] at e; exact e)).up hb, fun g e => (h.p20 (by rw [e18] at g; exact g) (by rw [gs_ne (by decide)] at e; exact e)).up hb, fun g e => (h.p21 (by rw [e18] at g; exact g) (by rw [gs_ne (by decide)] at e; exact e)).up hb, fun g e => (h.p22 (by rw [e18] at g; exact g) (by rw [gs_ne (by decide)] at e; exact e)).up hb, fun e => h.p23 (by rw [gs_ne (by decide)] at e; exact e)⟩
  case q18 => 
    intro e j hj hj5
    rw [e18] at e
    have := h.q18 e j hj hj5
    by_cases hij : 6 = j
    · subst hij; exact gs_eq hs
    · rw [gs_ne hij]; exact this
  case q19 => 
    intro e
    rw [e19] at e
    obtain ⟨g1, g2⟩ := h.q19 e
    refine ⟨by rw [e18]; exact g1, ?_⟩
    by_cases hij : 6 = 15
    · exact absurd hij (by decide)
    · rw [gs_ne hij]; exact g2
theorem I19.t7 {b : Nat} {w0 : World} {fb : ByteArray} {x y : Int} {ok : Bool} {s : List UInt8} {how : Int} {l : Array Bool} {v6 v7 v8 v9 v10 v11 v12 v13 v14 v15 v16 v17 v18 v19 v20 v21 v22 v23 : Value} {W : World} {n : Value} {W' : World} (h : I19 b w0 fb x y ok s how l v6 v7 v8 v9 v10 v11 v12 v13 v14 v15 v16 v17 v18 v19 v20 v21 v22 v23 W) (hu : l.getD 7 true = false) (hb : Below W.heap.size W W') (hn : D16 fb x y n W') : I19 b w0 fb x y ok s how (l.setIfInBounds 7 true) v6 v7 v8 v9 v10 v11 v12 v13 v14 v15 n v17 v18 v19 v20 v21 v22 v23 W' := by
  have hs : 7 < l.size := by rw [h.size]; decide
  have e18 : (l.setIfInBounds 7 true).getD 18 false = l.getD 18 false := gs_ne (by decide)
  have e19 : (l.setIfInBounds 7 true).getD 19 false = l.getD 19 false := gs_ne (by decide)
  refine ⟨by rw [Array.size_setIfInBounds]; exact h.size, h.below.trans (hb.mono h.below.size), h.base, ?q18, ?q19, fun e => e18.symm ▸ (h.p6 (by rw [gs_ne (by decide)] at e; exact e)).up hb, fun g e => (h.p7 (by rw [e19] at g; exact g) (by rw [gs_ne (by decide)] at e; exact e)).up hb, fun g e => (h.p8 (by rw [e19] at g; exact g) (by rw [gs_ne (by decide)] at e; exact e)).up hb, fun g e => h.p9 (by rw [e18] at g; exact g) (by rw [gs_ne (by decide)] at e; exact e), fun g e => h.p10 (by rw [e18] at g; exact g) (by rw [gs_ne (by decide)] at e; exact e), fun g e => h.p11 (by rw [e18] at g; exact g) (by rw [gs_ne (by decide)] at e; exact e), fun g e => h.p12 (by rw [e18] at g; exact g) (by rw [gs_ne (by decide)] at e; exact e), fun g e => h.p13 (by rw [e18] at g; exact g) (by rw [gs_ne (by decide)] at e; exact e), fun g e => (h.p14 (by rw [e18] at g; exact g) (by rw [gs_ne (by decide)] at e; exact e)).up hb, fun g e => (h.p15 (by rw [e18] at g; exact g) (by rw [gs_ne (by decide)] at e; exact e)).up hb, fun g e => hn, fun g e => (h.p17 (by rw [e18] at g; exact g) (by rw [gs_ne (by decide)] at e; exact e)).up hb, fun g e => (h.p18 (by rw [e18] at g; exact g) (by rw [gs_ne (by decide)] at e; exact e)).up hb, fun g e => (h.p19 (by rw [e18] at g; exact g) (by rw [gs_ne (by decide)] at e; exact e)).up hb, fun g e => (h.p20 (by rw [e18] at g; exact g) (by rw [gs_ne (by decide)] at e; exact e)).up hb, fun g e => (h.p21 (by rw [e18] at g; exact g) (by rw [gs_ne (by decide)] at e; exact e)).up hb, fun g e => (h.p22 (by rw [e18] at g; exact g) (by rw [gs_ne (by decide)] at e; exact e)).up hb, fun e => h.p23 (by rw [gs_ne (by decide)] at e; exact e)⟩
  case q18 => 
    intro e j hj hj5
    rw [e18] at e
    have := h.q18 e j hj hj5
    by_cases hij : 7 = j
    · subst hij; exact gs_eq hs
    · rw [gs_ne hij]; exact this
  case q19 => 
    intro e
    rw [e19] at e
    obtain ⟨g1, g2⟩ := h.q19 e
    refine ⟨by rw [e18]; exact g1, ?_⟩
    by_cases hij : 7 = 15
    · exact absurd hij (by decide)
    · rw [gs_ne hij]; exact g2
theorem I19.t8 {b : Nat} {w0 : World} {fb : ByteArray} {x y : Int} {ok : Bool} {s : List UInt8} {how : Int} {l : Array Bool} {v6 v7 v8 v9 v10 v11 v12 v13 v14 v15 v16 v17 v18 v19 v20 v21 v22 v23 : Value} {W : World} {n : Value} {W' : World} (h : I19 b w0 fb x y ok s how l v6 v7 v8 v9 v10 v11 v12 v13 v14 v15 v16 v17 v18 v19 v20 v21 v22 v23 W) (hu : l.getD 8 true = false) (hb : Below W.heap.size W W') (hn : D17 fb x y n W') : I19 b w0 fb x y ok s how (l.setIfInBounds 8 true) v6 v7 v8 v9 v10 v11 v12 v13 v14 v15 v16 n v18 v19 v20 v21 v22 v23 W' := by
  have hs : 8 < l.size := by rw [h.size]; decide
  have e18 : (l.setIfInBounds 8 true).getD 18 false = l.getD 18 false := gs_ne (by decide)
  have e19 : (l.setIfInBounds 8 true).getD 19 false = l.getD 19 false := gs_ne (by decide)
  refine ⟨by rw [Array.size_setIfInBounds]; exact h.size, h.below.trans (hb.mono h.below.size), h.base, ?q18, ?q19, fun e => e18.symm ▸ (h.p6 (by rw [gs_ne (by decide)] at e; exact e)).up hb, fun g e => (h.p7 (by rw [e19] at g; exact g) (by rw [gs_ne (by decide)] at e; exact e)).up hb, fun g e => (h.p8 (by rw [e19] at g; exact g) (by rw [gs_ne (by decide)] at e; exact e)).up hb, fun g e => h.p9 (by rw [e18] at g; exact g) (by rw [gs_ne (by decide)] at e; exact e), fun g e => h.p10 (by rw [e18] at g; exact g) (by rw [gs_ne (by decide)] at e; exact e), fun g e => h.p11 (by rw [e18] at g; exact g) (by rw [gs_ne (by decide)] at e; exact e), fun g e => h.p12 (by rw [e18] at g; exact g) (by rw [gs_ne (by decide)] at e; exact e), fun g e => h.p13 (by rw [e18] at g; exact g) (by rw [gs_ne (by decide)] at e; exact e), fun g e => (h.p14 (by rw [e18] at g; exact g) (by rw [gs_ne (by decide)] at e; exact e)).up hb, fun g e => (h.p15 (by rw [e18] at g; exact g) (by rw [gs_ne (by decide)] at e; exact e)).up hb, fun g e => (h.p16 (by rw [e18] at g; exact g) (by rw [gs_ne (by decide)] at e; exact e)).up hb, fun g e => hn, fun g e => (h.p18 (by rw [e18] at g; exact g) (by rw [gs_ne (by decide)] at e; exact e)).up hb, fun g e => (h.p19 (by rw [e18] at g; exact g) (by rw [gs_ne (by decide)] at e; exact e)).up hb, fun g e => (h.p20 (by rw [e18] at g; exact g) (by rw [gs_ne (by decide)] at e; exact e)).up hb, fun g e => (h.p21 (by rw [e18] at g; exact g) (by rw [gs_ne (by decide)] at e; exact e)).up hb, fun g e => (h.p22 (by rw [e18] at g; exact g) (by rw [gs_ne (by decide)] at e; exact e)).up hb, fun e => h.p23 (by rw [gs_ne (by decide)] at e; exact e)⟩
  case q18 => 
    intro e j hj hj5
    rw [e18] at e
    have := h.q18 e j hj hj5
    by_cases hij : 8 = j
    · subst hij; exact gs_eq hs
    · rw [gs_ne hij]; exact this
  case q19 => 
    intro e
    rw [e19] at e
    obtain ⟨g1, g2⟩ := h.q19 e
    refine ⟨by rw [e18]; exact g1, ?_⟩
    by_cases hij : 8 = 15
    · exact absurd hij (by decide)
    · rw [gs_ne hij]; exact g2
theorem I19.t9 {b : Nat} {w0 : World} {fb : ByteArray} {x y : Int} {ok : Bool} {s : List UInt8} {how : Int} {l : Array Bool} {v6 v7 v8 v9 v10 v11 v12 v13 v14 v15 v16 v17 v18 v19 v20 v21 v22 v23 : Value} {W : World} {n : Value} {W' : World} (h : I19 b w0 fb x y ok s how l v6 v7 v8 v9 v10 v11 v12 v13 v14 v15 v16 v17 v18 v19 v20 v21 v22 v23 W) (hu : l.getD 9 true = false) (hb : Below W.heap.size W W') (hn : D18 fb x y n W') : I19 b w0 fb x y ok s how (l.setIfInBounds 9 true) v6 v7 v8 v9 v10 v11 v12 v13 v14 v15 v16 v17 n v19 v20 v21 v22 v23 W' := by
  have hs : 9 < l.size := by rw [h.size]; decide
  have e18 : (l.setIfInBounds 9 true).getD 18 false = l.getD 18 false := gs_ne (by decide)
  have e19 : (l.setIfInBounds 9 true).getD 19 false = l.getD 19 false := gs_ne (by decide)
  refine ⟨by rw [Array.size_setIfInBounds]; exact h.size, h.below.trans (hb.mono h.below.size), h.base, ?q18, ?q19, fun e => e18.symm ▸ (h.p6 (by rw [gs_ne (by decide)] at e; exact e)).up hb, fun g e => (h.p7 (by rw [e19] at g; exact g) (by rw [gs_ne (by decide)] at e; exact e)).up hb, fun g e => (h.p8 (by rw [e19] at g; exact g) (by rw [gs_ne (by decide)] at e; exact e)).up hb, fun g e => h.p9 (by rw [e18] at g; exact g) (by rw [gs_ne (by decide)] at e; exact e), fun g e => h.p10 (by rw [e18] at g; exact g) (by rw [gs_ne (by decide)] at e; exact e), fun g e => h.p11 (by rw [e18] at g; exact g) (by rw [gs_ne (by decide)] at e; exact e), fun g e => h.p12 (by rw [e18] at g; exact g) (by rw [gs_ne (by decide)] at e; exact e), fun g e => h.p13 (by rw [e18] at g; exact g) (by rw [gs_ne (by decide)] at e; exact e), fun g e => (h.p14 (by rw [e18] at g; exact g) (by rw [gs_ne (by decide)] at e; exact e)).up hb, fun g e => (h.p15 (by rw [e18] at g; exact g) (by rw [gs_ne (by decide)] at e; exact e)).up hb, fun g e => (h.p16 (by rw [e18] at g; exact g) (by rw [gs_ne (by decide)] at e; exact e)).up hb, fun g e => (h.p17 (by rw [e18] at g; exact g) (by rw [gs_ne (by decide)] at e; exact e)).up hb, fun g e => hn, fun g e => (h.p19 (by rw [e18] at g; exact g) (by rw [gs_ne (by decide)] at e; exact e)).up hb, fun g e => (h.p20 (by rw [e18] at g; exact g) (by rw [gs_ne (by decide)] at e; exact e)).up hb, fun g e => (h.p21 (by rw [e18] at g; exact g) (by rw [gs_ne (by decide)] at e; exact e)).up hb, fun g e => (h.p22 (by rw [e18] at g; exact g) (by rw [gs_ne (by decide)] at e; exact e)).up hb, fun e => h.p23 (by rw [gs_ne (by decide)] at e; exact e)⟩
  case q18 => 
    intro e j hj hj5
    rw [e18] at e
    have := h.q18 e j hj hj5
    by_cases hij : 9 = j
    · subst hij; exact gs_eq hs
    · rw [gs_ne hij]; exact this
  case q19 => 
    intro e
    rw [e19] at e
    obtain ⟨g1, g2⟩ := h.q19 e
    refine ⟨by rw [e18]; exact g1, ?_⟩
    by_cases hij : 9 = 15
    · exact absurd hij (by decide)
    · rw [gs_ne hij]; exact g2
theorem I19.t10 {b : Nat} {w0 : World} {fb : ByteArray} {x y : Int} {ok : Bool} {s : List UInt8} {how : Int} {l : Array Bool} {v6 v7 v8 v9 v10 v11 v12 v13 v14 v15 v16 v17 v18 v19 v20 v21 v22 v23 : Value} {W : World} {n : Value} {W' : World} (h : I19 b w0 fb x y ok s how l v6 v7 v8 v9 v10 v11 v12 v13 v14 v15 v16 v17 v18 v19 v20 v21 v22 v23 W) (hu : l.getD 10 true = false) (hb : Below W.heap.size W W') (hn : D19 fb x y n W') : I19 b w0 fb x y ok s how (l.setIfInBounds 10 true) v6 v7 v8 v9 v10 v11 v12 v13 v14 v15 v16 v17 v18 n v20 v21 v22 v23 W' := by
  have hs : 10 < l.size := by rw [h.size]; decide
  have e18 : (l.setIfInBounds 10 true).getD 18 false = l.getD 18 false := gs_ne (by decide)
  have e19 : (l.setIfInBounds 10 true).getD 19 false = l.getD 19 false := gs_ne (by decide)
  refine ⟨by rw [Array.size_setIfInBounds]; exact h.size, h.below.trans (hb.mono h.below.size), h.base, ?q18, ?q19, fun e => e18.symm ▸ (h.p6 (by rw [gs_ne (by decide)] at e; exact e)).up hb, fun g e => (h.p7 (by rw [e19] at g; exact g) (by rw [gs_ne (by decide)] at e; exact e)).up hb, fun g e => (h.p8 (by rw [e19] at g; exact g) (by rw [gs_ne (by decide)] at e; exact e)).up hb, fun g e => h.p9 (by rw [e18] at g; exact g) (by rw [gs_ne (by decide)] at e; exact e), fun g e => h.p10 (by rw [e18] at g; exact g) (by rw [gs_ne (by decide)] at e; exact e), fun g e => h.p11 (by rw [e18] at g; exact g) (by rw [gs_ne (by decide)] at e; exact e), fun g e => h.p12 (by rw [e18] at g; exact g) (by rw [gs_ne (by decide)] at e; exact e), fun g e => h.p13 (by rw [e18] at g; exact g) (by rw [gs_ne (by decide)] at e; exact e), fun g e => (h.p14 (by rw [e18] at g; exact g) (by rw [gs_ne (by decide)] at e; exact e)).up hb, fun g e => (h.p15 (by rw [e18] at g; exact g) (by rw [gs_ne (by decide)] at e; exact e)).up hb, fun g e => (h.p16 (by rw [e18] at g; exact g) (by rw [gs_ne (by decide)] at e; exact e)).up hb, fun g e => (h.p17 (by rw [e18] at g; exact g) (by rw [gs_ne (by decide)] at e; exact e)).up hb, fun g e => (h.p18 (by rw [e18] at g; exact g) (by rw [gs_ne (by decide)] at e; exact e)).up hb, fun g e => hn, fun g e => (h.p20 (by rw [e18] at g; exact g) (by rw [gs_ne (by decide)] at e; exact e)).up hb, fun g e => (h.p21 (by rw [e18] at g; exact g) (by rw [gs_ne (by decide)] at e; exact e)).up hb, fun g e => (h.p22 (by rw [e18] at g; exact g) (by rw [gs_ne (by decide)] at e; exact e)).up hb, fun e => h.p23 (by rw [gs_ne (by decide)] at e; exact e)⟩
  case q18 => 
    intro e j hj hj5
    rw [e18] at e
    have := h.q18 e j hj hj5
    by_cases hij : 10 = j
    · subst hij; exact gs_eq hs
    · rw [gs_ne hij]; exact this
  case q19 => 
    intro e
    rw [e19] at e
    obtain ⟨g1, g2⟩ := h.q19 e
    refine ⟨by rw [e18]; exact g1, ?_⟩
    by_cases hij : 10 = 15
    · exact absurd hij (by decide)
    · rw [gs_ne hij]; exact g2
theorem I19.t11 {b : Nat} {w0 : World} {fb : ByteArray} {x y : Int} {ok : Bool} {s : List UInt8} {how : Int} {l : Array Bool} {v6 v7 v8 v9 v10 v11 v12 v13 v14 v15 v16 v17 v18 v19 v20 v21 v22 v23 : Value} {W : World} {n : Value} {W' : World} (h : I19 b w0 fb x y ok s how l v6 v7 v8 v9 v10 v11 v12 v13 v14 v15 v16 v17 v18 v19 v20 v21 v22 v23 W) (hu : l.getD 11 true = false) (hb : Below W.heap.size W W') (hn : D20 fb x y n W') : I19 b w0 fb x y ok s how (l.setIfInBounds 11 true) v6 v7 v8 v9 v10 v11 v12 v13 v14 v15 v16 v17 v18 v19 n v21 v22 v23 W' := by
  have hs : 11 < l.size := by rw [h.size]; decide
  have e18 : (l.setIfInBounds 11 true).getD 18 false = l.getD 18 false := gs_ne (by decide)
  have e19 : (l.setIfInBounds 11 true).getD 19 false = l.getD 19 false := gs_ne (by decide)
  refine ⟨by rw [Array.size_setIfInBounds]; exact h.size, h.below.trans (hb.mono h.below.size), h.base, ?q18, ?q19, fun e => e18.symm ▸ (h.p6 (by rw [gs_ne (by decide)] at e; exact e)).up hb, fun g e => (h.p7 (by rw [e19] at g; exact g) (by rw [gs_ne (by decide)] at e; exact e)).up hb, fun g e => (h.p8 (by rw [e19] at g; exact g) (by rw [gs_ne (by decide)] at e; exact e)).up hb, fun g e => h.p9 (by rw [e18] at g; exact g) (by rw [gs_ne (by decide)] at e; exact e), fun g e => h.p10 (by rw [e18] at g; exact g) (by rw [gs_ne (by decide)] at e; exact e), fun g e => h.p11 (by rw [e18] at g; exact g) (by rw [gs_ne (by decide)] at e; exact e), fun g e => h.p12 (by rw [e18] at g; exact g) (by rw [gs_ne (by decide)] at e; exact e), fun g e => h.p13 (by rw [e18] at g; exact g) (by rw [gs_ne (by decide)] at e; exact e), fun g e => (h.p14 (by rw [e18] at g; exact g) (by rw [gs_ne (by decide)] at e; exact e)).up hb, fun g e => (h.p15 (by rw [e18] at g; exact g) (by rw [gs_ne (by decide)] at e; exact e)).up hb, fun g e => (h.p16 (by rw [e18] at g; exact g) (by rw [gs_ne (by decide)] at e; exact e)).up hb, fun g e => (h.p17 (by rw [e18] at g; exact g) (by rw [gs_ne (by decide)] at e; exact e)).up hb, fun g e => (h.p18 (by rw [e18] at g; exact g) (by rw [gs_ne (by decide)] at e; exact e)).up hb, fun g e => (h.p19 (by rw [e18] at g; exact g) (by rw [gs_ne (by decide)] at e; exact e)).up hb, fun g e => hn, fun g e => (h.p21 (by rw [e18] at g; exact g) (by rw [gs_ne (by decide)] at e; exact e)).up hb, fun g e => (h.p22 (by rw [e18] at g; exact g) (by rw [gs_ne (by decide)] at e; exact e)).up hb, fun e => h.p23 (by rw [gs_ne (by decide)] at e; exact e)⟩
  case q18 => 
    intro e j hj hj5
    rw [e18] at e
    have := h.q18 e j hj hj5
    by_cases hij : 11 = j
    · subst hij; exact gs_eq hs
    · rw [gs_ne hij]; exact this
  case q19 => 
    intro e
    rw [e19] at e
    obtain ⟨g1, g2⟩ := h.q19 e
    refine ⟨by rw [e18]; exact g1, ?_⟩
    by_cases hij : 11 = 15
    · exact absurd hij (by decide)
    · rw [gs_ne hij]; exact g2
theorem I19.t12 {b : Nat} {w0 : World} {fb : ByteArray} {x y : Int} {ok : Bool} {s : List UInt8} {how : Int} {l : Array Bool} {v6 v7 v8 v9 v10 v11 v12 v13 v14 v15 v16 v17 v18 v19 v20 v21 v22 v23 : Value} {W : World} {n : Value} {W' : World} (h : I19 b w0 fb x y ok s how l v6 v7 v8 v9 v10 v11 v12 v13 v14 v15 v16 v17 v18 v19 v20 v21 v22 v23 W) (hu : l.getD 12 true = false) (hb : Below W.heap.size W W') (hn : D21 ok s how n W') : I19 b w0 fb x y ok s how (l.setIfInBounds 12 true) v6 v7 v8 v9 v10 v11 v12 v13 v14 v15 v16 v17 v18 v19 v20 n v22 v23 W' := by
  have hs : 12 < l.size := by rw [h.size]; decide
  have e18 : (l.setIfInBounds 12 true).getD 18 false = l.getD 18 false := gs_ne (by decide)
  have e19 : (l.setIfInBounds 12 true).getD 19 false = l.getD 19 false := gs_ne (by decide)
  refine ⟨by rw [Array.size_setIfInBounds]; exact h.size, h.below.trans (hb.mono h.below.size), h.base, ?q18, ?q19, fun e => e18.symm ▸ (h.p6 (by rw [gs_ne (by decide)] at e; exact e)).up hb, fun g e => (h.p7 (by rw [e19] at g; exact g) (by rw [gs_ne (by decide)] at e; exact e)).up hb, fun g e => (h.p8 (by rw [e19] at g; exact g) (by rw [gs_ne (by decide)] at e; exact e)).up hb, fun g e => h.p9 (by rw [e18] at g; exact g) (by rw [gs_ne (by decide)] at e; exact e), fun g e => h.p10 (by rw [e18] at g; exact g) (by rw [gs_ne (by decide)] at e; exact e), fun g e => h.p11 (by rw [e18] at g; exact g) (by rw [gs_ne (by decide)] at e; exact e), fun g e => h.p12 (by rw [e18] at g; exact g) (by rw [gs_ne (by decide)] at e; exact e), fun g e => h.p13 (by rw [e18] at g; exact g) (by rw [gs_ne (by decide)] at e; exact e), fun g e => (h.p14 (by rw [e18] at g; exact g) (by rw [gs_ne (by decide)] at e; exact e)).up hb, fun g e => (h.p15 (by rw [e18] at g; exact g) (by rw [gs_ne (by decide)] at e; exact e)).up hb, fun g e => (h.p16 (by rw [e18] at g; exact g) (by rw [gs_ne (by decide)] at e; exact e)).up hb, fun g e => (h.p17 (by rw [e18] at g; exact g) (by rw [gs_ne (by decide)] at e; exact e)).up hb, fun g e => (h.p18 (by rw [e18] at g; exact g) (by rw [gs_ne (by decide)] at e; exact e)).up hb, fun g e => (h.p19 (by rw [e18] at g; exact g) (by rw [gs_ne (by decide)] at e; exact e)).up hb, fun g e => (h.p20 (by rw [e18] at g; exact g) (by rw [gs_ne (by decide)] at e; exact e)).up hb, fun g e => hn, fun g e => (h.p22 (by rw [e18] at g; exact g) (by rw [gs_ne (by decide)] at e; exact e)).up hb, fun e => h.p23 (by rw [gs_ne (by decide)] at e; exact e)⟩
  case q18 => 
    intro e j hj hj5
    rw [e18] at e
    have := h.q18 e j hj hj5
    by_cases hij : 12 = j
    · subst hij; exact gs_eq hs
    · rw [gs_ne hij]; exact this
  case q19 => 
    intro e
    rw [e19] at e
    obtain ⟨g1, g2⟩ := h.q19 e
    refine ⟨by rw [e18]; exact g1, ?_⟩
    by_cases hij : 12 = 15
    · exact absurd hij (by decide)
    · rw [gs_ne hij]; exact g2
theorem I19.t13 {b : Nat} {w0 : World} {fb : ByteArray} {x y : Int} {ok : Bool} {s : List UInt8} {how : Int} {l : Array Bool} {v6 v7 v8 v9 v10 v11 v12 v13 v14 v15 v16 v17 v18 v19 v20 v21 v22 v23 : Value} {W : World} {n : Value} {W' : World} (h : I19 b w0 fb x y ok s how l v6 v7 v8 v9 v10 v11 v12 v13 v14 v15 v16 v17 v18 v19 v20 v21 v22 v23 W) (hu : l.getD 13 true = false) (hb : Below W.heap.size W W') (hn : D21 ok s how n W') : I19 b w0 fb x y ok s how (l.setIfInBounds 13 true) v6 v7 n v9 v10 v11 v12 v13 v14 v15 v16 v17 v18 v19 v20 v21 v22 v23 W' := by
  have hs : 13 < l.size := by rw [h.size]; decide
  have e18 : (l.setIfInBounds 13 true).getD 18 false = l.getD 18 false := gs_ne (by decide)
  have e19 : (l.setIfInBounds 13 true).getD 19 false = l.getD 19 false := gs_ne (by decide)
  refine ⟨by rw [Array.size_setIfInBounds]; exact h.size, h.below.trans (hb.mono h.below.size), h.base, ?q18, ?q19, fun e => e18.symm ▸ (h.p6 (by rw [gs_ne (by decide)] at e; exact e)).up hb, fun g e => (h.p7 (by rw [e19] at g; exact g) (by rw [gs_ne (by decide)] at e; exact e)).up hb, fun g e => hn, fun g e => h.p9 (by rw [e18] at g; exact g) (by rw [gs_ne (by decide)] at e; exact e), fun g e => h.p10 (by rw [e18] at g; exact g) (by rw [gs_ne (by decide)] at e; exact e), fun g e => h.p11 (by rw [e18] at g; exact g) (by rw [gs_ne (by decide)] at e; exact e), fun g e => h.p12 (by rw [e18] at g; exact g) (by rw [gs_ne (by decide)] at e; exact e), fun g e => h.p13 (by rw [e18] at g; exact g) (by rw [gs_ne (by decide)] at e; exact e), fun g e => (h.p14 (by rw [e18] at g; exact g) (by rw [gs_ne (by decide)] at e; exact e)).up hb, fun g e => (h.p15 (by rw [e18] at g; exact g) (by rw [gs_ne (by decide)] at e; exact e)).up hb, fun g e => (h.p16 (by rw [e18] at g; exact g) (by rw [gs_ne (by decide)] at e; exact e)).up hb, fun g e => (h.p17 (by rw [e18] at g; exact g) (by rw [gs_ne (by decide)] at e; exact e)).up hb, fun g e => (h.p18 (by rw [e18] at g; exact g) (by rw [gs_ne (by decide)] at e; exact e)).up hb, fun g e => (h.p19 (by rw [e18] at g; exact g) (by rw [gs_ne (by decide)] at e; exact e)).up hb, fun g e => (h.p20 (by rw [e18] at g; exact g) (by rw [gs_ne (by decide)] at e; exact e)).up hb, fun g e => (h.p21 (by rw [e18] at g; exact g) (by rw [gs_ne (by decide)] at e; exact e)).up hb, fun g e => (h.p22 (by rw [e18] at g; exact g) (by rw [gs_ne (by decide)] at e; exact e)).up hb, fun e => h.p23 (by rw [gs_ne (by decide)] at e; exact e)⟩
  case q18 => 
    intro e j hj hj5
    rw [e18] at e
    have := h.q18 e j hj hj5
    by_cases hij : 13 = j
    · subst hij; exact gs_eq hs
    · rw [gs_ne hij]; exact this
  case q19 => 
    intro e
    rw [e19] at e
    obtain ⟨g1, g2⟩ := h.q19 e
    refine ⟨by rw [e18]; exact g1, ?_⟩
    by_cases hij : 13 = 15
    · exact absurd hij (by decide)
    · rw [gs_ne hij]; exact g2
theorem I19.t14 {b : Nat} {w0 : World} {fb : ByteArray} {x y : Int} {ok : Bool} {s : List UInt8} {how : Int} {l : Array Bool} {v6 v7 v8 v9 v10 v11 v12 v13 v14 v15 v16 v17 v18 v19 v20 v21 v22 v23 : Value} {W : World} {n : Value} {W' : World} (h : I19 b w0 fb x y ok s how l v6 v7 v8 v9 v10 v11 v12 v13 v14 v15 v16 v17 v18 v19 v20 v21 v22 v23 W) (hu : l.getD 14 true = false) (hb : Below W.heap.size W W') (hn : D22 ok s how n W') : I19 b w0 fb x y ok s how (l.setIfInBounds 14 true) v6 v7 v8 v9 v10 v11 v12 v13 v14 v15 v16 v17 v18 v19 v20 v21 n v23 W' := by
  have hs : 14 < l.size := by rw [h.size]; decide
  have e18 : (l.setIfInBounds 14 true).getD 18 false = l.getD 18 false := gs_ne (by decide)
  have e19 : (l.setIfInBounds 14 true).getD 19 false = l.getD 19 false := gs_ne (by decide)
  refine ⟨by rw [Array.size_setIfInBounds]; exact h.size, h.below.trans (hb.mono h.below.size), h.base, ?q18, ?q19, fun e => e18.symm ▸ (h.p6 (by rw [gs_ne (by decide)] at e; exact e)).up hb, fun g e => (h.p7 (by rw [e19] at g; exact g) (by rw [gs_ne (by decide)] at e; exact e)).up hb, fun g e => (h.p8 (by rw [e19] at g; exact g) (by rw [gs_ne (by decide)] at e; exact e)).up hb, fun g e => h.p9 (by rw [e18] at g; exact g) (by rw [gs_ne (by decide)] at e; exact e), fun g e => h.p10 (by rw [e18] at g; exact g) (by rw [gs_ne (by decide)] at e; exact e), fun g e => h.p11 (by rw [e18] at g; exact g) (by rw [gs_ne (by decide)] at e; exact e), fun g e => h.p12 (by rw [e18] at g; exact g) (by rw [gs_ne (by decide)] at e; exact e), fun g e => h.p13 (by rw [e18] at g; exact g) (by rw [gs_ne (by decide)] at e; exact e), fun g e => (h.p14 (by rw [e18] at g; exact g) (by rw [gs_ne (by decide)] at e; exact e)).up hb, fun g e => (h.p15 (by rw [e18] at g; exact g) (by rw [gs_ne (by decide)] at e; exact e)).up hb, fun g e => (h.p16 (by rw [e18] at g; exact g) (by rw [gs_ne (by decide)] at e; exact e)).up hb, fun g e => (h.p17 (by rw [e18] at g; exact g) (by rw [gs_ne (by decide)] at e; exact e)).up hb, fun g e => (h.p18 (by rw [e18] at g; exact g) (by rw [gs_ne (by decide)] at e; exact e)).up hb, fun g e => (h.p19 (by rw [e18] at g; exact g) (by rw [gs_ne (by decide)] at e; exact e)).up hb, fun g e => (h.p20 (by rw [e18] at g; exact g) (by rw [gs_ne (by decide)] at e; exact e)).up hb, fun g e => (h.p21 (by rw [e18] at g; exact g) (by rw [gs_ne (by decide)] at e; exact e)).up hb, fun g e => hn, fun e => h.p23 (by rw [gs_ne (by decide)] at e; exact e)⟩
  case q18 => 
    intro e j hj hj5
    rw [e18] at e
    have := h.q18 e j hj hj5
    by_cases hij : 14 = j
    · subst hij; exact gs_eq hs
    · rw [gs_ne hij]; exact this
  case q19 => 
    intro e
    rw [e19] at e
    obtain ⟨g1, g2⟩ := h.q19 e
    refine ⟨by rw [e18]; exact g1, ?_⟩
    by_cases hij : 14 = 15
    · exact absurd hij (by decide)
    · rw [gs_ne hij]; exact g2
theorem I19.t15 {b : Nat} {w0 : World} {fb : ByteArray} {x y : Int} {ok : Bool} {s : List UInt8} {how : Int} {l : Array Bool} {v6 v7 v8 v9 v10 v11 v12 v13 v14 v15 v16 v17 v18 v19 v20 v21 v22 v23 : Value} {W : World} {n : Value} {W' : World} (h : I19 b w0 fb x y ok s how l v6 v7 v8 v9 v10 v11 v12 v13 v14 v15 v16 v17 v18 v19 v20 v21 v22 v23 W) (hu : l.getD 15 true = false) (hb : Below W.heap.size W W') (hn : n = aggF) : I19 b w0 fb x y ok s how (l.setIfInBounds 15 true) v6 v7 v8 v9 v10 v11 v12 v13 v14 v15 v16 v17 v18 v19 v20 v21 v22 n W' := by
  have hs : 15 < l.size := by rw [h.size]; decide
  have e18 : (l.setIfInBounds 15 true).getD 18 false = l.getD 18 false := gs_ne (by decide)
  have e19 : (l.setIfInBounds 15 true).getD 19 false = l.getD 19 false := gs_ne (by decide)
  refine ⟨by rw [Array.size_setIfInBounds]; exact h.size, h.below.trans (hb.mono h.below.size), h.base, ?q18, ?q19, fun e => e18.symm ▸ (h.p6 (by rw [gs_ne (by decide)] at e; exact e)).up hb, fun g e => (h.p7 (by rw [e19] at g; exact g) (by rw [gs_ne (by decide)] at e; exact e)).up hb, fun g e => (h.p8 (by rw [e19] at g; exact g) (by rw [gs_ne (by decide)] at e; exact e)).up hb, fun g e => h.p9 (by rw [e18] at g; exact g) (by rw [gs_ne (by decide)] at e; exact e), fun g e => h.p10 (by rw [e18] at g; exact g) (by rw [gs_ne (by decide)] at e; exact e), fun g e => h.p11 (by rw [e18] at g; exact g) (by rw [gs_ne (by decide)] at e; exact e), fun g e => h.p12 (by rw [e18] at g; exact g) (by rw [gs_ne (by decide)] at e; exact e), fun g e => h.p13 (by rw [e18] at g; exact g) (by rw [gs_ne (by decide)] at e; exact e), fun g e => (h.p14 (by rw [e18] at g; exact g) (by rw [gs_ne (by decide)] at e; exact e)).up hb, fun g e => (h.p15 (by rw [e18] at g; exact g) (by rw [gs_ne (by decide)] at e; exact e)).up hb, fun g e => (h.p16 (by rw [e18] at g; exact g) (by rw [gs_ne (by decide)] at e; exact e)).up hb, fun g e => (h.p17 (by rw [e18] at g; exact g) (by rw [gs_ne (by decide)] at e; exact e)).up hb, fun g e => (h.p18 (by rw [e18] at g; exact g) (by rw [gs_ne (by decide)] at e; exact e)).up hb, fun g e => (h.p19 (by rw [e18] at g; exact g) (by rw [gs_ne (by decide)] at e; exact e)).up hb, fun g e => (h.p20 (by rw [e18] at g; exact g) (by rw [gs_ne (by decide)] at e; exact e)).up hb, fun g e => (h.p21 (by rw [e18] at g; exact g) (by rw [gs_ne (by decide)] at e; exact e)).up hb, fun g e => (h.p22 (by rw [e18] at g; exact g) (by rw [gs_ne (by decide)] at e; exact e)).up hb, fun e => hn⟩
  case q18 => 
    intro e j hj hj5
    rw [e18] at e
    have := h.q18 e j hj hj5
    by_cases hij : 15 = j
    · subst hij; exact gs_eq hs
    · rw [gs_ne hij]; exact this
  case q19 => 
    intro e
    rw [e19] at e
    obtain ⟨g1, g2⟩ := h.q19 e
    refine ⟨by rw [e18]; exact g1, ?_⟩
    by_cases hij : 15 = 15
    · cases hij; exact gs_eq hs
    · rw [gs_ne hij]; exact g2
theorem I19.t16 {b : Nat} {w0 : World} {fb : ByteArray} {x y : Int} {ok : Bool} {s : List UInt8} {how : Int} {l : Array Bool} {v6 v7 v8 v9 v10 v11 v12 v13 v14 v15 v16 v17 v18 v19 v20 v21 v22 v23 : Value} {W : World} {n : Value} {W' : World} (h : I19 b w0 fb x y ok s how l v6 v7 v8 v9 v10 v11 v12 v13 v14 v15 v16 v17 v18 v19 v20 v21 v22 v23 W) (hu : l.getD 16 true = false) (hb : Below W.heap.size W W') (hn : D6 b (l.getD 18 false) ok s how n W') : I19 b w0 fb x y ok s how (l.setIfInBounds 16 true) n v7 v8 v9 v10 v11 v12 v13 v14 v15 v16 v17 v18 v19 v20 v21 v22 v23 W' := by
  have hs : 16 < l.size := by rw [h.size]; decide
  have e18 : (l.setIfInBounds 16 true).getD 18 false = l.getD 18 false := gs_ne (by decide)
  have e19 : (l.setIfInBounds 16 true).getD 19 false = l.getD 19 false := gs_ne (by decide)
  refine ⟨by rw [Array.size_setIfInBounds]; exact h.size, h.below.trans (hb.mono h.below.size), h.base, ?q18, ?q19, fun e => e18.symm ▸ hn, fun g e => (h.p7 (by rw [e19] at g; exact g) (by rw [gs_ne (by decide)] at e; exact e)).up hb, fun g e => (h.p8 (by rw [e19] at g; exact g) (by rw [gs_ne (by decide)] at e; exact e)).up hb, fun g e => h.p9 (by rw [e18] at g; exact g) (by rw [gs_ne (by decide)] at e; exact e), fun g e => h.p10 (by rw [e18] at g; exact g) (by rw [gs_ne (by decide)] at e; exact e), fun g e => h.p11 (by rw [e18] at g; exact g) (by rw [gs_ne (by decide)] at e; exact e), fun g e => h.p12 (by rw [e18] at g; exact g) (by rw [gs_ne (by decide)] at e; exact e), fun g e => h.p13 (by rw [e18] at g; exact g) (by rw [gs_ne (by decide)] at e; exact e), fun g e => (h.p14 (by rw [e18] at g; exact g) (by rw [gs_ne (by decide)] at e; exact e)).up hb, fun g e => (h.p15 (by rw [e18] at g; exact g) (by rw [gs_ne (by decide)] at e; exact e)).up hb, fun g e => (h.p16 (by rw [e18] at g; exact g) (by rw [gs_ne (by decide)] at e; exact e)).up hb, fun g e => (h.p17 (by rw [e18] at g; exact g) (by rw [gs_ne (by decide)] at e; exact e)).up hb, fun g e => (h.p18 (by rw [e18] at g; exact g) (by rw [gs_ne (by decide)] at e; exact e)).up hb, fun g e => (h.p19 (by rw [e18] at g; exact g) (by rw [gs_ne (by decide)] at e; exact e)).up hb, fun g e => (h.p20 (by rw [e18] at g; exact g) (by rw [gs_ne (by decide)] at e; exact e)).up hb, fun g e => (h.p21 (by rw [e18] at g; exact g) (by rw [gs_ne (by decide)] at e; exact e)).up hb, fun g e => (h.p22 (by rw [e18] at g; exact g) (by rw [gs_ne (by decide)] at e; exact e)).up hb, fun e => h.p23 (by rw [gs_ne (by decide)] at e; exact e)⟩
  case q18 => 
    intro e j hj hj5
    rw [e18] at e
    have := h.q18 e j hj hj5
    by_cases hij : 16 = j
    · subst hij; exact gs_eq hs
    · rw [gs_ne hij]; exact this
  case q19 => 
    intro e
    rw [e19] at e
    obtain ⟨g1, g2⟩ := h.q19 e
    refine ⟨by rw [e18]; exact g1, ?_⟩
    by_cases hij : 16 = 15
    · exact absurd hij (by decide)
    · rw [gs_ne hij]; exact g2
theorem I19.t17 {b : Nat} {w0 : World} {fb : ByteArray} {x y : Int} {ok : Bool} {s : List UInt8} {how : Int} {l : Array Bool} {v6 v7 v8 v9 v10 v11 v12 v13 v14 v15 v16 v17 v18 v19 v20 v21 v22 v23 : Value} {W : World} {n : Value} {W' : World} (h : I19 b w0 fb x y ok s how l v6 v7 v8 v9 v10 v11 v12 v13 v14 v15 v16 v17 v18 v19 v20 v21 v22 v23 W) (hu : l.getD 17 true = false) (hb : Below W.heap.size W W') (hn : D7 b n W') : I19 b w0 fb x y ok s how (l.setIfInBounds 17 true) v6 n v8 v9 v10 v11 v12 v13 v14 v15 v16 v17 v18 v19 v20 v21 v22 v23 W' := by
  have hs : 17 < l.size := by rw [h.size]; decide
  have e18 : (l.setIfInBounds 17 true).getD 18 false = l.getD 18 false := gs_ne (by decide)
  have e19 : (l.setIfInBounds 17 true).getD 19 false = l.getD 19 false := gs_ne (by decide)
  refine ⟨by rw [Array.size_setIfInBounds]; exact h.size, h.below.trans (hb.mono h.below.size), h.base, ?q18, ?q19, fun e => e18.symm ▸ (h.p6 (by rw [gs_ne (by decide)] at e; exact e)).up hb, fun g e => hn, fun g e => (h.p8 (by rw [e19] at g; exact g) (by rw [gs_ne (by decide)] at e; exact e)).up hb, fun g e => h.p9 (by rw [e18] at g; exact g) (by rw [gs_ne (by decide)] at e; exact e), fun g e => h.p10 (by rw [e18] at g; exact g) (by rw [gs_ne (by decide)] at e; exact e), fun g e => h.p11 (by rw [e18] at g; exact g) (by rw [gs_ne (by decide)] at e; exact e), fun g e => h.p12 (by rw [e18] at g; exact g) (by rw [gs_ne (by decide)] at e; exact e), fun g e => h.p13 (by rw [e18] at g; exact g) (by rw [gs_ne (by decide)] at e; exact e), fun g e => (h.p14 (by rw [e18] at g; exact g) (by rw [gs_ne (by decide)] at e; exact e)).up hb, fun g e => (h.p15 (by rw [e18] at g; exact g) (by rw [gs_ne (by decide)] at e; exact e)).up hb, fun g e => (h.p16 (by rw [e18] at g; exact g) (by rw [gs_ne (by decide)] at e; exact e)).up hb, fun g e => (h.p17 (by rw [e18] at g; exact g) (by rw [gs_ne (by decide)] at e; exact e)).up hb, fun g e => (h.p18 (by rw [e18] at g; exact g) (by rw [gs_ne (by decide)] at e; exact e)).up hb, fun g e => (h.p19 (by rw [e18] at g; exact g) (by rw [gs_ne (by decide)] at e; exact e)).up hb, fun g e => (h.p20 (by rw [e18] at g; exact g) (by rw [gs_ne (by decide)] at e; exact e)).up hb, fun g e => (h.p21 (by rw [e18] at g; exact g) (by rw [gs_ne (by decide)] at e; exact e)).up hb, fun g e => (h.p22 (by rw [e18] at g; exact g) (by rw [gs_ne (by decide)] at e; exact e)).up hb, fun e => h.p23 (by rw [gs_ne (by decide)] at e; exact e)⟩
  case q18 => 
    intro e j hj hj5
    rw [e18] at e
    have := h.q18 e j hj hj5
    by_cases hij : 17 = j
    · subst hij; exact gs_eq hs
    · rw [gs_ne hij]; exact this
  case q19 => 
    intro e
    rw [e19] at e
    obtain ⟨g1, g2⟩ := h.q19 e
    refine ⟨by rw [e18]; exact g1, ?_⟩
    by_cases hij : 17 = 15
    · exact absurd hij (by decide)
    · rw [gs_ne hij]; exact g2
theorem heap_two {W : World} {N k : Nat} {q r : Nat} {u v : Value} (h : k ≠ N) : ((W.setCell ⟨N, q, none⟩ u).setCell ⟨N, r, none⟩ v).heap[k]? = W.heap[k]? :=
  (Below.heap_setCell _ _ _ _ (by simpa using h)).trans (Below.heap_setCell _ _ _ _ (by simpa using h))
theorem ne_type {W : World} {N b : Nat} {cs ds : Array Value} {t u : TypeId} {fz gz : Nat × Nat} (h1 : W.heap[N]? = some (.cells cs t fz)) (h2 : W.heap[b]? = some (.cells ds u gz)) (ht : u ≠ t) : b ≠ N := by
  rintro rfl
  rw [h1] at h2
  simp only [Option.some.injEq, Obj.cells.injEq] at h2
  exact ht h2.2.1.symm
theorem T1.two {ok : Bool} {s : List UInt8} {a : Option Addr} {n c N : Nat} {y z : Int} {u : Value} {W : World} {v1 : Value} {t : TypeId} (hN : W.heap[N]? = some (.cells #[.int .i64 y, v1] t (0, 0))) (h : T1 ok s a n c W) : T1 ok s a n c ((W.setCell ⟨N, 0, none⟩ (.int .i64 z)).setCell ⟨N, 1, none⟩ u) := by
  have c0 : W.cell? ⟨N, 0, none⟩ = some (.int .i64 y) := (cellO hN).trans rfl
  have h1 := h.set (q := 0) (v := .int .i64 z) c0
  refine h1.set (y := z) ?_
  have := cell_setV (q := 0) hN (.int .i64 z)
  exact (cellO this).trans rfl
theorem I19.t18 {b : Nat} {w0 : World} {fb : ByteArray} {x y : Int} {ok : Bool} {s : List UInt8} {how : Int} {l : Array Bool} {v6 v7 v8 v9 v10 v11 v12 v13 v14 v15 v16 v17 v18 v19 v20 v21 v22 v23 : Value} {W : World} {N n c : Nat} {a : Option Addr} (h : I19 b w0 fb x y ok s how l v6 v7 v8 v9 v10 v11 v12 v13 v14 v15 v16 v17 v18 v19 v20 v21 v22 v23 W) (hu : l.getD 18 true = false) (hd : ∀ j, j < 18 → j ≠ 15 → l.getD j false = true) (h6 : v6 = .pointer (some ⟨N, 0, none⟩)) (hbN : b ≤ N) (hz : W.heap[N]? = some (.cells #[.int .i64 0, .slice none 0 0] 25 (0, 0))) (h22 : v22 = aggR how a n c) (ht : T1 ok s a n c W) :
    I19 b w0 fb x y ok s how (l.setIfInBounds 18 true) v6 v7 v8 v9 v10 v11 v12 v13 v14 v15 v16 v17 v18 v19 v20 v21 v22 v23 ((W.setCell ⟨N, 0, none⟩ (.int .i64 how)).setCell ⟨N, 1, none⟩ (.slice a n c)) := by
  have hs : 18 < l.size := by rw [h.size]; decide
  have hNl : N < W.heap.size := (Array.getElem?_eq_some_iff.1 hz).1
  have e18 : (l.setIfInBounds 18 true).getD 18 false = true := gs_eq hs
  have e19 : (l.setIfInBounds 18 true).getD 19 false = l.getD 19 false := gs_ne (by decide)
  have u18 := un_of hu
  have hsz : ((W.setCell ⟨N, 0, none⟩ (.int .i64 how)).setCell ⟨N, 1, none⟩ (.slice a n c)).heap.size = W.heap.size := by simp
  have n19 : l.getD 19 false = true → False := fun e => by
    have := (h.q19 e).1
    rw [u18] at this
    cases this
  refine ⟨by rw [Array.size_setIfInBounds]; exact h.size, (h.below.setCell (p := ⟨N, 0, none⟩) (by rw [← h.base]; exact hbN) _).setCell (p := ⟨N, 1, none⟩) (by rw [← h.base]; exact hbN) _, h.base, ?q18, ?q19, ?p6, ?p7, ?p8, fun g => absurd (e18.symm.trans g) (by decide), fun g => absurd (e18.symm.trans g) (by decide), fun g => absurd (e18.symm.trans g) (by decide), fun g => absurd (e18.symm.trans g) (by decide), fun g => absurd (e18.symm.trans g) (by decide), fun g => absurd (e18.symm.trans g) (by decide), fun g => absurd (e18.symm.trans g) (by decide), fun g => absurd (e18.symm.trans g) (by decide), fun g => absurd (e18.symm.trans g) (by decide), fun g => absurd (e18.symm.trans g) (by decide), fun g => absurd (e18.symm.trans g) (by decide), fun g => absurd (e18.symm.trans g) (by decide), fun g => absurd (e18.symm.trans g) (by decide), fun g => absurd (e18.symm.trans g) (by decide), fun e => h.p23 (by rw [gs_ne (by decide)] at e; exact e)⟩
  case q18 =>
    intro _ j hj hj5
    rw [gs_ne (by omega)]
    exact hd j hj hj5
  case q19 =>
    intro e
    rw [e19] at e
    exact (n19 e).elim
  case p6 =>
    intro _
    refine ⟨N, h6, hbN, by rw [hsz]; exact hNl, Or.inr ⟨e18, a, n, c, ?_, T1.two hz ht⟩⟩
    have h1 := cell_setV (q := 0) hz (.int .i64 how)
    exact (cell_setV (q := 1) h1 (.slice a n c)).trans rfl
  case p7 =>
    intro g e
    rw [e19] at g
    rw [gs_ne (by decide)] at e
    obtain ⟨N7, g1, g2, g3, g4⟩ := h.p7 g e
    exact ⟨N7, g1, g2, by rw [hsz]; exact g3, (heap_two (ne_type hz g4 (by decide))).trans g4⟩
  case p8 =>
    intro g e
    rw [e19] at g
    rw [gs_ne (by decide)] at e
    obtain ⟨a', n', c', g1, g2⟩ := h.p8 g e
    exact ⟨a', n', c', g1, T1.two hz g2⟩
theorem I19.t19 {b : Nat} {w0 : World} {fb : ByteArray} {x y : Int} {ok : Bool} {s : List UInt8} {how : Int} {l : Array Bool} {v6 v7 v8 v9 v10 v11 v12 v13 v14 v15 v16 v17 v18 v19 v20 v21 v22 v23 : Value} {W : World} {N : Nat} (h : I19 b w0 fb x y ok s how l v6 v7 v8 v9 v10 v11 v12 v13 v14 v15 v16 v17 v18 v19 v20 v21 v22 v23 W) (hu : l.getD 19 true = false) (hd : l.getD 18 false = true) (hd5 : l.getD 15 false = true) (h7 : v7 = .pointer (some ⟨N, 0, none⟩)) (hbN : b ≤ N) (hz : W.heap[N]? = some (.cells #[.int .i64 0, .int .i64 0] 28 (0, 0))) :
    I19 b w0 fb x y ok s how (l.setIfInBounds 19 true) v6 v7 v8 v9 v10 v11 v12 v13 v14 v15 v16 v17 v18 v19 v20 v21 v22 v23 ((W.setCell ⟨N, 0, none⟩ (.int .i64 0)).setCell ⟨N, 1, none⟩ (.int .i64 0)) := by
  have hs : 19 < l.size := by rw [h.size]; decide
  have hNl : N < W.heap.size := (Array.getElem?_eq_some_iff.1 hz).1
  have e19 : (l.setIfInBounds 19 true).getD 19 false = true := gs_eq hs
  have e18 : (l.setIfInBounds 19 true).getD 18 false = l.getD 18 false := gs_ne (by decide)
  have e15 : (l.setIfInBounds 19 true).getD 15 false = l.getD 15 false := gs_ne (by decide)
  have hsz : ((W.setCell ⟨N, 0, none⟩ (.int .i64 0)).setCell ⟨N, 1, none⟩ (.int .i64 0)).heap.size = W.heap.size := by simp
  refine ⟨by rw [Array.size_setIfInBounds]; exact h.size, (h.below.setCell (p := ⟨N, 0, none⟩) (by rw [← h.base]; exact hbN) _).setCell (p := ⟨N, 1, none⟩) (by rw [← h.base]; exact hbN) _, h.base, ?q18, fun _ => ⟨by rw [e18]; exact hd, by rw [e15]; exact hd5⟩, ?p6, fun g => absurd (e19.symm.trans g) (by decide), fun g => absurd (e19.symm.trans g) (by decide), fun g => absurd (hd.symm.trans (e18.symm.trans g)) (by decide), fun g => absurd (hd.symm.trans (e18.symm.trans g)) (by decide), fun g => absurd (hd.symm.trans (e18.symm.trans g)) (by decide), fun g => absurd (hd.symm.trans (e18.symm.trans g)) (by decide), fun g => absurd (hd.symm.trans (e18.symm.trans g)) (by decide), fun g => absurd (hd.symm.trans (e18.symm.trans g)) (by decide), fun g => absurd (hd.symm.trans (e18.symm.trans g)) (by decide), fun g => absurd (hd.symm.trans (e18.symm.trans g)) (by decide), fun g => absurd (hd.symm.trans (e18.symm.trans g)) (by decide), fun g => absurd (hd.symm.trans (e18.symm.trans g)) (by decide), fun g => absurd (hd.symm.trans (e18.symm.trans g)) (by decide), fun g => absurd (hd.symm.trans (e18.symm.trans g)) (by decide), fun g => absurd (hd.symm.trans (e18.symm.trans g)) (by decide), fun g => absurd (hd.symm.trans (e18.symm.trans g)) (by decide), fun e => h.p23 (by rw [gs_ne (by decide)] at e; exact e)⟩
  case q18 =>
    intro e j hj hj5
    rw [gs_ne (by omega)]
    exact h.q18 (e18 ▸ e) j hj hj5
  case p6 =>
    intro e
    rw [gs_ne (by decide)] at e
    obtain ⟨N6, g1, g2, g3, g4⟩ := h.p6 e
    refine ⟨N6, g1, g2, by rw [hsz]; exact g3, ?_⟩
    rcases g4 with ⟨g4, _⟩ | ⟨g4, a, n, c, g5, g6⟩
    · rw [hd] at g4
      cases g4
    · exact Or.inr ⟨by rw [e18]; exact g4, a, n, c, (heap_two (ne_type hz g5 (by decide))).trans g5, T1.two hz g6⟩
end Go.Proofs.YthooljlikllnpaaDoor
