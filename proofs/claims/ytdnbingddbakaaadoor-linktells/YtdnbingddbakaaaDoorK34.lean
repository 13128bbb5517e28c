/- Chapter 10: the image being made, in memory. Chapter 10, plainly: what an image is. -/
import Derived.Test.YtdnbingddbakaaaDoorK33
namespace Go.Proofs.YtdnbingddbakaaaDoor
section
set_option linter.unusedVariables false
set_option linter.unusedSimpArgs false
open Go.RowKit

def ints (l : List Int) : List Value := l.map fun i => .int .i64 i
theorem ints_len (l : List Int) : (ints l).length = l.length := by simp [ints]
theorem ints_app (a b : List Int) : ints (a ++ b) = ints a ++ ints b := by simp [ints]
theorem own_stay {w w' : World} {B size n : Nat} {e : TypeId} {v : Value} {xs : List Value} (h : w.ownsRow B e size v n xs) (hk : ∀ g, v.ownBlock = some g → w'.heap[g]? = w.heap[g]?) : w'.ownsRow B e size v n xs := by
  refine ⟨h.1, ?_⟩
  rcases h.2 with h | ⟨g, cap, cur, rfl, hb, hg, rest⟩
  · exact Or.inl h
  · exact Or.inr ⟨g, cap, cur, rfl, hb, (hk g rfl).trans hg, rest⟩
theorem own_slice {w : World} {base size n : Nat} {e : TypeId} {v : Value} {xs : List Value} (h : w.ownsRow base e size v n xs) : ∃ va vc, v = .slice va n vc ∧ n ≤ vc := by
  rcases h.2 with ⟨rfl, rfl⟩ | ⟨g, cap, cur, rfl, hbg, hg, hnc, hcm, hcs, htake⟩
  · exact ⟨none, 0, rfl, Nat.le_refl _⟩
  · exact ⟨_, cap, rfl, hnc⟩
/-- Whose blocks change. -/
def OG (N1 : Nat) (pv sv : Value) (b : Nat) : Prop := b = N1 ∨ some b = pv.ownBlock ∨ some b = sv.ownBlock
structure Fm (O O' : Nat → Prop) (B : Nat) (w w' : World) : Prop where
  low : Below B w w'
  keep : ∀ b, b < w.heap.size → ¬ O b → w'.heap[b]? = w.heap[b]?
  own : ∀ b, b < w.heap.size → O' b → O b
theorem Fm.refl (O : Nat → Prop) (B : Nat) (w : World) : Fm O O B w w := ⟨Below.refl _ _, fun _ _ _ => rfl, fun _ _ h => h⟩
theorem Fm.trans {O O1 O2 : Nat → Prop} {B : Nat} {w w1 w2 : World} (h : Fm O O1 B w w1) (k : Fm O1 O2 B w1 w2) : Fm O O2 B w w2 :=
  ⟨h.low.trans k.low, fun b hb hn => (k.keep b (Nat.lt_of_lt_of_le hb h.low.size) (fun e => hn (h.own b hb e))).trans (h.keep b hb hn), fun b hb e => h.own b hb (k.own b (Nat.lt_of_lt_of_le hb h.low.size) e)⟩
theorem Fm.of_below {O : Nat → Prop} {B : Nat} {w w' : World} (hb : Below w.heap.size w w') (hB : B ≤ w.heap.size) : Fm O O B w w' := ⟨hb.mono hB, fun b h _ => hb.block b h, fun _ _ h => h⟩
/-- AN IMAGE BEING MADE, in box N1. -/
structure IM (B N1 : Nat) (bv pv sv : Value) (ps : List PE) (ss : List Int) (w : World) : Prop where
  box : w.heap[N1]? = some (.cells #[bv, pv, sv] 27 (0, 0))
  bn : B ≤ N1
  pr : w.ownsRow B 46 2 pv ps.length (flatP ps)
  sr : w.ownsRow B 3 1 sv ss.length (ints ss)
  s1 : pv.ownBlock ≠ some N1
  s2 : sv.ownBlock ≠ some N1
  s3 : ∀ g, pv.ownBlock = some g → sv.ownBlock ≠ some g
  ok : ∀ p ∈ ps, p.Ok (fun b => N1 < b ∧ b < w.heap.size ∧ ¬ OG N1 pv sv b) w
theorem IM.lt {B N1 bv pv sv ps ss w} (h : IM B N1 bv pv sv ps ss w) : N1 < w.heap.size := (Array.getElem?_eq_some_iff.1 h.box).1
theorem IM.ble {B N1 bv pv sv ps ss w} (h : IM B N1 bv pv sv ps ss w) : B ≤ w.heap.size := Nat.le_of_lt (Nat.lt_of_le_of_lt h.bn h.lt)
theorem IM.oglt {B N1 bv pv sv ps ss w} (h : IM B N1 bv pv sv ps ss w) {b : Nat} (hb : OG N1 pv sv b) : B ≤ b ∧ b < w.heap.size := by
  rcases hb with e | e | e
  · rw [e]; exact ⟨h.bn, h.lt⟩
  · exact h.pr.lt b e.symm
  · exact h.sr.lt b e.symm
/-- What keeps the image's own blocks, and all data, keeps the image. -/
theorem IM.keep {B N1 bv pv sv ps ss w w'} (h : IM B N1 bv pv sv ps ss w) (hk : ∀ b, b < w.heap.size → w'.heap[b]? = w.heap[b]?) (hs : w.heap.size ≤ w'.heap.size) : IM B N1 bv pv sv ps ss w' :=
  ⟨(hk _ h.lt).trans h.box, h.bn, own_stay h.pr (fun g hg => hk g (h.pr.lt g hg).2), own_stay h.sr (fun g hg => hk g (h.sr.lt g hg).2), h.s1, h.s2, h.s3, fun p hp => (h.ok p hp).stay (fun b hb => hk b hb.2.1) (fun b hb => ⟨hb.1, Nat.lt_of_lt_of_le hb.2.1 hs, hb.2.2⟩)⟩
theorem IM.below {B N1 bv pv sv ps ss w w'} (h : IM B N1 bv pv sv ps ss w) (hb : Below w.heap.size w w') : IM B N1 bv pv sv ps ss w' := h.keep (fun b k => hb.block b k) hb.size
theorem three_at1 {C : Nat} {u : World} {z0 z1 z2 : Value} {t : TypeId} (h : u.heap[C]? = some (.cells #[z0, z1, z2] t (0, 0))) (x : Value) : (u.setCell ⟨C, 1, none⟩ x).heap[C]? = some (.cells #[z0, x, z2] t (0, 0)) := by
  have h1 := heap_setCell_same u C 1 _ t x h
  rw [h1]; rfl
theorem three_at2 {C : Nat} {u : World} {z0 z1 z2 : Value} {t : TypeId} (h : u.heap[C]? = some (.cells #[z0, z1, z2] t (0, 0))) (x : Value) : (u.setCell ⟨C, 2, none⟩ x).heap[C]? = some (.cells #[z0, z1, x] t (0, 0)) := by
  have h1 := heap_setCell_same u C 2 _ t x h
  rw [h1]; rfl
theorem gk {w w4 : World} {r : Option Nat} (hg : w.grownBy w4 r) {b : Nat} (hb : b < w.heap.size) (hn : r ≠ some b) : w4.heap[b]? = w.heap[b]? := hg.block b hb (fun e => hn e.symm)
/-- One start more. -/
theorem IM.start {B N1 bv pv sv ps ss w} (h : IM B N1 bv pv sv ps ss w) {sv' : Value} {s : Int} {w4 : World} (hown : w4.ownsRow B 3 1 sv' (ss.length + 1) (ints ss ++ [.int .i64 s])) (hg : w.grownBy w4 sv.ownBlock) (hw : sv'.ownBlock = sv.ownBlock ∨ sv'.ownBlock = some w.heap.size) :
    IM B N1 bv pv sv' ps (ss ++ [s]) (w4.setCell ⟨N1, 2, none⟩ sv') ∧ Fm (OG N1 pv sv) (OG N1 pv sv') B w (w4.setCell ⟨N1, 2, none⟩ sv') := by
  have hN : w4.heap[N1]? = some (.cells #[bv, pv, sv] 27 (0, 0)) := (gk hg h.lt h.s2).trans h.box
  have oth : ∀ b, b ≠ N1 → (w4.setCell ⟨N1, 2, none⟩ sv').heap[b]? = w4.heap[b]? := fun b hb => Below.heap_setCell _ _ _ _ hb
  have hsz : w.heap.size ≤ (w4.setCell ⟨N1, 2, none⟩ sv').heap.size := Nat.le_trans hg.size (by simp [World.setCell])
  have back : ∀ b, b < w.heap.size → OG N1 pv sv' b → OG N1 pv sv b := fun b hb e => by
    rcases e with e | e | e
    · exact Or.inl e
    · exact Or.inr (Or.inl e)
    · rcases hw with hw | hw
      · rw [hw] at e; exact Or.inr (Or.inr e)
      · rw [hw] at e; simp at e; omega
  have kp : ∀ b, b < w.heap.size → ¬ OG N1 pv sv b → (w4.setCell ⟨N1, 2, none⟩ sv').heap[b]? = w.heap[b]? := fun b hb hn => (oth b (fun e => hn (Or.inl e))).trans (gk hg hb (fun e => hn (Or.inr (Or.inr e.symm))))
  refine ⟨⟨three_at2 hN sv', h.bn, ?_, ?_, h.s1, ?_, ?_, ?_⟩, ⟨?_, kp, back⟩⟩
  · exact own_stay h.pr (fun g hg' => (oth g (fun e => h.s1 (by rw [← e]; exact hg'))).trans (gk hg (h.pr.lt g hg').2 (fun e => h.s3 g hg' e)))
  · rw [List.length_append, List.length_singleton, ints_app]
    exact own_stay hown (fun g hg' => oth g (fun e => by
      rcases hw with hw | hw
      · rw [hw] at hg'; exact h.s2 (by rw [← e]; exact hg')
      · rw [hw] at hg'; simp at hg'; have := h.lt; omega))
  · intro e
    rcases hw with hw | hw
    · rw [hw] at e; exact h.s2 e
    · rw [hw] at e; simp at e; have := h.lt; omega
  · intro g hg' e
    rcases hw with hw | hw
    · rw [hw] at e; exact h.s3 g hg' e
    · rw [hw] at e; simp at e; have := (h.pr.lt g hg').2; omega
  · exact fun p hp => (h.ok p hp).stay (fun b hb => kp b hb.2.1 hb.2.2) (fun b hb => ⟨hb.1, Nat.lt_of_lt_of_le hb.2.1 hsz, fun e => hb.2.2 (back b hb.2.1 e)⟩)
  · refine ((Below.refl B w).grown hg h.ble (fun j hj => (h.sr.lt j hj).1)).setCell (p := ⟨N1, 2, none⟩) h.bn _
/-- One procedure more. -/
theorem IM.proto {B N1 bv pv sv ps ss w} (h : IM B N1 bv pv sv ps ss w) {p : PE} (hp : p.Ok (fun b => N1 < b ∧ b < w.heap.size ∧ ¬ OG N1 pv sv b) w) {pv' : Value} {w4 : World} (hown : w4.ownsRow B 46 2 pv' (ps.length + 1) (flatP ps ++ p.cells)) (hg : w.grownBy w4 pv.ownBlock) (hw : pv'.ownBlock = pv.ownBlock ∨ pv'.ownBlock = some w.heap.size) :
    IM B N1 bv pv' sv (ps ++ [p]) ss (w4.setCell ⟨N1, 1, none⟩ pv') ∧ Fm (OG N1 pv sv) (OG N1 pv' sv) B w (w4.setCell ⟨N1, 1, none⟩ pv') := by
  have hN : w4.heap[N1]? = some (.cells #[bv, pv, sv] 27 (0, 0)) := (gk hg h.lt h.s1).trans h.box
  have oth : ∀ b, b ≠ N1 → (w4.setCell ⟨N1, 1, none⟩ pv').heap[b]? = w4.heap[b]? := fun b hb => Below.heap_setCell _ _ _ _ hb
  have hsz : w.heap.size ≤ (w4.setCell ⟨N1, 1, none⟩ pv').heap.size := Nat.le_trans hg.size (by simp [World.setCell])
  have back : ∀ b, b < w.heap.size → OG N1 pv' sv b → OG N1 pv sv b := fun b hb e => by
    rcases e with e | e | e
    · exact Or.inl e
    · rcases hw with hw | hw
      · rw [hw] at e; exact Or.inr (Or.inl e)
      · rw [hw] at e; simp at e; omega
    · exact Or.inr (Or.inr e)
  have kp : ∀ b, b < w.heap.size → ¬ OG N1 pv sv b → (w4.setCell ⟨N1, 1, none⟩ pv').heap[b]? = w.heap[b]? := fun b hb hn => (oth b (fun e => hn (Or.inl e))).trans (gk hg hb (fun e => hn (Or.inr (Or.inl e.symm))))
  refine ⟨⟨three_at1 hN pv', h.bn, ?_, ?_, ?_, h.s2, ?_, ?_⟩, ⟨?_, kp, back⟩⟩
  · rw [List.length_append, List.length_singleton, flatP_append, show flatP [p] = p.cells by simp [flatP]]
    exact own_stay hown (fun g hg' => oth g (fun e => by
      rcases hw with hw | hw
      · rw [hw] at hg'; exact h.s1 (by rw [← e]; exact hg')
      · rw [hw] at hg'; simp at hg'; have := h.lt; omega))
  · exact own_stay h.sr (fun g hg' => (oth g (fun e => h.s2 (by rw [← e]; exact hg'))).trans (gk hg (h.sr.lt g hg').2 (fun e => h.s3 g e hg')))
  · intro e
    rcases hw with hw | hw
    · rw [hw] at e; exact h.s1 e
    · rw [hw] at e; simp at e; have := h.lt; omega
  · intro g hg' e
    rcases hw with hw | hw
    · rw [hw] at hg'; exact h.s3 g hg' e
    · rw [hw] at hg'; simp at hg'; have := (h.sr.lt g e).2; omega
  · intro q hq
    have hq0 : q.Ok (fun b => N1 < b ∧ b < w.heap.size ∧ ¬ OG N1 pv sv b) w := by
      rcases List.mem_append.1 hq with hq | hq
      · exact h.ok q hq
      · rw [List.mem_singleton.1 hq]; exact hp
    exact hq0.stay (fun b hb => kp b hb.2.1 hb.2.2) (fun b hb => ⟨hb.1, Nat.lt_of_lt_of_le hb.2.1 hsz, fun e => hb.2.2 (back b hb.2.1 e)⟩)
  · refine ((Below.refl B w).grown hg h.ble (fun j hj => (h.pr.lt j hj).1)).setCell (p := ⟨N1, 1, none⟩) h.bn _
/-- Eleven cells of a block, set. -/
def fillAt (W : World) (N o : Nat) (x0 x1 x2 x3 x4 x5 x6 x7 x8 x9 x10 : Value) : World := (((((((((((W).setCell ⟨N, o, none⟩ x0).setCell ⟨N, o + 1, none⟩ x1).setCell ⟨N, o + 2, none⟩ x2).setCell ⟨N, o + 3, none⟩ x3).setCell ⟨N, o + 4, none⟩ x4).setCell ⟨N, o + 5, none⟩ x5).setCell ⟨N, o + 6, none⟩ x6).setCell ⟨N, o + 7, none⟩ x7).setCell ⟨N, o + 8, none⟩ x8).setCell ⟨N, o + 9, none⟩ x9).setCell ⟨N, o + 10, none⟩ x10
theorem fillAt_keep (W : World) (N o : Nat) (x0 x1 x2 x3 x4 x5 x6 x7 x8 x9 x10 : Value) : Keep N W (fillAt W N o x0 x1 x2 x3 x4 x5 x6 x7 x8 x9 x10) := by
  unfold fillAt
  exact (((((((((((Keep.refl N W).setCell _ rfl x0).setCell _ rfl x1).setCell _ rfl x2).setCell _ rfl x3).setCell _ rfl x4).setCell _ rfl x5).setCell _ rfl x6).setCell _ rfl x7).setCell _ rfl x8).setCell _ rfl x9).setCell _ rfl x10
theorem fillAt_heap {W : World} {N : Nat} {l r : List Value} {y0 y1 y2 y3 y4 y5 y6 y7 y8 y9 y10 : Value} {t : TypeId} (h : W.heap[N]? = some (.cells (l ++ [y0, y1, y2, y3, y4, y5, y6, y7, y8, y9, y10] ++ r).toArray t (0, 0))) (x0 x1 x2 x3 x4 x5 x6 x7 x8 x9 x10 : Value) :
    (fillAt W N l.length x0 x1 x2 x3 x4 x5 x6 x7 x8 x9 x10).heap[N]? = some (.cells (l ++ [x0, x1, x2, x3, x4, x5, x6, x7, x8, x9, x10] ++ r).toArray t (0, 0)) := by
  have step : ∀ (U : World) (q : List Value) (i : Nat) (v : Value), U.heap[N]? = some (.cells (l ++ q).toArray t (0, 0)) → (U.setCell ⟨N, l.length + i, none⟩ v).heap[N]? = some (.cells (l ++ q.set i v).toArray t (0, 0)) := fun U q i v hU => by
    rw [heap_setCell_same U N (l.length + i) _ t v hU]
    simp [List.set_append]
  rw [List.append_assoc] at h ⊢
  have h0 := step _ ([y0, y1, y2, y3, y4, y5, y6, y7, y8, y9, y10] ++ r) 0 x0 h
  simp only [List.cons_append, List.nil_append, List.set_cons_zero, List.set_cons_succ] at h0
  have h1 := step _ ([x0, y1, y2, y3, y4, y5, y6, y7, y8, y9, y10] ++ r) 1 x1 h0
  simp only [List.cons_append, List.nil_append, List.set_cons_zero, List.set_cons_succ] at h1
  have h2 := step _ ([x0, x1, y2, y3, y4, y5, y6, y7, y8, y9, y10] ++ r) 2 x2 h1
  simp only [List.cons_append, List.nil_append, List.set_cons_zero, List.set_cons_succ] at h2
  have h3 := step _ ([x0, x1, x2, y3, y4, y5, y6, y7, y8, y9, y10] ++ r) 3 x3 h2
  simp only [List.cons_append, List.nil_append, List.set_cons_zero, List.set_cons_succ] at h3
  have h4 := step _ ([x0, x1, x2, x3, y4, y5, y6, y7, y8, y9, y10] ++ r) 4 x4 h3
  simp only [List.cons_append, List.nil_append, List.set_cons_zero, List.set_cons_succ] at h4
  have h5 := step _ ([x0, x1, x2, x3, x4, y5, y6, y7, y8, y9, y10] ++ r) 5 x5 h4
  simp only [List.cons_append, List.nil_append, List.set_cons_zero, List.set_cons_succ] at h5
  have h6 := step _ ([x0, x1, x2, x3, x4, x5, y6, y7, y8, y9, y10] ++ r) 6 x6 h5
  simp only [List.cons_append, List.nil_append, List.set_cons_zero, List.set_cons_succ] at h6
  have h7 := step _ ([x0, x1, x2, x3, x4, x5, x6, y7, y8, y9, y10] ++ r) 7 x7 h6
  simp only [List.cons_append, List.nil_append, List.set_cons_zero, List.set_cons_succ] at h7
  have h8 := step _ ([x0, x1, x2, x3, x4, x5, x6, x7, y8, y9, y10] ++ r) 8 x8 h7
  simp only [List.cons_append, List.nil_append, List.set_cons_zero, List.set_cons_succ] at h8
  have h9 := step _ ([x0, x1, x2, x3, x4, x5, x6, x7, x8, y9, y10] ++ r) 9 x9 h8
  simp only [List.cons_append, List.nil_append, List.set_cons_zero, List.set_cons_succ] at h9
  have h10 := step _ ([x0, x1, x2, x3, x4, x5, x6, x7, x8, x9, y10] ++ r) 10 x10 h9
  simp only [List.cons_append, List.nil_append, List.set_cons_zero, List.set_cons_succ] at h10
  exact h10
end
section
set_option linter.unusedVariables false
set_option linter.unusedSimpArgs false
open Go.RowKit

theorem chkL_right (g : Dat → Nat → Int × Nat) (hg : ∀ d n, n ≤ 2000 → (g d n).1 = 0 → smQ d ∧ n + 1 ≤ (g d n).2 ∧ (g d n).2 ≤ 2000) : ∀ (l : List Dat) (n : Nat), n ≤ 2000 → (chkL g l n).1 = 0 → smQL l ∧ n + l.length ≤ (chkL g l n).2 ∧ (chkL g l n).2 ≤ 2000
  | [], n, hn, _ => by rw [smQL, chkL]; exact ⟨trivial, Nat.le_refl _, hn⟩
  | d :: r, n, hn, h => by
    unfold chkL at h ⊢
    by_cases e : (g d n).1 = 0
    · rw [if_pos e] at h ⊢
      have h1 := hg d n hn e
      have h2 := chkL_right g hg r _ h1.2.2 h
      rw [smQL]
      refine ⟨⟨h1.1, h2.1⟩, ?_, h2.2.2⟩
      rw [List.length_cons]
      omega
    · rw [if_neg e] at h
      exact absurd h e
theorem chk_right : ∀ (f : Nat) (d : Dat) (n : Nat), n ≤ 2000 → (chk f d n).1 = 0 → smQ d ∧ n + 1 ≤ (chk f d n).2 ∧ (chk f d n).2 ≤ 2000
  | 0, d, n, _, h0 => by simp [chk] at h0
  | f + 1, d, n, h, h0 => by
    have hle := chk_le (f + 1) d n h h0
    refine ⟨?_, ?_, hle⟩
    · unfold chk at h0
      by_cases a : 2000 < n + 1
      · rw [if_pos a] at h0; simp at h0
      · rw [if_neg a] at h0
        by_cases b : alone d = 0
        · rw [if_pos b] at h0
          obtain ⟨k, m, nm, st, lb, ks⟩ := d
          rw [smQ]
          refine ⟨fun h3 => ?_, fun h4 => ?_⟩
          · subst h3
            unfold alone at b
            simp at b
            by_cases c : namedB nm = true
            · unfold namedB at c
              simp at c
              omega
            · simp [c] at b
          · simp only at h0
            rw [if_pos h4] at h0
            have h5 := chkL_right (chk f) (fun d n => chk_right f d n) ks (n + 1) (by omega) h0
            exact ⟨by omega, h5.1⟩
        · rw [if_neg b] at h0
          exact absurd h0 b
    · unfold chk at h0 ⊢
      by_cases a : 2000 < n + 1
      · rw [if_pos a] at h0; simp at h0
      · rw [if_neg a] at h0 ⊢
        by_cases b : alone d = 0
        · rw [if_pos b] at h0 ⊢
          by_cases c : d.kind = 4
          · rw [if_pos c] at h0 ⊢
            have h5 := chkL_right (chk f) (fun d n => chk_right f d n) d.kids (n + 1) (by omega) h0
            omega
          · rw [if_neg c]; exact Nat.le_refl _
        · rw [if_neg b] at h0
          exact absurd h0 b
theorem wrong_right {q : Dat} (h : (wrong [q]).1 = 0) : smQ q := by
  unfold wrong wrongFrom at h
  by_cases e : (chk 40 q 0).1 = 0
  · exact (chk_right 40 q 0 (by omega) e).1
  · rw [if_neg e] at h
    exact absurd h e


theorem argsB_small (s : ByteArray) (h : argsB s ≠ 0) : s.size ≤ 1000 := by
  have hm : s ∈ primTab.map (·.1) := (argsTab_mem primTab s (by decide)).1 h
  have hall : ∀ x ∈ primTab.map (·.1), x.size ≤ 1000 := by decide
  exact hall s hm
/-- What a right instruction is like, to be placed. -/
theorem Right.place {nm : ByteArray} {PP : List Pro} (h : Right nm PP) {P : Pro} (hP : P ∈ PP) {x : In} (hx : x ∈ P.code) :
    (1 ≤ x.op ∧ x.op ≤ 15) ∧ (x.op = 3 → smQ x.quote) ∧ (x.op = 6 → x.own.size ≤ 1000) ∧ (x.op = 7 → 0 ≤ x.a ∧ x.a ≤ 1000) := by
  obtain ⟨q, hq⟩ := List.mem_iff_getElem?.1 hP
  obtain ⟨K, hK⟩ := h.ins q P hq x hx
  have h5 := h.n500
  unfold insW at hK
  refine ⟨?_, fun h3 => ?_, fun h6 => ?_, fun h7 => ?_⟩
  · by_cases h1 : 1 ≤ x.op ∧ x.op ≤ 15
    · exact h1
    · rw [if_neg (by omega), if_neg (by omega), if_neg (by omega), if_neg (by omega), if_neg (by omega), if_neg (by omega), if_neg (by omega), if_neg (by omega), if_neg (by omega), if_neg (by omega)] at hK
      simp at hK
  · rw [if_neg (by omega), if_neg (by omega), if_pos h3] at hK
    exact wrong_right hK
  · rw [if_neg (by omega), if_neg (by omega), if_neg (by omega), if_neg (by omega), if_neg (by omega), if_pos h6] at hK
    refine argsB_small _ (fun e => ?_)
    simp [e] at hK
  · rw [if_neg (by omega), if_neg (by omega), if_neg (by omega), if_neg (by omega), if_neg (by omega), if_neg (by omega), if_pos h7] at hK
    unfold closeW at hK
    by_cases h1 : x.a ≤ q ∨ (PP.length : Int) ≤ x.a
    · rw [if_pos h1] at hK; simp at hK
    · omega
/-- A procedure, as it stands in an image. -/
def placeP (gs : List Gl) (st : Nat) (P : Pro) : Pro := ⟨P.args, P.code.map (placeI gs st)⟩
/-- AN IMAGE'S PROCEDURES, AND ITS STARTS. -/
def imgStep (gs : List Gl) (acc : List Pro × List Int) (u : Un) : List Pro × List Int := (acc.1 ++ u.2.map (placeP gs acc.1.length), acc.2 ++ [(acc.1.length : Int)])
def imgS (gs : List Gl) (us : List Un) : List Pro × List Int := us.foldl (imgStep gs) ([], [])
theorem imgS_next {gs : List Gl} {us : List Un} {j : Nat} {u : Un} (h : us[j]? = some u) : imgS gs (us.take (j + 1)) = imgStep gs (imgS gs (us.take j)) u := by
  rw [List.take_add_one, h]
  simp [imgS]
def zI : IE := ⟨⟨0, 0, 0, ⟨#[]⟩, ⟨#[]⟩, emD⟩, none, 0⟩
theorem flatI_at : ∀ (l : List IE) (i r : Nat) (e : IE), l[i]? = some e → r < 11 → (flatI l)[i * 11 + r]? = e.cells[r]?
  | [], i, r, e, h, _ => by simp at h
  | x :: t, 0, r, e, h, hr => by
    simp at h
    subst h
    rw [flatI_cons, Nat.zero_mul, Nat.zero_add, List.getElem?_append_left (by rw [IE.len]; exact hr)]
  | x :: t, i + 1, r, e, h, hr => by
    simp at h
    rw [flatI_cons, List.getElem?_append_right (by rw [IE.len]; omega), IE.len, show (i + 1) * 11 + r - 11 = i * 11 + r by omega]
    exact flatI_at t i r e h hr
theorem made_code (n : Nat) : madeCells #[.int .i64 0, .int .i64 0, .int .i64 0, .string ⟨#[]⟩, .string ⟨#[]⟩, .int .i64 0, .int .i64 0, .string ⟨#[]⟩, .int .i64 0, .int .i64 0, .slice none 0 0] (n * 11) = (flatI (List.replicate n zI)).toArray := by
  apply Array.ext
  · simp [size_madeCells, flatI_len]
  · intro i h1 h2
    rw [size_madeCells] at h1
    have e := flatI_at (List.replicate n zI) (i / 11) (i % 11) zI (by rw [List.getElem?_replicate, if_pos (by omega)]) (by omega)
    rw [show i / 11 * 11 + i % 11 = i by omega] at e
    have e2 : (flatI (List.replicate n zI)).toArray[i]? = zI.cells[i % 11]? := by simpa using e
    rw [Array.getElem?_eq_getElem h2] at e2
    have h3 : i % 11 = 0 ∨ i % 11 = 1 ∨ i % 11 = 2 ∨ i % 11 = 3 ∨ i % 11 = 4 ∨ i % 11 = 5 ∨ i % 11 = 6 ∨ i % 11 = 7 ∨ i % 11 = 8 ∨ i % 11 = 9 ∨ i % 11 = 10 := by omega
    simp only [madeCells, Array.getElem_map, Array.getElem_range]
    rcases h3 with h | h | h | h | h | h | h | h | h | h | h <;> rw [h] at e2 <;> simp [zI, IE.cells, ic, emD] at e2 <;> rw [show (#[.int .i64 0, .int .i64 0, .int .i64 0, .string ⟨#[]⟩, .string ⟨#[]⟩, .int .i64 0, .int .i64 0, .string ⟨#[]⟩, .int .i64 0, .int .i64 0, .slice none 0 0] : Array Value).size = 11 from rfl, h] <;> exact e2.symm
theorem infoIns : (Tryd.prog.info? 51).map (fun i => (i.zero, i.size, i.bytes)) = some (some (.agg #[.int .i64 0, .int .i64 0, .int .i64 0, .string ⟨#[]⟩, .string ⟨#[]⟩, .int .i64 0, .int .i64 0, .string ⟨#[]⟩, .int .i64 0, .int .i64 0, .slice none 0 0]), 11, 128) := by kernel_rfl
theorem infoIntL : (Tryd.prog.info? 3).map (fun i => (i.zero, i.size, i.bytes)) = some (some (.int .i64 0), 1, 8) := by kernel_rfl
theorem infoPro : (Tryd.prog.info? 46).map (fun i => (i.zero, i.size, i.bytes)) = some (some (.agg #[.int .i64 0, .slice none 0 0]), 2, 32) := by kernel_rfl
theorem make_code (n : Nat) (hn : n ≤ 20000) (w : World) : (Instr.makeSlice 44 (.int .i64 n) (.int .i64 n)).run Tryd.prog w = .ok (.slice (some ⟨w.heap.size, 0, none⟩) n n) (w.alloc (.cells (flatI (List.replicate n zI)).toArray 51)) := by
  obtain ⟨i0, hinf, hz0, hz1, hz2⟩ := info_parts infoIns
  have := run_makeSlice (P := Tryd.prog) w 44 51 i0 (.agg #[.int .i64 0, .int .i64 0, .int .i64 0, .string ⟨#[]⟩, .string ⟨#[]⟩, .int .i64 0, .int .i64 0, .string ⟨#[]⟩, .int .i64 0, .int .i64 0, .slice none 0 0]) Tryd.underlying44 hinf hz0 .i64 .i64 n n (by omega) (Int.le_refl _) (by rw [hz1]; simp; omega) (by rw [hz2]; omega) (by omega)
  rw [hz1] at this
  rw [← made_code]
  simpa [Value.cells] using this
end
end Go.Proofs.YtdnbingddbakaaaDoor
