/- Chapter 9, the document's side: procedures, what is known of them, in memory. -/
import Derived.Test.YtdnbingddbakaaaDoorK37
import Derived.Test.YtdnbingddbakaaaDoorK43
import Derived.Test.YtdnbingddbakaaaDoorK45
import Derived.Test.YtdnbingddbakaaaDoorK27
namespace Go.Proofs.YtdnbingddbakaaaDoor
set_option linter.unusedVariables false
set_option linter.unusedSimpArgs false
open Go.RowKit

theorem insW_own {PP : List Pro} {gn : Int} {q len : Nat} {x : In} {K : Kn} (h : x.op ≠ 7) : insW PP (glN gn) q len x K = (ownW (aro K q) len gn x, K) := by
  unfold insW ownW
  repeat' split
  all_goals first | rfl | (exfalso; omega) | omega
theorem insW_close {PP : List Pro} {gl : In → Int} {q len : Nat} {x : In} {K : Kn} (h : x.op = 7) : insW PP gl q len x K = closeW PP q x.a K := by
  unfold insW
  rw [if_neg (by omega), if_neg (by omega), if_neg (by omega), if_neg (by omega), if_neg (by omega), if_neg (by omega), if_pos h]
theorem insW_in {PP : List Pro} {gl : In → Int} {q len : Nat} {x : In} {K : Kn} (h : (insW PP gl q len x K).1 = 0) : InOk len x ∧ (x.op = 8 → x.a ≤ 2000) := by
  by_cases h8 : x.op = 8
  · unfold insW at h
    rw [if_neg (by omega), if_neg (by omega), if_neg (by omega), if_neg (by omega), if_neg (by omega), if_neg (by omega), if_neg (by omega), if_pos h8] at h
    have : 0 ≤ x.a ∧ x.a ≤ 2000 := by
      by_cases c : 0 ≤ x.a ∧ x.a ≤ 2000
      · exact c
      · rw [if_neg c] at h; simp at h
    exact ⟨⟨by omega, by omega, fun c => by omega, fun _ => this.1⟩, fun _ => this.2⟩
  by_cases h9 : x.op = 9 ∨ x.op = 10
  · unfold insW at h
    rw [if_neg (by omega), if_neg (by omega), if_neg (by omega), if_neg (by omega), if_neg (by omega), if_neg (by omega), if_neg (by omega), if_neg h8, if_pos h9] at h
    have : 0 ≤ x.a ∧ x.a < (len : Int) := by
      by_cases c : 0 ≤ x.a ∧ x.a < (len : Int)
      · exact c
      · rw [if_neg c] at h; simp at h
    exact ⟨⟨by omega, by omega, fun _ => this, fun c => absurd c h8⟩, fun c => absurd c h8⟩
  · have hr : 1 ≤ x.op ∧ x.op ≤ 15 := by
      by_cases c : 1 ≤ x.op ∧ x.op ≤ 15
      · exact c
      · unfold insW at h
        rw [if_neg (by omega), if_neg (by omega), if_neg (by omega), if_neg (by omega), if_neg (by omega), if_neg (by omega), if_neg (by omega), if_neg h8, if_neg h9, if_neg (by omega)] at h
        simp at h
    exact ⟨⟨hr.1, hr.2, fun c => absurd c h9, fun c => absurd c h8⟩, fun c => absurd c h8⟩
theorem codeW_in {PP : List Pro} {gl : In → Int} {q len : Nat} {c : List In} {K : Kn} (h : (codeW PP gl q len c K).1 = 0) : ∀ x ∈ c, InOk len x ∧ (x.op = 8 → x.a ≤ 2000) := fun x hx => by
  obtain ⟨K', h'⟩ := codeW_ins c K h x hx
  exact insW_in h'
/-- How many are around, by number. -/
def aroG (K : Kn) (i : Int) : Option Int := if 0 ≤ i then (K.getD i.toNat none).map (·.2) else none
def bodG (K : Kn) (i : Int) : Bool := if 0 ≤ i then (match K.getD i.toNat none with | some s => s.1 | none => false) else false
theorem aroG_at {K : Kn} {q : Nat} {s : Bool × Int} (h : K[q]? = some (some s)) : aroG K (q : Int) = some s.2 := by
  unfold aroG
  rw [if_pos (by omega), Int.toNat_natCast, List.getD_eq_getElem?_getD, h]
  rfl
theorem aroG_no {K : Kn} {q : Nat} (h : K[q]? = some none) : aroG K (q : Int) = none := by
  unfold aroG
  rw [if_pos (by omega), Int.toNat_natCast, List.getD_eq_getElem?_getD, h]
  rfl
theorem bodG_at {K : Kn} {q : Nat} {s : Bool × Int} (h : K[q]? = some (some s)) : bodG K (q : Int) = s.1 := by
  unfold bodG
  rw [if_pos (by omega), Int.toNat_natCast, List.getD_eq_getElem?_getD, h]
  rfl
theorem aroG_set {K : Kn} {k : Nat} (hk : k < K.length) (s : Bool × Int) (i : Int) : aroG (K.set k (some s)) i = if i = (k : Int) then some s.2 else aroG K i := by
  unfold aroG
  by_cases h0 : 0 ≤ i
  · rw [if_pos h0, if_pos h0]
    by_cases e : i = (k : Int)
    · subst e
      rw [if_pos rfl, Int.toNat_natCast, List.getD_eq_getElem?_getD, List.getElem?_set_self hk]
      rfl
    · rw [if_neg e, List.getD_eq_getElem?_getD, List.getD_eq_getElem?_getD, List.getElem?_set_ne (by omega)]
  · rw [if_neg h0, if_neg h0, if_neg (by omega)]
theorem bodG_set {K : Kn} {k : Nat} (hk : k < K.length) (s : Bool × Int) (i : Int) : bodG (K.set k (some s)) i = if i = (k : Int) then s.1 else bodG K i := by
  unfold bodG
  by_cases h0 : 0 ≤ i
  · rw [if_pos h0, if_pos h0]
    by_cases e : i = (k : Int)
    · subst e
      rw [if_pos rfl, Int.toNat_natCast, List.getD_eq_getElem?_getD, List.getElem?_set_self hk]
      rfl
    · rw [if_neg e, List.getD_eq_getElem?_getD, List.getD_eq_getElem?_getD, List.getElem?_set_ne (by omega)]
  · rw [if_neg h0, if_neg h0, if_neg (by omega)]
theorem bodG_new {K : Kn} {k : Nat} (hk : K[k]? = some none) (a : Int) (i : Int) : bodG (K.set k (some (false, a))) i = bodG K i := by
  rw [bodG_set (List.getElem?_eq_some_iff.1 hk).1]
  by_cases e : i = (k : Int)
  · subst e
    rw [if_pos rfl]
    unfold bodG
    rw [if_pos (by omega), Int.toNat_natCast, List.getD_eq_getElem?_getD, hk]
    rfl
  · rw [if_neg e]
/-- WHAT IS KNOWN OF PROCEDURES, in two maps. -/
structure PK (w : World) (A T na : Nat) (K : Kn) (W : World) : Prop where
  a : MapA A na (aroG K) W
  t : MapT T na (bodG K) W
  ne : A ≠ T
  ha : w.heap.size ≤ A
  ht : w.heap.size ≤ T
  bl : Below w.heap.size w W
theorem PK.on {w W W' : World} {A T na K} (h : PK w A T na K W) (hb : Below W.heap.size W W') : PK w A T na K W' :=
  ⟨h.a.kept (hb.block _ h.a.lt), h.t.kept (hb.block _ h.t.lt), h.ne, h.ha, h.ht, h.bl.trans (hb.mono h.bl.size)⟩
theorem MapA.more {b n m : Nat} {g : Int → Option Int} {w : World} (h : MapA b n g w) (hm : n ≤ m) : MapA b m g w := by
  obtain ⟨D, ⟨es, clock, hb, F, hs, hD⟩, h2, h3⟩ := h
  exact ⟨D, ⟨es, clock, hb, F, Nat.le_trans hs hm, hD⟩, h2, h3⟩
theorem MapT.more {b n m : Nat} {g : Int → Bool} {w : World} (h : MapT b n g w) (hm : n ≤ m) : MapT b m g w := by
  obtain ⟨D, ⟨es, clock, hb, F, hs, hD⟩, h2, h3⟩ := h
  exact ⟨D, ⟨es, clock, hb, F, Nat.le_trans hs hm, hD⟩, h2, h3⟩
theorem MapT.congr {b n : Nat} {g g' : Int → Bool} {w : World} (h : MapT b n g w) (e : ∀ s, g' s = g s) : MapT b n g' w := by
  obtain rfl : g' = g := funext e
  exact h
theorem PK.more {w W : World} {A T n m K} (h : PK w A T n K W) (hm : n ≤ m) : PK w A T m K W := ⟨h.a.more hm, h.t.more hm, h.ne, h.ha, h.ht, h.bl⟩
/-- A body becomes known. -/
theorem PK.body {w W : World} {A T na K} (h : PK w A T na K W) (hn : na < 1000000000) {k : Nat} (hk : k < K.length) (hk2 : k ≤ 1000000) :
    ∃ W1 W2, (Instr.mapUpdate 82 (.map (some A)) (.int .i64 (k : Int)) (.int .i64 0)).run Tryd.prog W = .ok () W1 ∧ (Instr.mapUpdate 83 (.map (some T)) (.int .i64 (k : Int)) (.bool true)).run Tryd.prog W1 = .ok () W2 ∧ PK w A T (na + 1) (K.set k (some (true, 0))) W2 := by
  obtain ⟨W1, r1, m1, g1⟩ := h.a.put (by unfold maxLen; omega) (k : Int) (by omega) 0 (by omega)
  have t1 := h.t.kept (w' := W1) (g1.block _ h.t.lt (by simpa using h.ne.symm))
  obtain ⟨W2, r2, m2, g2⟩ := t1.put (by unfold maxLen; omega) (k : Int) (by omega) true
  refine ⟨W1, W2, r1, r2, ⟨(m1.kept (g2.block _ m1.lt (by simpa using h.ne))).congr (fun i => aroG_set hk _ i), m2.congr (fun i => bodG_set hk _ i), h.ne, h.ha, h.ht, ?_⟩⟩
  have b1 := h.bl.trans ((Below.refl w.heap.size W).grown g1 h.bl.size (fun k hk => by simp at hk; rw [← hk]; exact h.ha))
  exact b1.trans ((Below.refl w.heap.size W1).grown g2 b1.size (fun k hk => by simp at hk; rw [← hk]; exact h.ht))
/-- A procedure becomes known. -/
theorem PK.close {w W : World} {A T na K} (h : PK w A T na K W) (hn : na < 1000000000) {k : Nat} (hk : K[k]? = some none) (hk2 : k ≤ 1000000) (a : Int) (ha : 0 ≤ a ∧ a ≤ 1000000000) :
    ∃ W1, (Instr.mapUpdate 82 (.map (some A)) (.int .i64 (k : Int)) (.int .i64 a)).run Tryd.prog W = .ok () W1 ∧ PK w A T (na + 1) (K.set k (some (false, a))) W1 ∧ W.grownBy W1 (some A) := by
  obtain ⟨W1, r1, m1, g1⟩ := h.a.put (by unfold maxLen; omega) (k : Int) (by omega) a ha
  refine ⟨W1, r1, ⟨m1.congr (fun i => aroG_set (List.getElem?_eq_some_iff.1 hk).1 _ i), ((h.t.kept (w' := W1) (g1.block _ h.t.lt (by simpa using h.ne.symm))).more (Nat.le_succ _)).congr (fun i => bodG_new hk a i), h.ne, h.ha, h.ht, ?_⟩, g1⟩
  exact h.bl.trans ((Below.refl w.heap.size W).grown g1 h.bl.size (fun k hk => by simp at hk; rw [← hk]; exact h.ha))
theorem PK.start {w W : World} (n : Nat) (hb : Below w.heap.size w W) : PK w W.heap.size (W.heap.size + 1) 0 (List.replicate n none) ((W.alloc (.map #[] 0)).alloc (.map #[] 0)) := by
  have b1 := (Below.refl W.heap.size W).alloc (Nat.le_refl _) (.map #[] 0)
  have b2 := (Below.refl (W.alloc (.map #[] 0)).heap.size (W.alloc (.map #[] 0))).alloc (Nat.le_refl _) (.map #[] 0)
  have m1 := MapA.made W
  have m2 := MapT.made (W.alloc (.map #[] 0))
  have e : (W.alloc (.map #[] 0)).heap.size = W.heap.size + 1 := by simp
  rw [e] at m2
  refine ⟨(m1.kept (b2.block _ m1.lt)).congr (fun i => ?_), m2.congr (fun i => ?_), by omega, hb.size, Nat.le_trans hb.size (Nat.le_succ _), (hb.trans (b1.mono hb.size)).trans (b2.mono (Nat.le_trans hb.size b1.size))⟩
  · unfold aroG
    split
    · rw [List.getD_eq_getElem?_getD, List.getElem?_replicate]
      split <;> rfl
    · rfl
  · unfold bodG
    have e2 : (List.replicate n (none : Option (Bool × Int))).getD i.toNat none = none := by
      rw [List.getD_eq_getElem?_getD, List.getElem?_replicate]
      split <;> rfl
    rw [e2]
    split <;> rfl
theorem KB.body {K : Kn} (h : KB K) (k : Nat) : KB (K.set k (some (true, 0))) := by
  intro q s hs
  by_cases e : k = q
  · subst e
    by_cases hl : k < K.length
    · rw [List.getElem?_set_self hl] at hs
      simp at hs
      rw [← hs]
      exact ⟨Int.le_refl _, by simp; omega⟩
    · rw [List.getElem?_eq_none (by simp; omega)] at hs; simp at hs
  · rw [List.getElem?_set_ne e] at hs
    exact h q s hs
end Go.Proofs.YtdnbingddbakaaaDoor
