/- Chapter 7: ModelLeft: nothing is wrong with its expression; the expression in memory. -/
import Derived.Test.YthooljlikllnpaaDoorK43
namespace Go.Proofs.YthooljlikllnpaaDoor
set_option linter.unusedVariables false
set_option linter.unusedSimpArgs false
open Go.RowKit

theorem ck_num (f : Nat) (ar x : Int) (n : Nat) (hx : rangeN x = true) (hn : n ≤ 2000) : ckC (f + 1) ar (corN x) n = (0, n + 1) := by
  unfold rangeN at hx
  simp only [Bool.and_eq_true, decide_eq_true_eq] at hx
  have : ¬ 3000 < n + 1 := by omega
  simp [ckC, corN, wkids, wfields, hx, ckL, this]
theorem ck_out (f : Nat) (x : Int) (n : Nat) (hx : rangeN x = true) (hn : n ≤ 1000) : ckC (f + 2) 0 (corO x) n = (0, n + 3) := by
  have hO : argsB outB ≠ 0 := by decide +kernel
  have : ¬ 3000 < n + 1 := by omega
  have t2 : ¬ 3000 < n + 1 + 1 := by omega
  have p : ckC (f + 1) 0 (corP outB) (n + 1) = (0, n + 2) := by
    simp [ckC, corP, wkids, wfields, hO, ckL, t2]
  rw [ckC]
  simp [corO, corC, wkids, wfields, ckL, this, p, ck_num f 0 x (n + 2) hx (by omega)]
theorem ck_outs (f : Nat) : ∀ (ns : List Int) (n : Nat), (∀ x ∈ ns, rangeN x = true) → n + 3 * ns.length ≤ 1000 → ckL (ckC (f + 2) 0) (ns.map corO) n = (0, n + 3 * ns.length)
  | [], n, _, _ => rfl
  | x :: r, n, h, hn => by
    simp only [List.length_cons] at hn
    simp only [List.map_cons, ckL, ck_out f x n (h x (by simp)) (by omega), if_true]
    rw [ck_outs f r (n + 3) (fun y hy => h y (by simp [hy])) (by omega)]
    simp only [List.length_cons]
    congr 1
    omega
theorem right_left (ns : List Int) (hn : ns.length ≤ 30) (h : ∀ x ∈ ns, rangeN x = true) : wrongB [corL ns] = 0 := by
  have hA : ckC (297 + 2) 0 (corA ns.length) 1 = (0, 3) := by
    rw [ckC]
    have e1 : (0 : Int) ≤ (ns.length : Int) ∧ (ns.length : Int) ≤ 2000 := by omega
    simp [corA, wkids, wfields, ckL, e1, ck_num 297 (ns.length : Int) 0 2 rfl (by omega)]
  have e : ckC (298 + 2) 0 (corL ns) 0 = (0, 3 + 3 * ns.length) := by
    rw [ckC]
    have p := ck_outs 297 ns 3 h (by omega)
    simp [corL, wkids, wfields, ckL, hA, p]
  have e' : (ckC 300 0 (corL ns) 0).1 = 0 := congrArg Prod.fst e
  simp [wrongB, ckB, e']
/-- The cells of a node with an index. -/
def cw (k i n : Int) (own : ByteArray) (kv : Value) : Array Value := #[.int .i64 k, .int .i64 i, .int .i64 n, .string ⟨#[]⟩, .string own, .int .i64 0, .int .i64 0, .string ⟨#[]⟩, .int .i64 0, .int .i64 0, .slice none 0 0, kv]
theorem Nc.ofw {w : World} {b o : Nat} {k i n : Int} {own : ByteArray} {ka : Option Addr} {kl kc : Nat} {kids : List Cor} (h : Rw w b o (cw k i n own (.slice ka kl kc)).toList) (hk : kids.length = kl) : Nc w b o ⟨k, i, n, ⟨#[]⟩, own, dat0, kids⟩ none 0 ka kc := by
  subst hk
  exact ⟨by simpa using h 0 _ rfl, h 1 _ rfl, h 2 _ rfl, h 3 _ rfl, h 4 _ rfl, h 5 _ rfl, h 6 _ rfl, h 7 _ rfl, h 8 _ rfl, h 9 _ rfl, h 10 _ rfl, h 11 _ rfl⟩
def ocell (e : Nat × Nat) : List Value := (cv 9 0 ⟨#[]⟩ (.slice (some ⟨e.1, 0, none⟩) 2 e.2)).toList
def flatO (es : List (Nat × Nat)) : List Value := es.flatMap ocell
theorem flatO_len (es : List (Nat × Nat)) : (flatO es).length = es.length * 12 := by
  induction es with
  | nil => rfl
  | cons e r ih =>
    have : flatO (e :: r) = ocell e ++ flatO r := by simp [flatO]
    rw [this, List.length_append, ih]
    simp [ocell, cv]
    omega
theorem Rw.item {w : World} {K : Nat} : ∀ (es : List (Nat × Nat)) (o i : Nat) (e : Nat × Nat), Rw w K o (flatO es) → es[i]? = some e → Rw w K (o + i * 12) (ocell e)
  | [], o, i, e, _, h => by simp at h
  | x :: r, o, i, e, h, hi => by
    have hf : flatO (x :: r) = ocell x ++ flatO r := by simp [flatO]
    rw [hf] at h
    match i, hi with
    | 0, hi =>
      simp at hi
      subst hi
      simpa using h.left
    | i + 1, hi =>
      have := Rw.item r (o + (ocell x).length) i e h.right (by simpa using hi)
      have e2 : o + (ocell x).length + i * 12 = o + (i + 1) * 12 := by
        simp [ocell, cv]
        omega
      rw [e2] at this
      exact this
def onum (n : Int) : List Value := (cv 6 0 outB (.slice none 0 0)).toList ++ (cv 1 n ⟨#[]⟩ (.slice none 0 0)).toList
/-- The expression of ModelLeft lies in memory. -/
theorem cc_left {B : Nat} {w : World} {ns : List Int} {C K A0 kcap : Nat} {es : List (Nat × Nat)} (h1 : Rw w C 0 (cv 9 0 ⟨#[]⟩ (.slice (some ⟨K, 0, none⟩) (ns.length + 1) kcap)).toList)
    (h2 : Rw w K 0 ((cw 8 ns.length 0 ⟨#[]⟩ (.slice (some ⟨A0, 0, none⟩) 1 1)).toList ++ flatO es)) (h3 : Rw w A0 0 (cv 1 0 ⟨#[]⟩ (.slice none 0 0)).toList)
    (hl : es.length = ns.length) (hcap : ns.length + 1 ≤ kcap) (hC : C < B) (hK : K < B) (hA : A0 < B) (hns : ns.length ≤ 1000)
    (h4 : ∀ (i : Nat) (e : Nat × Nat) (n : Int), es[i]? = some e → ns[i]? = some n → 2 ≤ e.2 ∧ e.1 < B ∧ Rw w e.1 0 (onum n)) : Cc B w 3 (some ⟨C, 0, none⟩) [corL ns] := by
  have em : ByteArray.size ⟨#[]⟩ ≤ maxLen := Nat.zero_le _
  refine ⟨by simp, Or.inr ⟨C, 0, rfl, hC, fun i c hi => ?_⟩⟩
  match i, hi with
  | 0, hi =>
    simp at hi
    subst hi
    refine ⟨none, 0, some ⟨K, 0, none⟩, kcap, Nc.of (by simpa using h1) (by simp), ⟨em, em, em, Nat.le_refl _, by simpa [corL] using hcap⟩, Dc.nil _ _ _ _, ?_⟩
    refine ⟨by simp [corL]; omega, Or.inr ⟨K, 0, rfl, hK, fun i c hi => ?_⟩⟩
    match i, hi with
    | 0, hi =>
      simp [corL] at hi
      subst hi
      refine ⟨none, 0, some ⟨A0, 0, none⟩, 1, Nc.ofw (by simpa using h2.left) rfl, ⟨em, em, em, Nat.le_refl _, Nat.le_refl _⟩, Dc.nil _ _ _ _, ?_⟩
      refine ⟨by simp [corA], Or.inr ⟨A0, 0, rfl, hA, fun i c hi => ?_⟩⟩
      match i, hi with
      | 0, hi =>
        simp [corA] at hi
        subst hi
        exact ⟨none, 0, none, 0, Nc.of (by simpa using h3) rfl, ⟨em, em, em, Nat.le_refl _, Nat.le_refl _⟩, Dc.nil _ _ _ _, cc_leaf _ _⟩
      | n + 1, hi => simp [corA] at hi
    | i + 1, hi =>
      simp [corL] at hi
      obtain ⟨n, hn, rfl⟩ := hi
      have hil : i < es.length := by rw [hl]; exact (List.getElem?_eq_some_iff.1 hn).1
      have he : es[i]? = some es[i] := List.getElem?_eq_getElem hil
      obtain ⟨q1, q2, q3⟩ := h4 i _ n he hn
      have hr := Rw.item es (0 + 12) i _ (by simpa [cw] using h2.right) he
      have e2 : 0 + 12 + i * 12 = 0 + (i + 1) * 12 := by omega
      rw [e2] at hr
      refine ⟨none, 0, some ⟨es[i].1, 0, none⟩, es[i].2, Nc.of (by simpa [ocell] using hr) rfl, ⟨em, em, em, Nat.le_refl _, q1⟩, Dc.nil _ _ _ _, ?_⟩
      refine ⟨by simp [corO, corC], Or.inr ⟨es[i].1, 0, rfl, q2, fun i c hi => ?_⟩⟩
      match i, hi with
      | 0, hi =>
        simp [corO, corC] at hi
        subst hi
        exact ⟨none, 0, none, 0, Nc.of (by simpa [onum] using q3.left) rfl, ⟨em, by decide, em, Nat.le_refl _, Nat.le_refl _⟩, Dc.nil _ _ _ _, cc_leaf _ _⟩
      | 1, hi =>
        simp [corO, corC] at hi
        subst hi
        exact ⟨none, 0, none, 0, Nc.of (by simpa [onum, cv] using q3.right) rfl, ⟨em, em, em, Nat.le_refl _, Nat.le_refl _⟩, Dc.nil _ _ _ _, cc_leaf _ _⟩
      | k + 2, hi => simp [corO, corC] at hi
  | n + 1, hi => simp at hi
end Go.Proofs.YthooljlikllnpaaDoor
