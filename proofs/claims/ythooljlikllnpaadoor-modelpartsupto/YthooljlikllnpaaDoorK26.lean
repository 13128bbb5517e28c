/- Chapter 7: ModelLeft: nothing is wrong with its expression; the expression in memory. Chapter 7: ModelLeft: what its loop keeps. -/
import Derived.Test.YthooljlikllnpaaDoorK25
namespace Go.Proofs.YthooljlikllnpaaDoor
section
set_option linter.unusedVariables false
set_option linter.unusedSimpArgs false
open Go.RowKit

theorem ck_num (f : Nat) (ar x : Int) (n : Nat) (hx : rangeN x = true) (hn : n ≤ 2000) : ckC (f + 1) ar (corN x) n = (0, n + 1) := by
  unfold rangeN at hx
  simp only [Bool.and_eq_true, decide_eq_true_eq] at hx
  have : ¬ 3000 < n + 1 := by omega
  simp [ckC, corN, wkids, wfields, hx, ckL, this]
theorem ck_out (f : Nat) (x : Int) (n : Nat) (hx : rangeN x = true) (hn : n ≤ 1000) : ckC (f + 2) 0 (corO x) n = (0, n + 3) := by
  have hO : argsB outB ≠ 0 := by decide +kernel
  have : ¬ 3000 < n + 1 := by omega
  have t2 : ¬ 3000 < n + 1 + 1 := by omega
  have p : ckC (f + 1) 0 (corP outB) (n + 1) = (0, n + 2) := by
    simp [ckC, corP, wkids, wfields, hO, ckL, t2]
  rw [ckC]
  simp [corO, corC, wkids, wfields, ckL, this, p, ck_num f 0 x (n + 2) hx (by omega)]
theorem ck_outs (f : Nat) : ∀ (ns : List Int) (n : Nat), (∀ x ∈ ns, rangeN x = true) → n + 3 * ns.length ≤ 1000 → ckL (ckC (f + 2) 0) (ns.map corO) n = (0, n + 3 * ns.length)
  | [], n, _, _ => rfl
  | x :: r, n, h, hn => by
    simp only [List.length_cons] at hn
    simp only [List.map_cons, ckL, ck_out f x n (h x (by simp)) (by omega), if_true]
    rw [ck_outs f r (n + 3) (fun y hy => h y (by simp [hy])) (by omega)]
    simp only [List.length_cons]
    congr 1
    omega
theorem right_left (ns : List Int) (hn : ns.length ≤ 30) (h : ∀ x ∈ ns, rangeN x = true) : wrongB [corL ns] = 0 := by
  have hA : ckC (297 + 2) 0 (corA ns.length) 1 = (0, 3) := by
    rw [ckC]
    have e1 : (0 : Int) ≤ (ns.length : Int) ∧ (ns.length : Int) ≤ 2000 := by omega
    simp [corA, wkids, wfields, ckL, e1, ck_num 297 (ns.length : Int) 0 2 rfl (by omega)]
  have e : ckC (298 + 2) 0 (corL ns) 0 = (0, 3 + 3 * ns.length) := by
    rw [ckC]
    have p := ck_outs 297 ns 3 h (by omega)
    simp [corL, wkids, wfields, ckL, hA, p]
  have e' : (ckC 300 0 (corL ns) 0).1 = 0 := congrArg Prod.fst e
  simp [wrongB, ckB, e']
/-- The cells of a node with an index. -/
def cw (k i n : Int) (own : ByteArray) (kv : Value) : Array Value := #[.int .i64 k, .int .i64 i, .int .i64 n, .string ⟨#[]⟩, .string own, .int .i64 0, .int .i64 0, .string ⟨#[]⟩, .int .i64 0, .int .i64 0, .slice none 0 0, kv]
theorem Nc.ofw {w : World} {b o : Nat} {k i n : Int} {own : ByteArray} {ka : Option Addr} {kl kc : Nat} {kids : List Cor} (h : Rw w b o (cw k i n own (.slice ka kl kc)).toList) (hk : kids.length = kl) : Nc w b o ⟨k, i, n, ⟨#[]⟩, own, dat0, kids⟩ none 0 ka kc := by
  subst hk
  exact ⟨by simpa using h 0 _ rfl, h 1 _ rfl, h 2 _ rfl, h 3 _ rfl, h 4 _ rfl, h 5 _ rfl, h 6 _ rfl, h 7 _ rfl, h 8 _ rfl, h 9 _ rfl, h 10 _ rfl, h 11 _ rfl⟩
def ocell (e : Nat × Nat) : List Value := (cv 9 0 ⟨#[]⟩ (.slice (some ⟨e.1, 0, none⟩) 2 e.2)).toList
def flatO (es : List (Nat × Nat)) : List Value := es.flatMap ocell
theorem flatO_len (es : List (Nat × Nat)) : (flatO es).length = es.length * 12 := by
  induction es with
  | nil => rfl
  | cons e r ih =>
    have : flatO (e :: r) = ocell e ++ flatO r := by simp [flatO]
    rw [this, List.length_append, ih]
    simp [ocell, cv]
    omega
theorem Rw.item {w : World} {K : Nat} : ∀ (es : List (Nat × Nat)) (o i : Nat) (e : Nat × Nat), Rw w K o (flatO es) → es[i]? = some e → Rw w K (o + i * 12) (ocell e)
  | [], o, i, e, _, h => by simp at h
  | x :: r, o, i, e, h, hi => by
    have hf : flatO (x :: r) = ocell x ++ flatO r := by simp [flatO]
    rw [hf] at h
    match i, hi with
    | 0, hi =>
      simp at hi
      subst hi
      simpa using h.left
    | i + 1, hi =>
      have := Rw.item r (o + (ocell x).length) i e h.right (by simpa using hi)
      have e2 : o + (ocell x).length + i * 12 = o + (i + 1) * 12 := by
        simp [ocell, cv]
        omega
      rw [e2] at this
      exact this
def onum (n : Int) : List Value := (cv 6 0 outB (.slice none 0 0)).toList ++ (cv 1 n ⟨#[]⟩ (.slice none 0 0)).toList
/-- The expression of ModelLeft lies in memory. -/
theorem cc_left {B : Nat} {w : World} {ns : List Int} {C K A0 kcap : Nat} {es : List (Nat × Nat)} (h1 : Rw w C 0 (cv 9 0 ⟨#[]⟩ (.slice (some ⟨K, 0, none⟩) (ns.length + 1) kcap)).toList)
    (h2 : Rw w K 0 ((cw 8 ns.length 0 ⟨#[]⟩ (.slice (some ⟨A0, 0, none⟩) 1 1)).toList ++ flatO es)) (h3 : Rw w A0 0 (cv 1 0 ⟨#[]⟩ (.slice none 0 0)).toList)
    (hl : es.length = ns.length) (hcap : ns.length + 1 ≤ kcap) (hC : C < B) (hK : K < B) (hA : A0 < B) (hns : ns.length ≤ 1000)
    (h4 : ∀ (i : Nat) (e : Nat × Nat) (n : Int), es[i]? = some e → ns[i]? = some n → 2 ≤ e.2 ∧ e.1 < B ∧ Rw w e.1 0 (onum n)) : Cc B w 3 (some ⟨C, 0, none⟩) [corL ns] := by
  have em : ByteArray.size ⟨#[]⟩ ≤ maxLen := Nat.zero_le _
  refine ⟨by simp, Or.inr ⟨C, 0, rfl, hC, fun i c hi => ?_⟩⟩
  match i, hi with
  | 0, hi =>
    simp at hi
    subst hi
    refine ⟨none, 0, some ⟨K, 0, none⟩, kcap, Nc.of (by simpa using h1) (by simp), ⟨em, em, em, Nat.le_refl _, by simpa [corL] using hcap⟩, Dc.nil _ _ _ _, ?_⟩
    refine ⟨by simp [corL]; omega, Or.inr ⟨K, 0, rfl, hK, fun i c hi => ?_⟩⟩
    match i, hi with
    | 0, hi =>
      simp [corL] at hi
      subst hi
      refine ⟨none, 0, some ⟨A0, 0, none⟩, 1, Nc.ofw (by simpa using h2.left) rfl, ⟨em, em, em, Nat.le_refl _, Nat.le_refl _⟩, Dc.nil _ _ _ _, ?_⟩
      refine ⟨by simp [corA], Or.inr ⟨A0, 0, rfl, hA, fun i c hi => ?_⟩⟩
      match i, hi with
      | 0, hi =>
        simp [corA] at hi
        subst hi
        exact ⟨none, 0, none, 0, Nc.of (by simpa using h3) rfl, ⟨em, em, em, Nat.le_refl _, Nat.le_refl _⟩, Dc.nil _ _ _ _, cc_leaf _ _⟩
      | n + 1, hi => simp [corA] at hi
    | i + 1, hi =>
      simp [corL] at hi
      obtain ⟨n, hn, rfl⟩ := hi
      have hil : i < es.length := by rw [hl]; exact (List.getElem?_eq_some_iff.1 hn).1
      have he : es[i]? = some es[i] := List.getElem?_eq_getElem hil
      obtain ⟨q1, q2, q3⟩ := h4 i _ n he hn
      have hr := Rw.item es (0 + 12) i _ (by simpa [cw] using h2.right) he
      have e2 : 0 + 12 + i * 12 = 0 + (i + 1) * 12 := by omega
      rw [e2] at hr
      refine ⟨none, 0, some ⟨es[i].1, 0, none⟩, es[i].2, Nc.of (by simpa [ocell] using hr) rfl, ⟨em, em, em, Nat.le_refl _, q1⟩, Dc.nil _ _ _ _, ?_⟩
      refine ⟨by simp [corO, corC], Or.inr ⟨es[i].1, 0, rfl, q2, fun i c hi => ?_⟩⟩
      match i, hi with
      | 0, hi =>
        simp [corO, corC] at hi
        subst hi
        exact ⟨none, 0, none, 0, Nc.of (by simpa [onum] using q3.left) rfl, ⟨em, by decide, em, Nat.le_refl _, Nat.le_refl _⟩, Dc.nil _ _ _ _, cc_leaf _ _⟩
      | 1, hi =>
        simp [corO, corC] at hi
        subst hi
        exact ⟨none, 0, none, 0, Nc.of (by simpa [onum, cv] using q3.right) rfl, ⟨em, em, em, Nat.le_refl _, Nat.le_refl _⟩, Dc.nil _ _ _ _, cc_leaf _ _⟩
      | k + 2, hi => simp [corO, corC] at hi
  | n + 1, hi => simp at hi
end
section
set_option linter.unusedVariables false
set_option linter.unusedSimpArgs false
open Go.RowKit

/-- A block that two rows do not lie in. -/
def Far (kv wv : Value) (k : Nat) (W : World) : Prop := k < W.heap.size ∧ kv.ownBlock ≠ some k ∧ wv.ownBlock ≠ some k
def rowA (len A0 : Nat) (es : List (Nat × Nat)) : List Value := (cw 8 len 0 ⟨#[]⟩ (.slice (some ⟨A0, 0, none⟩) 1 1)).toList ++ flatO es
structure LJ (b cB A0 len : Nat) (w0 : World) (ns1 ns2 : List Int) (es : List (Nat × Nat)) (kv wv : Value) (W : World) : Prop where
  below : Below b w0 W
  hb : b ≤ W.heap.size
  cb : b ≤ cB
  box : W.heap[cB]? = some (.cells (cv 9 0 ⟨#[]⟩ kv) 45 (0, 0))
  far : Far kv wv cB W
  le : es.length = ns1.length
  row : W.ownsRow b 45 12 kv (ns1.length + 1) (rowA len A0 es)
  a0 : Far kv wv A0 W
  ac : A0 ≠ cB
  ar : Rw W A0 0 (cv 1 0 ⟨#[]⟩ (.slice none 0 0)).toList
  it : ∀ (i : Nat) (e : Nat × Nat) (n : Int), es[i]? = some e → ns1[i]? = some n → 2 ≤ e.2 ∧ e.1 ≠ cB ∧ Far kv wv e.1 W ∧ Rw W e.1 0 (onum n)
  want : W.ownsRow b 9 1 wv ns2.length (ns2.map fun n => strV (Lib.itoa n))
theorem own_up {w w' : World} {B n size : Nat} {e : TypeId} {v : Value} {xs : List Value} (h : w.ownsRow B e size v n xs) (hb : Below w.heap.size w w') : w'.ownsRow B e size v n xs :=
  h.kept (row := none) ⟨hb.os, hb.tape, hb.output, hb.size, fun k hk _ => hb.block k hk⟩ (by cases v.ownBlock <;> simp)
theorem Far.up {kv wv : Value} {k : Nat} {W W' : World} (h : Far kv wv k W) (hs : W.heap.size ≤ W'.heap.size) : Far kv wv k W' := ⟨by have := h.1; omega, h.2⟩
theorem LJ.up {b cB A0 len : Nat} {w0 : World} {ns1 ns2 : List Int} {es : List (Nat × Nat)} {kv wv : Value} {W W' : World} (h : LJ b cB A0 len w0 ns1 ns2 es kv wv W) (hb : Below W.heap.size W W') : LJ b cB A0 len w0 ns1 ns2 es kv wv W' :=
  ⟨h.below.trans (hb.mono h.hb), Nat.le_trans h.hb hb.size, h.cb, (hb.block cB h.far.1).trans h.box, h.far.up hb.size, h.le, own_up h.row hb, h.a0.up hb.size, h.ac, h.ar.below hb h.a0.1, fun i e n he hn => by
    obtain ⟨g1, g2, g3, g4⟩ := h.it i e n he hn
    exact ⟨g1, g2, g3.up hb.size, g4.below hb g3.1⟩, own_up h.want hb⟩
theorem rows_apart {W : World} {b n m size size' : Nat} {kv wv : Value} {xs ys : List Value} (h1 : W.ownsRow b 45 size kv n xs) (h2 : W.ownsRow b 9 size' wv m ys) : ∀ g, kv.ownBlock = some g → wv.ownBlock ≠ some g := by
  intro g hg hg'
  obtain ⟨_, _, cs, e1⟩ := own_type h1 g hg
  obtain ⟨_, _, ds, e2⟩ := own_type h2 g hg'
  rw [e1] at e2
  simp at e2
theorem flatO_snoc (es : List (Nat × Nat)) (e : Nat × Nat) : flatO (es ++ [e]) = flatO es ++ ocell e := by simp [flatO]
/-- One expression more. -/
theorem LJ.push {b cB A0 len L cap g gcap : Nat} {n : Int} {w0 : World} {ns1 ns2 : List Int} {es : List (Nat × Nat)} {kv wv : Value} {W w5 w6 : World} (h : LJ b cB A0 len w0 ns1 ns2 es kv wv W) (hb : Below W.heap.size W w5) (hL : W.heap.size ≤ L) (hL5 : L < w5.heap.size) (hcap : 2 ≤ cap) (hr : Rw w5 L 0 (onum n))
    (hown : w6.ownsRow b 45 12 (.slice (some ⟨g, 0, none⟩) (ns1.length + 1 + 1) gcap) (ns1.length + 1 + 1) (rowA len A0 es ++ ocell (L, cap))) (hgrow : (w5.alloc (.cells (ocell (L, cap)).toArray 45)).grownBy w6 kv.ownBlock) (hat : kv.ownBlock = some g ∨ g = w5.heap.size + 1) :
    LJ b cB A0 len w0 (ns1 ++ [n]) ns2 (es ++ [(L, cap)]) (.slice (some ⟨g, 0, none⟩) (ns1.length + 1 + 1) gcap) wv (w6.setCell ⟨cB, 11, none⟩ (.slice (some ⟨g, 0, none⟩) (ns1.length + 1 + 1) gcap)) := by
  have h5 := h.up hb
  have hba : Below w5.heap.size w5 (w5.alloc (.cells (ocell (L, cap)).toArray 45)) := (Below.refl _ _).alloc (Nat.le_refl _) _
  have h6s : w5.heap.size ≤ w6.heap.size := Nat.le_trans hba.size hgrow.size
  have keep : ∀ k, k < w5.heap.size → kv.ownBlock ≠ some k → w6.heap[k]? = w5.heap[k]? := fun k hk hne => (hgrow.block k (Nat.lt_of_lt_of_le hk hba.size) (fun e => hne e.symm)).trans (hba.block k hk)
  have keep7 : ∀ k, k < w5.heap.size → kv.ownBlock ≠ some k → k ≠ cB → (w6.setCell ⟨cB, 11, none⟩ (.slice (some ⟨g, 0, none⟩) (ns1.length + 1 + 1) gcap)).heap[k]? = w5.heap[k]? := fun k hk hne hc => (Below.heap_setCell _ _ _ _ (by simpa using hc)).trans (keep k hk hne)
  have hsz : (w6.setCell ⟨cB, 11, none⟩ (.slice (some ⟨g, 0, none⟩) (ns1.length + 1 + 1) gcap)).heap.size = w6.heap.size := by simp
  have gfar : ∀ k, k < w5.heap.size → kv.ownBlock ≠ some k → g ≠ k := by
    rintro k hk hne rfl
    rcases hat with e | e
    · exact hne e
    · omega
  have hgc : g ≠ cB := gfar cB h5.far.1 h5.far.2.1
  have far7 : ∀ k, Far kv wv k w5 → Far (.slice (some ⟨g, 0, none⟩) (ns1.length + 1 + 1) gcap) wv k (w6.setCell ⟨cB, 11, none⟩ (.slice (some ⟨g, 0, none⟩) (ns1.length + 1 + 1) gcap)) := fun k hk => ⟨by rw [hsz]; have := hk.1; omega, by simpa [Value.ownBlock] using gfar k hk.1 hk.2.1, hk.2.2⟩
  have hkb : ∀ q, kv.ownBlock = some q → b ≤ q := fun q hq => (own_type h5.row q hq).1
  refine ⟨?_, by rw [hsz]; exact Nat.le_trans h5.hb h6s, h.cb, ?_, far7 cB h5.far, by simp [h.le], ?_, far7 A0 h5.a0, h.ac, h5.ar.stay (keep7 A0 h5.a0.1 h5.a0.2.1 h.ac), ?_, ?_⟩
  · have hb6 : Below b w0 w6 := by
      refine ⟨hgrow.os.trans (hba.os.trans h5.below.os), hgrow.tape.trans (hba.tape.trans h5.below.tape), hgrow.output.trans (hba.output.trans h5.below.output), Nat.le_trans h5.below.size h6s, fun k hk => ?_⟩
      have hk5 : k < w5.heap.size := Nat.lt_of_lt_of_le hk h5.hb
      exact (keep k hk5 (fun e => by have := hkb k e; omega)).trans (h5.below.block k hk)
    exact hb6.setCell (p := ⟨cB, 11, none⟩) h.cb _
  · have h6 := (keep cB h5.far.1 h5.far.2.1).trans h5.box
    exact (cell_setV h6 _).trans rfl
  · have e : rowA len A0 (es ++ [(L, cap)]) = rowA len A0 es ++ ocell (L, cap) := by simp [rowA, flatO_snoc]
    rw [e, List.length_append]
    exact hown.kept (row := some cB) ⟨rfl, rfl, rfl, by simp [World.setCell], fun k _ hk => Below.heap_setCell _ _ _ _ (fun e => hk (by simp [e]))⟩ (Or.inr (by simpa [Value.ownBlock] using hgc))
  · intro i e m he hm
    by_cases hi : i < es.length
    · rw [List.getElem?_append_left hi] at he
      rw [List.getElem?_append_left (by rw [← h.le]; exact hi)] at hm
      obtain ⟨g1, g2, g3, g4⟩ := h5.it i e m he hm
      exact ⟨g1, g2, far7 _ g3, g4.stay (keep7 _ g3.1 g3.2.1 g2)⟩
    · have hie : i = es.length := by
        have := (List.getElem?_eq_some_iff.1 he).1
        simp at this
        omega
      subst hie
      rw [List.getElem?_append_right (Nat.le_refl _)] at he
      rw [List.getElem?_append_right (by rw [h.le]; exact Nat.le_refl _), h.le] at hm
      simp at he hm
      subst he
      subst hm
      have k1 : kv.ownBlock ≠ some L := fun e => by
        have := (own_type h.row L e).2.1
        omega
      have k2 : wv.ownBlock ≠ some L := fun e => by
        have := (own_type h.want L e).2.1
        omega
      have k3 : L ≠ cB := fun e => by
        have := h.far.1
        omega
      exact ⟨hcap, k3, far7 L ⟨hL5, k1, k2⟩, hr.stay (keep7 L hL5 k1 k3)⟩
  · have hw6 : w6.ownsRow b 9 1 wv ns2.length (ns2.map fun n => strV (Lib.itoa n)) := by
      have ha := own_up h5.want hba
      refine ha.kept hgrow ?_
      cases hwv : wv.ownBlock with
      | none => exact Or.inl rfl
      | some q =>
        refine Or.inr ?_
        intro e
        exact rows_apart h5.row h5.want q e.symm hwv
    exact hw6.kept (row := some cB) ⟨rfl, rfl, rfl, by simp [World.setCell], fun k _ hk => Below.heap_setCell _ _ _ _ (fun e => hk (by simp [e]))⟩ (Or.inr h5.far.2.2)
/-- One text more that is wanted. -/
theorem LJ.pushW {b cB A0 len g gcap : Nat} {n : Int} {w0 : World} {ns1 ns2 : List Int} {es : List (Nat × Nat)} {kv wv : Value} {W w5 w6 : World} (h : LJ b cB A0 len w0 ns1 ns2 es kv wv W) (hb : Below W.heap.size W w5)
    (hown : w6.ownsRow b 9 1 (.slice (some ⟨g, 0, none⟩) (ns2.length + 1) gcap) (ns2.length + 1) ((ns2.map fun n => strV (Lib.itoa n)) ++ [strV (Lib.itoa n)])) (hgrow : (w5.alloc (.cells #[strV (Lib.itoa n)] 9)).grownBy w6 wv.ownBlock) (hat : wv.ownBlock = some g ∨ g = w5.heap.size + 1) :
    LJ b cB A0 len w0 ns1 (ns2 ++ [n]) es kv (.slice (some ⟨g, 0, none⟩) (ns2.length + 1) gcap) w6 := by
  have h5 := h.up hb
  have hba : Below w5.heap.size w5 (w5.alloc (.cells #[strV (Lib.itoa n)] 9)) := (Below.refl _ _).alloc (Nat.le_refl _) _
  have h6s : w5.heap.size ≤ w6.heap.size := Nat.le_trans hba.size hgrow.size
  have keep : ∀ k, k < w5.heap.size → wv.ownBlock ≠ some k → w6.heap[k]? = w5.heap[k]? := fun k hk hne => (hgrow.block k (Nat.lt_of_lt_of_le hk hba.size) (fun e => hne e.symm)).trans (hba.block k hk)
  have gfar : ∀ k, k < w5.heap.size → wv.ownBlock ≠ some k → g ≠ k := by
    rintro k hk hne rfl
    rcases hat with e | e
    · exact hne e
    · omega
  have far7 : ∀ k, Far kv wv k w5 → Far kv (.slice (some ⟨g, 0, none⟩) (ns2.length + 1) gcap) k w6 := fun k hk => ⟨by have := hk.1; omega, hk.2.1, by simpa [Value.ownBlock] using gfar k hk.1 hk.2.2⟩
  have hkb : ∀ q, wv.ownBlock = some q → b ≤ q := fun q hq => (own_type h5.want q hq).1
  refine ⟨?_, Nat.le_trans h5.hb h6s, h.cb, (keep cB h5.far.1 h5.far.2.2).trans h5.box, far7 cB h5.far, h.le, ?_, far7 A0 h5.a0, h.ac, h5.ar.stay (keep A0 h5.a0.1 h5.a0.2.2), ?_, ?_⟩
  · refine ⟨hgrow.os.trans (hba.os.trans h5.below.os), hgrow.tape.trans (hba.tape.trans h5.below.tape), hgrow.output.trans (hba.output.trans h5.below.output), Nat.le_trans h5.below.size h6s, fun k hk => ?_⟩
    have hk5 : k < w5.heap.size := Nat.lt_of_lt_of_le hk h5.hb
    exact (keep k hk5 (fun e => by have := hkb k e; omega)).trans (h5.below.block k hk)
  · have ha := own_up h5.row hba
    refine ha.kept hgrow ?_
    cases hkv : kv.ownBlock with
    | none => exact Or.inl rfl
    | some q => exact Or.inr fun e => rows_apart h5.row h5.want q hkv e.symm
  · intro i e m he hm
    obtain ⟨g1, g2, g3, g4⟩ := h5.it i e m he hm
    exact ⟨g1, g2, far7 _ g3, g4.stay (keep _ g3.1 g3.2.2)⟩
  · simpa [List.map_append] using hown
end
end Go.Proofs.YthooljlikllnpaaDoor
