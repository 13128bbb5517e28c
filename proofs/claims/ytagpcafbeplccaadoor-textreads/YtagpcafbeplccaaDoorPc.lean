/- What is written is read: plain. -/
import Derived.Test.YtagpcafbeplccaaDoorPb
import Derived.Test.YtagpcafbeplccaaDoorFc
import Derived.Lib.ItoaLen
namespace Go.Proofs.YtagpcafbeplccaaDoor
set_option linter.unusedVariables false
set_option linter.unusedSimpArgs false
open Go

/-- What kinds have. -/
def bare : Nat → Dat → Dat
  | 0, d => d
  | f + 1, d => if d.kind = 1 then datNum d.n else if d.kind = 2 then datBool d.n else if d.kind = 3 then datSym d.name.data.toList else datList (d.kids.map (bare f))

theorem digN_snoc (l : List UInt8) (c : UInt8) : digN (l ++ [c]) = 10 * digN l + (c.toNat - 48) := by
  unfold digN
  rw [List.foldl_append]
  rfl

theorem dig_byte {k : Nat} (h : k < 10) : (UInt8.ofNat (48 + k)).toNat = 48 + k := by
  simp [UInt8.toNat_ofNat']
  omega

theorem dec_facts (u : Nat) : digN (Lib.decDigits u) = u ∧ allDig (Lib.decDigits u) = true ∧ Lib.decDigits u ≠ [] := by
  induction u using Nat.strongRecOn with
  | _ u ih =>
    by_cases h : u < 10
    · rw [Lib.decDigits, dif_pos h]
      refine ⟨?_, ?_, by simp⟩
      · simp only [digN, List.foldl_cons, List.foldl_nil, dig_byte h]
        omega
      · simp only [allDig, List.all_cons, List.all_nil, dig_byte h, digB]
        simp
        omega
    · rw [Lib.decDigits, dif_neg h]
      obtain ⟨h1, h2, h3⟩ := ih (u / 10) (by omega)
      have hm : u % 10 < 10 := Nat.mod_lt _ (by omega)
      refine ⟨?_, ?_, by simp⟩
      · rw [digN_snoc, h1, dig_byte hm]
        omega
      · unfold allDig at h2 ⊢
        rw [List.all_append, h2]
        simp only [List.all_cons, List.all_nil, dig_byte hm, digB]
        simp
        omega

theorem nDigits_le : ∀ (k u : Nat), 1 ≤ k → u < 10 ^ k → Lib.nDigits u ≤ k
  | 0, u, h, _ => by omega
  | k + 1, u, _, h => by
    by_cases hu : u < 10
    · rw [Lib.nDigits_small hu]; omega
    · rw [Lib.nDigits_big hu]
      have hk : 1 ≤ k := by
        cases k with
        | zero => simp at h; omega
        | succ k => omega
      have := nDigits_le k (u / 10) hk (by rw [Nat.pow_succ] at h; omega)
      omega

theorem dig_let {c : UInt8} (h : digB (c.toNat : Int) = true) : letB (c.toNat : Int) = true := by
  have h1 : 48 ≤ c.toNat ∧ c.toNat ≤ 57 := by
    unfold digB at h
    simp at h
    omega
  have : ∀ k : Fin 58, 48 ≤ k.val → letB (k.val : Int) = true := by decide
  exact this ⟨c.toNat, by omega⟩ h1.1

theorem dig_lets {l : List UInt8} (h : allDig l = true) : allLet l = true := by
  unfold allDig at h
  unfold allLet
  rw [List.all_eq_true] at h ⊢
  intro x hx
  exact dig_let (h x hx)

theorem dig_head {l : List UInt8} (h : allDig l = true) : l.head? ≠ some 45 := by
  intro e
  cases l with
  | nil => simp at e
  | cons c r =>
    simp at e
    subst e
    simp [allDig, digB] at h

theorem byteL_all {l : List UInt8} (h : allLet l = true) {q : List UInt8} (hq : Nolet q) : byteL (l ++ q) = l := by
  rw [byteL_app hq]
  induction l with
  | nil => rfl
  | cons c r ih =>
    unfold allLet at h
    simp at h
    rw [byteL_cons, h.1, if_pos rfl, ih]
    unfold allLet
    simpa using h.2

theorem itoa_facts (n : Int) (h0 : -1000000000000000 ≤ n) (h1 : n ≤ 1000000000000000) :
    looksB (Lib.itoa n) = true ∧ (Lib.itoa n).length ≤ 17 ∧ numOf (Lib.itoa n) = n ∧ allLet (Lib.itoa n) = true ∧ Lib.itoa n ≠ [] := by
  unfold Lib.itoa
  by_cases hn : n < 0
  · rw [if_pos hn]
    obtain ⟨d1, d2, d3⟩ := dec_facts n.natAbs
    have hl : (Lib.decDigits n.natAbs).length ≤ 16 := by
      rw [Lib.decDigits_length]
      exact nDigits_le 16 _ (by omega) (by omega)
    refine ⟨?_, by simp; omega, ?_, ?_, by simp⟩
    · unfold looksB unsign
      rw [if_pos (by rfl)]
      simp only [List.tail_cons, d2, Bool.true_and]
      cases e : Lib.decDigits n.natAbs with
      | nil => exact absurd e d3
      | cons _ _ => rfl
    · unfold numOf
      rw [if_pos (by rfl)]
      simp only [List.tail_cons, d1]
      omega
    · have := dig_lets d2
      unfold allLet at this ⊢
      rw [List.all_cons, this]
      decide
  · rw [if_neg hn]
    obtain ⟨d1, d2, d3⟩ := dec_facts n.toNat
    have hl : (Lib.decDigits n.toNat).length ≤ 16 := by
      rw [Lib.decDigits_length]
      exact nDigits_le 16 _ (by omega) (by omega)
    have hh := dig_head d2
    refine ⟨?_, by omega, ?_, dig_lets d2, d3⟩
    · unfold looksB unsign
      rw [if_neg hh, d2, Bool.true_and]
      cases e : Lib.decDigits n.toNat with
      | nil => exact absurd e d3
      | cons _ _ => rfl
    · unfold numOf
      rw [if_neg hh, d1]
      omega

theorem at_of_drop {L : List UInt8} {i : Nat} {c : UInt8} {r : List UInt8} (h : L.drop i = c :: r) : L[i]? = some c ∧ L.drop (i + 1) = r ∧ i < L.length := by
  have h1 : (L.drop i)[0]? = some c := by rw [h]; rfl
  rw [List.getElem?_drop] at h1
  have h2 : (L.drop i).drop 1 = r := by rw [h]; rfl
  rw [List.drop_drop] at h2
  refine ⟨h1, h2, ?_⟩
  exact (List.getElem?_eq_some_iff.1 h1).1

theorem let_not {c : UInt8} (h : letB (c.toNat : Int) = true) : c ≠ 40 ∧ c ≠ 39 ∧ c ≠ 35 ∧ c ≠ 59 ∧ c ≠ 41 ∧ isBlank c = false := by
  refine ⟨?_, ?_, ?_, ?_, ?_, ?_⟩
  · rintro rfl; exact absurd h (by decide)
  · rintro rfl; exact absurd h (by decide)
  · rintro rfl; exact absurd h (by decide)
  · rintro rfl; exact absurd h (by decide)
  · rintro rfl; exact absurd h (by decide)
  · cases hb : isBlank c with
    | false => rfl
    | true =>
      unfold isBlank at hb
      simp at hb
      rcases hb with (rfl | rfl) | rfl <;> exact absurd h (by decide)

/-- A word that is written is read. -/
theorem word_write {L : List UInt8} {i n f : Nat} {w q : List UInt8} (hL : L.drop i = w ++ q) (hq : Nolet q) (hw : allLet w = true) (h0 : w ≠ []) (hn : n + 1 ≤ 2000) : one L (f + 1) i n = wordAt w i (n + 1) := by
  cases w with
  | nil => exact absurd rfl h0
  | cons c r =>
    obtain ⟨h1, h2, h3⟩ := at_of_drop (show L.drop i = c :: (r ++ q) from hL)
    have hc : letB (c.toNat : Int) = true := by
      unfold allLet at hw
      simp at hw
      exact hw.1
    obtain ⟨n1, n2, n3, _⟩ := let_not hc
    unfold one
    rw [if_neg (by omega), h1]
    simp only
    rw [if_neg n1, if_neg n2, if_neg n3, if_pos hc, hL, byteL_all hw hq]

/-- How a datum's text begins. -/
theorem txt_head {f : Nat} {d : Dat} {n : Nat} (h : (chk f d n).1 = 0) : ∃ c r, txt f d = c :: r ∧ isBlank c = false ∧ c ≠ 59 ∧ c ≠ 41 := by
  cases f with
  | zero => simp [chk] at h
  | succ f =>
    obtain ⟨h1, h2, h3, h4⟩ := chk_parts h
    rcases alone_kind h2 with k | k | k | k
    · rw [txt_num k]
      have hr := alone_range h2 k
      obtain ⟨_, _, _, a4, a5⟩ := itoa_facts d.n hr.1 hr.2
      cases e : Lib.itoa d.n with
      | nil => exact absurd e a5
      | cons c r =>
        rw [e] at a4
        unfold allLet at a4
        simp at a4
        obtain ⟨_, _, _, n4, n5, n6⟩ := let_not a4.1
        exact ⟨c, r, rfl, n6, n4, n5⟩
    · rw [txt_bool k]
      split
      · exact ⟨35, [116], rfl, by decide, by decide, by decide⟩
      · exact ⟨35, [102], rfl, by decide, by decide, by decide⟩
    · rw [txt_sym k]
      have hn := alone_name h2 k
      unfold namedB at hn
      simp at hn
      obtain ⟨⟨⟨a1, a2⟩, a3⟩, a4⟩ := hn
      cases e : d.name.data.toList with
      | nil =>
        have : d.name.data.toList.length = d.name.size := Array.length_toList
        rw [e] at this
        simp at this
        omega
      | cons c r =>
        have a3' : allLet (c :: r) = true := by rw [← e]; simpa using a3
        unfold allLet at a3'
        simp at a3'
        obtain ⟨_, _, _, n4, n5, n6⟩ := let_not a3'.1
        exact ⟨c, r, rfl, n6, n4, n5⟩
    · rw [txt_list k]
      exact ⟨40, _, rfl, by decide, by decide, by decide⟩

theorem spaced_cons (f : Nat) (d : Dat) (r : List Dat) : spaced f (d :: r) = 32 :: (txt f d ++ spaced f r) := by
  simp [spaced]

theorem nolet_tail (f : Nat) (r : List Dat) (q : List UInt8) : Nolet (spaced f r ++ 41 :: q) := by
  cases r with
  | nil => exact Or.inr ⟨41, q, rfl, by decide⟩
  | cons d r => rw [spaced_cons]; exact Or.inr ⟨32, _, rfl, by decide⟩

theorem skip_none {L : List UInt8} {i : Nat} {c : UInt8} {r : List UInt8} (h : L.drop i = c :: r) (hb : isBlank c = false) (h59 : c ≠ 59) : skipL (L.drop i) false = 0 := skip_stop (at_of_drop h).1 hb h59

/-- Kids that are written are read. -/
theorem items_write (L q : List UInt8) (f : Nat) (ih : ∀ (d : Dat) (n m i : Nat) (q : List UInt8), chk f d n = (0, m) → L.drop i = txt f d ++ q → Nolet q → one L f i n = .inr (bare f d, L.length - q.length, m)) :
    ∀ (ks : List Dat) (k i n m : Nat), ks.length < k → chkL (chk f) ks n = (0, m) →
      (match ks with | [] => L.drop i = 41 :: q | d :: r => L.drop (i + skipL (L.drop i) false) = txt f d ++ (spaced f r ++ 41 :: q)) →
      items (one L f) L k i n = .inr (ks.map (bare f), L.length - q.length, m)
  | ks, 0, i, n, m, hk, hc, hL => by omega
  | [], k + 1, i, n, m, hk, hc, hL => by
    simp only at hL
    simp [chkL] at hc
    subst hc
    obtain ⟨h1, h2, h3⟩ := at_of_drop hL
    unfold items
    simp only
    rw [skip_none hL (by decide) (by decide), Nat.add_zero, h1]
    simp only
    rw [if_pos trivial]
    have : (L.drop i).length = (41 :: q).length := by rw [hL]
    simp at this
    simp
    omega
  | d :: r, k + 1, i, n, m, hk, hc, hL => by
    simp only at hL
    unfold chkL at hc
    by_cases e : (chk f d n).1 = 0
    · rw [if_pos e] at hc
      obtain ⟨c, t, ht, t1, t2, t3⟩ := txt_head e
      unfold items
      simp only
      have hL2 := hL
      rw [ht] at hL2
      obtain ⟨a1, a2, a3⟩ := at_of_drop (show L.drop (i + skipL (L.drop i) false) = c :: (t ++ (spaced f r ++ 41 :: q)) from hL2)
      generalize i + skipL (L.drop i) false = p at *
      rw [a1]
      simp only
      rw [if_neg t3]
      have ho := ih d n (chk f d n).2 p (spaced f r ++ 41 :: q) (by rw [← e]) hL (nolet_tail f r q)
      rw [ho]
      simp only
      have hlen : (L.drop p).length = (txt f d ++ (spaced f r ++ 41 :: q)).length := by rw [hL]
      have hpos : L.length - (spaced f r ++ 41 :: q).length = p + (txt f d).length := by
        simp at hlen ⊢
        omega
      have hrest : L.drop (L.length - (spaced f r ++ 41 :: q).length) = spaced f r ++ 41 :: q := by
        rw [hpos, ← List.drop_drop, hL]
        simp
      generalize L.length - (spaced f r ++ 41 :: q).length = j at *
      have hi := items_write L q f ih r k j (chk f d n).2 m (by simp at hk; omega) hc ?_
      · rw [hi]
        rfl
      · cases r with
        | nil => exact hrest
        | cons d2 r2 =>
          simp only
          rw [spaced_cons] at hrest
          have hc2 : (chk f d2 (chk f d n).2).1 = 0 := by
            unfold chkL at hc
            by_cases e2 : (chk f d2 (chk f d n).2).1 = 0
            · exact e2
            · rw [if_neg e2] at hc
              rw [hc] at e2
              exact absurd rfl e2
          obtain ⟨c2, u, hu, u1, u2, u3⟩ := txt_head hc2
          obtain ⟨b1, b2, b3⟩ := at_of_drop (show L.drop j = 32 :: (txt f d2 ++ spaced f r2 ++ 41 :: q) from hrest)
          have hs1 := skip_blank b1 (by decide)
          have hs2 : skipL (L.drop (j + 1)) false = 0 := skip_none (c := c2) (r := u ++ spaced f r2 ++ 41 :: q) (by rw [b2, hu]; rfl) u1 u2
          rw [hs1, hs2, Nat.add_zero, b2]
          simp
    · rw [if_neg e] at hc
      rw [hc] at e
      exact absurd rfl e

/-- A DATUM THAT IS WRITTEN IS READ. -/
theorem one_write (L : List UInt8) : ∀ (f : Nat) (d : Dat) (n m i : Nat) (q : List UInt8), chk f d n = (0, m) → L.drop i = txt f d ++ q → Nolet q → one L f i n = .inr (bare f d, L.length - q.length, m)
  | 0, d, n, m, i, q, h, _, _ => by simp [chk] at h
  | f + 1, d, n, m, i, q, h, hL, hq => by
    have h' : (chk (f + 1) d n).1 = 0 := by rw [h]
    obtain ⟨h1, h2, h3, h4⟩ := chk_parts h'
    rw [h] at h4
    have hne : i < L.length := by
      obtain ⟨c, r, hc, _⟩ := txt_head h'
      rw [hc] at hL
      exact (at_of_drop (show L.drop i = c :: (r ++ q) from hL)).2.2
    have hlen : (L.drop i).length = (txt (f + 1) d ++ q).length := by rw [hL]
    rw [List.length_drop, List.length_append] at hlen
    have hpos : L.length - q.length = i + (txt (f + 1) d).length := by omega
    rw [hpos]
    rcases alone_kind h2 with k | k | k | k
    · rw [txt_num k] at hL ⊢
      rw [if_neg (by omega)] at h4
      simp only at h4
      subst h4
      have hr := alone_range h2 k
      obtain ⟨a1, a2, a3, a4, a5⟩ := itoa_facts d.n hr.1 hr.2
      rw [word_write hL hq a4 a5 h1]
      unfold wordAt bare
      rw [if_pos a1, if_neg (by omega), a3, if_pos k, if_pos]
      unfold rangeB
      simp
      omega
    · rw [txt_bool k] at hL ⊢
      rw [if_neg (by omega)] at h4
      simp only at h4
      subst h4
      have hb : d.n = 0 ∨ d.n = 1 := by
        rw [alone_bool k] at h2
        by_cases hx : d.n = 0 ∨ d.n = 1
        · exact hx
        · rw [if_neg hx] at h2; simp at h2
      unfold one bare
      rw [if_neg (by omega), if_neg (c := d.kind = 1) (by omega), if_pos k]
      by_cases hx : d.n = 1
      · rw [if_pos hx] at hL ⊢
        obtain ⟨b1, b2, b3⟩ := at_of_drop (show L.drop i = 35 :: (116 :: q) from hL)
        rw [b1]
        simp only
        rw [if_neg (by decide), if_neg (by decide), if_pos trivial, b2, show byteL (116 :: q) = [116] from byteL_all (l := [116]) (by decide) hq, if_pos rfl, hx]
        rfl
      · rw [if_neg hx] at hL ⊢
        have hx0 : d.n = 0 := by omega
        obtain ⟨b1, b2, b3⟩ := at_of_drop (show L.drop i = 35 :: (102 :: q) from hL)
        rw [b1]
        simp only
        rw [if_neg (by decide), if_neg (by decide), if_pos trivial, b2, show byteL (102 :: q) = [102] from byteL_all (l := [102]) (by decide) hq, if_neg (by decide), if_pos rfl, hx0]
        rfl
    · rw [txt_sym k] at hL ⊢
      rw [if_neg (by omega)] at h4
      simp only at h4
      subst h4
      have hn := alone_name h2 k
      unfold namedB at hn
      simp at hn
      obtain ⟨⟨⟨a1, a2⟩, a3⟩, a4⟩ := hn
      have hsz : d.name.data.toList.length = d.name.size := Array.length_toList
      have a0 : d.name.data.toList ≠ [] := by
        intro e
        rw [e] at hsz
        simp at hsz
        omega
      rw [word_write hL hq (by simpa using a3) a0 h1]
      unfold wordAt bare
      rw [if_neg (by simpa using a4), if_neg (by omega), if_neg (by omega), if_neg (by omega), if_pos k]
    · rw [txt_list k] at hL ⊢
      rw [if_pos k] at h4
      simp only at h4
      have h5 := h3 k
      have hch : chkL (chk f) d.kids (n + 1) = (0, m) := by rw [← h5, h4]
      obtain ⟨b1, b2, b3⟩ := at_of_drop (show L.drop i = 40 :: (((spaced f d.kids).drop 1 ++ [41]) ++ q) from hL)
      have hklen : d.kids.length ≤ L.length := by
        have : ∀ ks : List Dat, ks.length ≤ (spaced f ks).length := by
          intro ks
          induction ks with
          | nil => simp [spaced]
          | cons d r ih => rw [spaced_cons]; simp; omega
        have h6 := this d.kids
        rw [txt_list k] at hlen
        simp at hlen
        omega
      have hit := items_write L q f (one_write L f) d.kids (L.length + 1) (i + 1) (n + 1) m (by omega) hch ?_
      · unfold one bare
        rw [if_neg (by omega), b1]
        simp only
        rw [if_pos trivial, hit, if_neg (by omega), if_neg (by omega), if_neg (by omega)]
        simp only
        rw [txt_list k] at hpos
        rw [hpos]
      · cases hk : d.kids with
        | nil =>
          simp only
          rw [b2, hk]
          simp [spaced]
        | cons d2 r2 =>
          simp only
          rw [hk, spaced_cons] at b2
          have hc2 : (chk f d2 (n + 1)).1 = 0 := by
            rw [hk] at h5
            unfold chkL at h5
            by_cases e2 : (chk f d2 (n + 1)).1 = 0
            · exact e2
            · rw [if_neg e2] at h5
              exact absurd h5 e2
          obtain ⟨c2, u, hu, u1, u2, u3⟩ := txt_head hc2
          have hs2 : skipL (L.drop (i + 1)) false = 0 := skip_none (c := c2) (r := u ++ spaced f r2 ++ [41] ++ q) (by rw [b2, hu]; simp) u1 u2
          rw [hs2, Nat.add_zero, b2]
          simp

end Go.Proofs.YtagpcafbeplccaaDoor
