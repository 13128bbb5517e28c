/- What is written is read: plain. What is printed is read; what is read is right: plain. -/
import Derived.Lib.ItoaLen
import Derived.Test.YtdnbingddbakaaaGreatDoorK26
import Derived.Test.YtdnbingddbakaaaGreatDoorK34
namespace Go.Proofs.YtdnbingddbakaaaGreatDoor
section
set_option linter.unusedVariables false
set_option linter.unusedSimpArgs false
open Go

/-- What kinds have. -/
def bare : Nat → Dat → Dat
  | 0, d => d
  | f + 1, d => if d.kind = 1 then datNum d.n else if d.kind = 2 then datBool d.n else if d.kind = 3 then datSym d.name.data.toList else datList (d.kids.map (bare f))

theorem digN_snoc (l : List UInt8) (c : UInt8) : digN (l ++ [c]) = 10 * digN l + (c.toNat - 48) := by
  unfold digN
  rw [List.foldl_append]
  rfl

theorem dig_byte {k : Nat} (h : k < 10) : (UInt8.ofNat (48 + k)).toNat = 48 + k := by
  simp [UInt8.toNat_ofNat']
  omega

theorem dec_facts (u : Nat) : digN (Lib.decDigits u) = u ∧ allDig (Lib.decDigits u) = true ∧ Lib.decDigits u ≠ [] := by
  induction u using Nat.strongRecOn with
  | _ u ih =>
    by_cases h : u < 10
    · rw [Lib.decDigits, dif_pos h]
      refine ⟨?_, ?_, by simp⟩
      · simp only [digN, List.foldl_cons, List.foldl_nil, dig_byte h]
        omega
      · simp only [allDig, List.all_cons, List.all_nil, dig_byte h, digB]
        simp
        omega
    · rw [Lib.decDigits, dif_neg h]
      obtain ⟨h1, h2, h3⟩ := ih (u / 10) (by omega)
      have hm : u % 10 < 10 := Nat.mod_lt _ (by omega)
      refine ⟨?_, ?_, by simp⟩
      · rw [digN_snoc, h1, dig_byte hm]
        omega
      · unfold allDig at h2 ⊢
        rw [List.all_append, h2]
        simp only [List.all_cons, List.all_nil, dig_byte hm, digB]
        simp
        omega

theorem nDigits_le : ∀ (k u : Nat), 1 ≤ k → u < 10 ^ k → Lib.nDigits u ≤ k
  | 0, u, h, _ => by omega
  | k + 1, u, _, h => by
    by_cases hu : u < 10
    · rw [Lib.nDigits_small hu]; omega
    · rw [Lib.nDigits_big hu]
      have hk : 1 ≤ k := by
        cases k with
        | zero => simp at h; omega
        | succ k => omega
      have := nDigits_le k (u / 10) hk (by rw [Nat.pow_succ] at h; omega)
      omega

theorem dig_let {c : UInt8} (h : digB (c.toNat : Int) = true) : letB (c.toNat : Int) = true := by
  have h1 : 48 ≤ c.toNat ∧ c.toNat ≤ 57 := by
    unfold digB at h
    simp at h
    omega
  have : ∀ k : Fin 58, 48 ≤ k.val → letB (k.val : Int) = true := by decide
  exact this ⟨c.toNat, by omega⟩ h1.1

theorem dig_lets {l : List UInt8} (h : allDig l = true) : allLet l = true := by
  unfold allDig at h
  unfold allLet
  rw [List.all_eq_true] at h ⊢
  intro x hx
  exact dig_let (h x hx)

theorem dig_head {l : List UInt8} (h : allDig l = true) : l.head? ≠ some 45 := by
  intro e
  cases l with
  | nil => simp at e
  | cons c r =>
    simp at e
    subst e
    simp [allDig, digB] at h

theorem byteL_all {l : List UInt8} (h : allLet l = true) {q : List UInt8} (hq : Nolet q) : byteL (l ++ q) = l := by
  rw [byteL_app hq]
  induction l with
  | nil => rfl
  | cons c r ih =>
    unfold allLet at h
    simp at h
    rw [byteL_cons, h.1, if_pos rfl, ih]
    unfold allLet
    simpa using h.2

theorem itoa_facts (n : Int) (h0 : -1000000000000000 ≤ n) (h1 : n ≤ 1000000000000000) :
    looksB (Lib.itoa n) = true ∧ (Lib.itoa n).length ≤ 17 ∧ numOf (Lib.itoa n) = n ∧ allLet (Lib.itoa n) = true ∧ Lib.itoa n ≠ [] := by
  unfold Lib.itoa
  by_cases hn : n < 0
  · rw [if_pos hn]
    obtain ⟨d1, d2, d3⟩ := dec_facts n.natAbs
    have hl : (Lib.decDigits n.natAbs).length ≤ 16 := by
      rw [Lib.decDigits_length]
      exact nDigits_le 16 _ (by omega) (by omega)
    refine ⟨?_, by simp; omega, ?_, ?_, by simp⟩
    · unfold looksB unsign
      rw [if_pos (by rfl)]
      simp only [List.tail_cons, d2, Bool.true_and]
      cases e : Lib.decDigits n.natAbs with
      | nil => exact absurd e d3
      | cons _ _ => rfl
    · unfold numOf
      rw [if_pos (by rfl)]
      simp only [List.tail_cons, d1]
      omega
    · have := dig_lets d2
      unfold allLet at this ⊢
      rw [List.all_cons, this]
      decide
  · rw [if_neg hn]
    obtain ⟨d1, d2, d3⟩ := dec_facts n.toNat
    have hl : (Lib.decDigits n.toNat).length ≤ 16 := by
      rw [Lib.decDigits_length]
      exact nDigits_le 16 _ (by omega) (by omega)
    have hh := dig_head d2
    refine ⟨?_, by omega, ?_, dig_lets d2, d3⟩
    · unfold looksB unsign
      rw [if_neg hh, d2, Bool.true_and]
      cases e : Lib.decDigits n.toNat with
      | nil => exact absurd e d3
      | cons _ _ => rfl
    · unfold numOf
      rw [if_neg hh, d1]
      omega

theorem at_of_drop {L : List UInt8} {i : Nat} {c : UInt8} {r : List UInt8} (h : L.drop i = c :: r) : L[i]? = some c ∧ L.drop (i + 1) = r ∧ i < L.length := by
  have h1 : (L.drop i)[0]? = some c := by rw [h]; rfl
  rw [List.getElem?_drop] at h1
  have h2 : (L.drop i).drop 1 = r := by rw [h]; rfl
  rw [List.drop_drop] at h2
  refine ⟨h1, h2, ?_⟩
  exact (List.getElem?_eq_some_iff.1 h1).1

theorem let_not {c : UInt8} (h : letB (c.toNat : Int) = true) : c ≠ 40 ∧ c ≠ 39 ∧ c ≠ 35 ∧ c ≠ 59 ∧ c ≠ 41 ∧ isBlank c = false := by
  refine ⟨?_, ?_, ?_, ?_, ?_, ?_⟩
  · rintro rfl; exact absurd h (by decide)
  · rintro rfl; exact absurd h (by decide)
  · rintro rfl; exact absurd h (by decide)
  · rintro rfl; exact absurd h (by decide)
  · rintro rfl; exact absurd h (by decide)
  · cases hb : isBlank c with
    | false => rfl
    | true =>
      unfold isBlank at hb
      simp at hb
      rcases hb with (rfl | rfl) | rfl <;> exact absurd h (by decide)

/-- A word that is written is read. -/
theorem word_write {L : List UInt8} {i n f : Nat} {w q : List UInt8} (hL : L.drop i = w ++ q) (hq : Nolet q) (hw : allLet w = true) (h0 : w ≠ []) (hn : n + 1 ≤ 2000) : one L (f + 1) i n = wordAt w i (n + 1) := by
  cases w with
  | nil => exact absurd rfl h0
  | cons c r =>
    obtain ⟨h1, h2, h3⟩ := at_of_drop (show L.drop i = c :: (r ++ q) from hL)
    have hc : letB (c.toNat : Int) = true := by
      unfold allLet at hw
      simp at hw
      exact hw.1
    obtain ⟨n1, n2, n3, _⟩ := let_not hc
    unfold one
    rw [if_neg (by omega), h1]
    simp only
    rw [if_neg n1, if_neg n2, if_neg n3, if_pos hc, hL, byteL_all hw hq]

/-- How a datum's text begins. -/
theorem txt_head {f : Nat} {d : Dat} {n : Nat} (h : (chk f d n).1 = 0) : ∃ c r, txt f d = c :: r ∧ isBlank c = false ∧ c ≠ 59 ∧ c ≠ 41 := by
  cases f with
  | zero => simp [chk] at h
  | succ f =>
    obtain ⟨h1, h2, h3, h4⟩ := chk_parts h
    rcases alone_kind h2 with k | k | k | k
    · rw [txt_num k]
      have hr := alone_range h2 k
      obtain ⟨_, _, _, a4, a5⟩ := itoa_facts d.n hr.1 hr.2
      cases e : Lib.itoa d.n with
      | nil => exact absurd e a5
      | cons c r =>
        rw [e] at a4
        unfold allLet at a4
        simp at a4
        obtain ⟨_, _, _, n4, n5, n6⟩ := let_not a4.1
        exact ⟨c, r, rfl, n6, n4, n5⟩
    · rw [txt_bool k]
      split
      · exact ⟨35, [116], rfl, by decide, by decide, by decide⟩
      · exact ⟨35, [102], rfl, by decide, by decide, by decide⟩
    · rw [txt_sym k]
      have hn := alone_name h2 k
      unfold namedB at hn
      simp at hn
      obtain ⟨⟨⟨a1, a2⟩, a3⟩, a4⟩ := hn
      cases e : d.name.data.toList with
      | nil =>
        have : d.name.data.toList.length = d.name.size := Array.length_toList
        rw [e] at this
        simp at this
        omega
      | cons c r =>
        have a3' : allLet (c :: r) = true := by rw [← e]; simpa using a3
        unfold allLet at a3'
        simp at a3'
        obtain ⟨_, _, _, n4, n5, n6⟩ := let_not a3'.1
        exact ⟨c, r, rfl, n6, n4, n5⟩
    · rw [txt_list k]
      exact ⟨40, _, rfl, by decide, by decide, by decide⟩

theorem spaced_cons (f : Nat) (d : Dat) (r : List Dat) : spaced f (d :: r) = 32 :: (txt f d ++ spaced f r) := by
  simp [spaced]

theorem nolet_tail (f : Nat) (r : List Dat) (q : List UInt8) : Nolet (spaced f r ++ 41 :: q) := by
  cases r with
  | nil => exact Or.inr ⟨41, q, rfl, by decide⟩
  | cons d r => rw [spaced_cons]; exact Or.inr ⟨32, _, rfl, by decide⟩

theorem skip_none {L : List UInt8} {i : Nat} {c : UInt8} {r : List UInt8} (h : L.drop i = c :: r) (hb : isBlank c = false) (h59 : c ≠ 59) : skipL (L.drop i) false = 0 := skip_stop (at_of_drop h).1 hb h59

/-- Kids that are written are read. -/
theorem items_write (L q : List UInt8) (f : Nat) (ih : ∀ (d : Dat) (n m i : Nat) (q : List UInt8), chk f d n = (0, m) → L.drop i = txt f d ++ q → Nolet q → one L f i n = .inr (bare f d, L.length - q.length, m)) :
    ∀ (ks : List Dat) (k i n m : Nat), ks.length < k → chkL (chk f) ks n = (0, m) →
      (match ks with | [] => L.drop i = 41 :: q | d :: r => L.drop (i + skipL (L.drop i) false) = txt f d ++ (spaced f r ++ 41 :: q)) →
      items (one L f) L k i n = .inr (ks.map (bare f), L.length - q.length, m)
  | ks, 0, i, n, m, hk, hc, hL => by omega
  | [], k + 1, i, n, m, hk, hc, hL => by
    simp only at hL
    simp [chkL] at hc
    subst hc
    obtain ⟨h1, h2, h3⟩ := at_of_drop hL
    unfold items
    simp only
    rw [skip_none hL (by decide) (by decide), Nat.add_zero, h1]
    simp only
    rw [if_pos trivial]
    have : (L.drop i).length = (41 :: q).length := by rw [hL]
    simp at this
    simp
    omega
  | d :: r, k + 1, i, n, m, hk, hc, hL => by
    simp only at hL
    unfold chkL at hc
    by_cases e : (chk f d n).1 = 0
    · rw [if_pos e] at hc
      obtain ⟨c, t, ht, t1, t2, t3⟩ := txt_head e
      unfold items
      simp only
      have hL2 := hL
      rw [ht] at hL2
      obtain ⟨a1, a2, a3⟩ := at_of_drop (show L.drop (i + skipL (L.drop i) false) = c :: (t ++ (spaced f r ++ 41 :: q)) from hL2)
      generalize i + skipL (L.drop i) false = p at *
      rw [a1]
      simp only
      rw [if_neg t3]
      have ho := ih d n (chk f d n).2 p (spaced f r ++ 41 :: q) (by rw [← e]) hL (nolet_tail f r q)
      rw [ho]
      simp only
      have hlen : (L.drop p).length = (txt f d ++ (spaced f r ++ 41 :: q)).length := by rw [hL]
      have hpos : L.length - (spaced f r ++ 41 :: q).length = p + (txt f d).length := by
        simp at hlen ⊢
        omega
      have hrest : L.drop (L.length - (spaced f r ++ 41 :: q).length) = spaced f r ++ 41 :: q := by
        rw [hpos, ← List.drop_drop, hL]
        simp
      generalize L.length - (spaced f r ++ 41 :: q).length = j at *
      have hi := items_write L q f ih r k j (chk f d n).2 m (by simp at hk; omega) hc ?_
      · rw [hi]
        rfl
      · cases r with
        | nil => exact hrest
        | cons d2 r2 =>
          simp only
          rw [spaced_cons] at hrest
          have hc2 : (chk f d2 (chk f d n).2).1 = 0 := by
            unfold chkL at hc
            by_cases e2 : (chk f d2 (chk f d n).2).1 = 0
            · exact e2
            · rw [if_neg e2] at hc
              rw [hc] at e2
              exact absurd rfl e2
          obtain ⟨c2, u, hu, u1, u2, u3⟩ := txt_head hc2
          obtain ⟨b1, b2, b3⟩ := at_of_drop (show L.drop j = 32 :: (txt f d2 ++ spaced f r2 ++ 41 :: q) from hrest)
          have hs1 := skip_blank b1 (by decide)
          have hs2 : skipL (L.drop (j + 1)) false = 0 := skip_none (c := c2) (r := u ++ spaced f r2 ++ 41 :: q) (by rw [b2, hu]; rfl) u1 u2
          rw [hs1, hs2, Nat.add_zero, b2]
          simp
    · rw [if_neg e] at hc
      rw [hc] at e
      exact absurd rfl e

/-- A DATUM THAT IS WRITTEN IS READ. -/
theorem one_write (L : List UInt8) : ∀ (f : Nat) (d : Dat) (n m i : Nat) (q : List UInt8), chk f d n = (0, m) → L.drop i = txt f d ++ q → Nolet q → one L f i n = .inr (bare f d, L.length - q.length, m)
  | 0, d, n, m, i, q, h, _, _ => by simp [chk] at h
  | f + 1, d, n, m, i, q, h, hL, hq => by
    have h' : (chk (f + 1) d n).1 = 0 := by rw [h]
    obtain ⟨h1, h2, h3, h4⟩ := chk_parts h'
    rw [h] at h4
    have hne : i < L.length := by
      obtain ⟨c, r, hc, _⟩ := txt_head h'
      rw [hc] at hL
      exact (at_of_drop (show L.drop i = c :: (r ++ q) from hL)).2.2
    have hlen : (L.drop i).length = (txt (f + 1) d ++ q).length := by rw [hL]
    rw [List.length_drop, List.length_append] at hlen
    have hpos : L.length - q.length = i + (txt (f + 1) d).length := by omega
    rw [hpos]
    rcases alone_kind h2 with k | k | k | k
    · rw [txt_num k] at hL ⊢
      rw [if_neg (by omega)] at h4
      simp only at h4
      subst h4
      have hr := alone_range h2 k
      obtain ⟨a1, a2, a3, a4, a5⟩ := itoa_facts d.n hr.1 hr.2
      rw [word_write hL hq a4 a5 h1]
      unfold wordAt bare
      rw [if_pos a1, if_neg (by omega), a3, if_pos k, if_pos]
      unfold rangeB
      simp
      omega
    · rw [txt_bool k] at hL ⊢
      rw [if_neg (by omega)] at h4
      simp only at h4
      subst h4
      have hb : d.n = 0 ∨ d.n = 1 := by
        rw [alone_bool k] at h2
        by_cases hx : d.n = 0 ∨ d.n = 1
        · exact hx
        · rw [if_neg hx] at h2; simp at h2
      unfold one bare
      rw [if_neg (by omega), if_neg (c := d.kind = 1) (by omega), if_pos k]
      by_cases hx : d.n = 1
      · rw [if_pos hx] at hL ⊢
        obtain ⟨b1, b2, b3⟩ := at_of_drop (show L.drop i = 35 :: (116 :: q) from hL)
        rw [b1]
        simp only
        rw [if_neg (by decide), if_neg (by decide), if_pos trivial, b2, show byteL (116 :: q) = [116] from byteL_all (l := [116]) (by decide) hq, if_pos rfl, hx]
        rfl
      · rw [if_neg hx] at hL ⊢
        have hx0 : d.n = 0 := by omega
        obtain ⟨b1, b2, b3⟩ := at_of_drop (show L.drop i = 35 :: (102 :: q) from hL)
        rw [b1]
        simp only
        rw [if_neg (by decide), if_neg (by decide), if_pos trivial, b2, show byteL (102 :: q) = [102] from byteL_all (l := [102]) (by decide) hq, if_neg (by decide), if_pos rfl, hx0]
        rfl
    · rw [txt_sym k] at hL ⊢
      rw [if_neg (by omega)] at h4
      simp only at h4
      subst h4
      have hn := alone_name h2 k
      unfold namedB at hn
      simp at hn
      obtain ⟨⟨⟨a1, a2⟩, a3⟩, a4⟩ := hn
      have hsz : d.name.data.toList.length = d.name.size := Array.length_toList
      have a0 : d.name.data.toList ≠ [] := by
        intro e
        rw [e] at hsz
        simp at hsz
        omega
      rw [word_write hL hq (by simpa using a3) a0 h1]
      unfold wordAt bare
      rw [if_neg (by simpa using a4), if_neg (by omega), if_neg (by omega), if_neg (by omega), if_pos k]
    · rw [txt_list k] at hL ⊢
      rw [if_pos k] at h4
      simp only at h4
      have h5 := h3 k
      have hch : chkL (chk f) d.kids (n + 1) = (0, m) := by rw [← h5, h4]
      obtain ⟨b1, b2, b3⟩ := at_of_drop (show L.drop i = 40 :: (((spaced f d.kids).drop 1 ++ [41]) ++ q) from hL)
      have hklen : d.kids.length ≤ L.length := by
        have : ∀ ks : List Dat, ks.length ≤ (spaced f ks).length := by
          intro ks
          induction ks with
          | nil => simp [spaced]
          | cons d r ih => rw [spaced_cons]; simp; omega
        have h6 := this d.kids
        rw [txt_list k] at hlen
        simp at hlen
        omega
      have hit := items_write L q f (one_write L f) d.kids (L.length + 1) (i + 1) (n + 1) m (by omega) hch ?_
      · unfold one bare
        rw [if_neg (by omega), b1]
        simp only
        rw [if_pos trivial, hit, if_neg (by omega), if_neg (by omega), if_neg (by omega)]
        simp only
        rw [txt_list k] at hpos
        rw [hpos]
      · cases hk : d.kids with
        | nil =>
          simp only
          rw [b2, hk]
          simp [spaced]
        | cons d2 r2 =>
          simp only
          rw [hk, spaced_cons] at b2
          have hc2 : (chk f d2 (n + 1)).1 = 0 := by
            rw [hk] at h5
            unfold chkL at h5
            by_cases e2 : (chk f d2 (n + 1)).1 = 0
            · exact e2
            · rw [if_neg e2] at h5
              exact absurd h5 e2
          obtain ⟨c2, u, hu, u1, u2, u3⟩ := txt_head hc2
          have hs2 : skipL (L.drop (i + 1)) false = 0 := skip_none (c := c2) (r := u ++ spaced f r2 ++ [41] ++ q) (by rw [b2, hu]; simp) u1 u2
          rw [hs2, Nat.add_zero, b2]
          simp
end
section
set_option linter.unusedVariables false
set_option linter.unusedSimpArgs false
open Go

theorem printed_cons (d : Dat) (r : List Dat) : printed (d :: r) = txt 40 d ++ 10 :: printed r := by
  simp [printed]

theorem alls_write (L : List UInt8) : ∀ (ks : List Dat) (k i n i0 : Nat), ks.length < k → n ≤ 2000 → (wrongFrom ks i0 n).1 = 0 → L.drop (i + skipL (L.drop i) false) = printed ks → ∃ j m, alls L k i n = .inr (ks.map (bare 40), j, m)
  | ks, 0, i, n, i0, hk, hn, h, hL => by omega
  | [], k + 1, i, n, i0, hk, hn, h, hL => by
    unfold alls
    simp only
    have : (L.drop (i + skipL (L.drop i) false)).length = 0 := by rw [hL]; rfl
    rw [List.length_drop] at this
    rw [if_pos (by omega)]
    exact ⟨_, _, rfl⟩
  | d :: r, k + 1, i, n, i0, hk, hn, h, hL => by
    unfold wrongFrom at h
    by_cases e : (chk 40 d n).1 = 0
    · rw [if_pos e] at h
      have hm := chk_le 40 d n hn e
      obtain ⟨c, t, ht, t1, t2, t3⟩ := txt_head e
      rw [printed_cons] at hL
      have hL2 := hL
      rw [ht] at hL2
      unfold alls
      simp only
      generalize i + skipL (L.drop i) false = p at *
      obtain ⟨a1, a2, a3⟩ := at_of_drop (show L.drop p = c :: (t ++ 10 :: printed r) from hL2)
      rw [if_neg (by omega)]
      have ho := one_write L 40 d n (chk 40 d n).2 p (10 :: printed r) (by rw [← e]) hL (Or.inr ⟨10, _, rfl, by decide⟩)
      rw [ho]
      simp only
      have hlen : (L.drop p).length = (txt 40 d ++ 10 :: printed r).length := by rw [hL]
      have hpos : L.length - (10 :: printed r).length = p + (txt 40 d).length := by
        simp at hlen ⊢
        omega
      have hrest : L.drop (L.length - (10 :: printed r).length) = 10 :: printed r := by
        rw [hpos, ← List.drop_drop, hL]
        simp
      generalize L.length - (10 :: printed r).length = j at *
      obtain ⟨b1, b2, b3⟩ := at_of_drop hrest
      have hs1 := skip_blank b1 (by decide)
      have hs2 : skipL (L.drop (j + 1)) false = 0 := by
        cases r with
        | nil => rw [b2]; rfl
        | cons d2 r2 =>
          have e2 : (chk 40 d2 (chk 40 d n).2).1 = 0 := by
            unfold wrongFrom at h
            by_cases e2 : (chk 40 d2 (chk 40 d n).2).1 = 0
            · exact e2
            · rw [if_neg e2] at h; exact absurd h e2
          obtain ⟨c2, u, hu, u1, u2, u3⟩ := txt_head e2
          rw [printed_cons, hu] at b2
          exact skip_none (show L.drop (j + 1) = c2 :: (u ++ 10 :: printed r2) from b2) u1 u2
      obtain ⟨j', m', ha⟩ := alls_write L r k j (chk 40 d n).2 (i0 + 1) (by simp at hk; omega) hm h (by rw [hs1, hs2, Nat.add_zero, b2])
      rw [ha]
      exact ⟨j', m', rfl⟩
    · rw [if_neg e] at h; exact absurd h e

/-- WHAT IS PRINTED IS READ. -/
theorem read_printed (ks : List Dat) (h : (wrong ks).1 = 0) (hl : (printed ks).length ≤ 6000) : readL (printed ks) = .inr (ks.map (bare 40)) := by
  have hk : ks.length ≤ (printed ks).length := by
    clear h hl
    induction ks with
    | nil => simp [printed]
    | cons d r ih => rw [printed_cons]; simp; omega
  have hs : skipL ((printed ks).drop 0) false = 0 := by
    rw [List.drop_zero]
    cases ks with
    | nil => rfl
    | cons d r =>
      have e : (chk 40 d 0).1 = 0 := by
        unfold wrong wrongFrom at h
        by_cases e2 : (chk 40 d 0).1 = 0
        · exact e2
        · rw [if_neg e2] at h; exact absurd h e2
      obtain ⟨c2, u, hu, u1, u2, u3⟩ := txt_head e
      rw [printed_cons, hu]
      exact skip_none (L := c2 :: u ++ 10 :: printed r) (i := 0) (c := c2) (r := u ++ 10 :: printed r) rfl u1 u2
  obtain ⟨j, m, ha⟩ := alls_write (printed ks) ks ((printed ks).length + 1) 0 0 0 (by omega) (by omega) h (by rw [hs]; rfl)
  exact readL_of hl ha

theorem chk_of {f : Nat} {d : Dat} {n : Nat} (hn : n + 1 ≤ 2000) (ha : alone d = 0) (hk : d.kind ≠ 4) : chk (f + 1) d n = (0, n + 1) := by
  unfold chk
  rw [if_neg (by omega), if_pos ha, if_neg hk]

theorem chk_list {f : Nat} {ks : List Dat} {n : Nat} (hn : n + 1 ≤ 2000) : chk (f + 1) (datList ks) n = chkL (chk f) ks (n + 1) := by
  unfold chk
  rw [if_neg (by omega), if_pos (alone_list rfl), if_pos (show (datList ks).kind = 4 from rfl)]
  rfl

theorem chkL_cons {g : Dat → Nat → Int × Nat} {d : Dat} {r : List Dat} {n m : Nat} (h : g d n = (0, m)) : chkL g (d :: r) n = chkL g r m := by
  show (if (g d n).1 = 0 then chkL g r (g d n).2 else g d n) = _
  rw [h, if_pos rfl]

theorem items_right (g : Nat → Nat → Rd Dat) (ck : Dat → Nat → Int × Nat) (l : List UInt8) (hw : ∀ i n d j m, i ≤ l.length → n ≤ 2000 → g i n = .inr (d, j, m) → Went l i n j m d)
    (hg : ∀ i n d j m, i ≤ l.length → n ≤ 2000 → g i n = .inr (d, j, m) → ck d n = (0, m)) :
    ∀ (k i n : Nat) (ds : List Dat) (j m : Nat), i ≤ l.length → n ≤ 2000 → items g l k i n = .inr (ds, j, m) → chkL ck ds n = (0, m)
  | 0, i, n, ds, j, m, hi, hn, h => by simp [items] at h
  | k + 1, i, n, ds, j, m, hi, hn, h => by
    unfold items at h
    simp only at h
    have hs := skip_le l i hi
    generalize hp : i + skipL (l.drop i) false = p at h hs
    cases hc : l[p]? with
    | none => rw [hc] at h; simp at h
    | some c =>
      rw [hc] at h
      simp only at h
      by_cases h41 : c = 41
      · rw [if_pos h41] at h
        simp at h
        obtain ⟨rfl, rfl, rfl⟩ := h
        rfl
      · rw [if_neg h41] at h
        cases hgg : g p n with
        | inl e => rw [hgg] at h; simp at h
        | inr x =>
          obtain ⟨d, j1, m1⟩ := x
          rw [hgg] at h
          simp only at h
          have hww := hw p n d j1 m1 hs hn hgg
          cases hii : items g l k j1 m1 with
          | inl e => rw [hii] at h; simp at h
          | inr y =>
            obtain ⟨ds2, j2, m2⟩ := y
            rw [hii] at h
            simp at h
            obtain ⟨rfl, rfl, rfl⟩ := h
            rw [chkL_cons (hg p n d j1 m1 hs hn hgg)]
            exact items_right g ck l hw hg k j1 m1 ds2 j2 m2 hww.upto hww.much hii

theorem quote_right : alone (datSym [113, 117, 111, 116, 101]) = 0 := by
  rw [alone_sym rfl]
  unfold symErr
  rw [show namedB (datSym [113, 117, 111, 116, 101]).name = true from by decide, if_pos rfl]
  rfl

theorem byteL_lets (l : List UInt8) : allLet (byteL l) = true := by
  unfold allLet byteL
  rw [List.all_eq_true]
  intro x hx
  exact (List.all_eq_true.1 (List.all_takeWhile (p := fun c : UInt8 => letB (c.toNat : Int)) (l := l))) x hx

theorem word_right {l : List UInt8} {i n : Nat} {c : UInt8} {d : Dat} {f j m : Nat} (hc : l[i]? = some c) (hl : letB (c.toNat : Int) = true) (hn : n + 1 ≤ 2000) (h : wordAt (byteL (l.drop i)) i (n + 1) = .inr (d, j, m)) : chk (f + 1) d n = (0, m) := by
  have hlet := byteL_lets (l.drop i)
  have hpos : 1 ≤ (byteL (l.drop i)).length := by
    rw [drop_cons hc]
    simp [byteL, hl]
  generalize byteL (l.drop i) = w at *
  unfold wordAt at h
  split at h
  · split at h
    · simp at h
    · split at h
      · rename_i hr
        simp at h
        obtain ⟨rfl, rfl, rfl⟩ := h
        refine chk_of hn ?_ (by show ¬ (1 : Int) = 4; decide)
        rw [alone_num rfl]
        show (if rangeB (numOf w) = true then (0 : Int) else 3) = 0
        rw [hr, if_pos rfl]
      · simp at h
  · rename_i hlk
    split at h
    · simp at h
    · rename_i h20
      simp at h
      obtain ⟨rfl, rfl, rfl⟩ := h
      refine chk_of hn ?_ (by show ¬ (3 : Int) = 4; decide)
      rw [alone_sym rfl]
      unfold symErr
      have hs : (datSym w).name.size = w.length := by
        show w.toArray.size = _
        simp
      have hd : (datSym w).name.data.toList = w := by
        show w.toArray.toList = w
        simp
      have : namedB (datSym w).name = true := by
        unfold namedB
        rw [hs, hd, hlet]
        simp
        exact ⟨⟨by omega, by omega⟩, by simpa using hlk⟩
      rw [this, if_pos rfl]
      rfl

/-- A DATUM THAT IS READ IS RIGHT. -/
theorem one_right (l : List UInt8) : ∀ (f i n : Nat) (d : Dat) (j m : Nat), i ≤ l.length → n ≤ 2000 → one l f i n = .inr (d, j, m) → chk f d n = (0, m)
  | 0, i, n, d, j, m, _, _, h => by simp [one] at h
  | f + 1, i, n, d, j, m, hi, hn, h => by
    unfold one at h
    by_cases h2 : 2000 < n + 1
    · rw [if_pos h2] at h; simp at h
    · rw [if_neg h2] at h
      cases hc : l[i]? with
      | none => rw [hc] at h; simp at h
      | some c =>
        rw [hc] at h
        simp only at h
        have hlt := (List.getElem?_eq_some_iff.1 hc).1
        by_cases c40 : c = 40
        · rw [if_pos c40] at h
          cases hit : items (one l f) l (l.length + 1) (i + 1) (n + 1) with
          | inl e => rw [hit] at h; simp at h
          | inr y =>
            obtain ⟨ds, j2, m2⟩ := y
            rw [hit] at h
            simp at h
            obtain ⟨rfl, rfl, rfl⟩ := h
            rw [chk_list (by omega)]
            exact items_right (one l f) (chk f) l (one_went l f) (one_right l f) _ _ _ ds j2 m2 (by omega) (by omega) hit
        · rw [if_neg c40] at h
          by_cases c39 : c = 39
          · rw [if_pos c39] at h
            by_cases hq : f = 0 ∨ 2000 < n + 2
            · rw [if_pos hq] at h; simp at h
            · rw [if_neg hq] at h
              cases ho : one l f (i + 1 + skipL (l.drop (i + 1)) false) (n + 2) with
              | inl e => rw [ho] at h; simp at h
              | inr y =>
                obtain ⟨d2, j2, m2⟩ := y
                rw [ho] at h
                simp at h
                obtain ⟨rfl, rfl, rfl⟩ := h
                have hs := skip_le l (i + 1) (by omega)
                have hr := one_right l f _ _ d2 j2 m2 hs (by omega) ho
                unfold datQuote
                rw [chk_list (by omega)]
                obtain ⟨f', rfl⟩ : ∃ f', f = f' + 1 := ⟨f - 1, by omega⟩
                rw [chkL_cons (m := n + 2) (chk_of (by omega) quote_right (by show ¬ (3 : Int) = 4; decide)), chkL_cons hr]
                rfl
          · rw [if_neg c39] at h
            by_cases c35 : c = 35
            · rw [if_pos c35] at h
              by_cases t1 : byteL (l.drop (i + 1)) = [116]
              · rw [if_pos t1] at h
                simp at h
                obtain ⟨rfl, rfl, rfl⟩ := h
                exact chk_of (by omega) (by rw [alone_bool rfl]; rfl) (by show ¬ (2 : Int) = 4; decide)
              · rw [if_neg t1] at h
                by_cases t2 : byteL (l.drop (i + 1)) = [102]
                · rw [if_pos t2] at h
                  simp at h
                  obtain ⟨rfl, rfl, rfl⟩ := h
                  exact chk_of (by omega) (by rw [alone_bool rfl]; rfl) (by show ¬ (2 : Int) = 4; decide)
                · rw [if_neg t2] at h; simp at h
            · rw [if_neg c35] at h
              by_cases hl : letB (c.toNat : Int) = true
              · rw [if_pos hl] at h
                exact word_right hc hl (by omega) h
              · rw [if_neg hl] at h; simp at h

theorem alls_right (l : List UInt8) : ∀ (k i n i0 : Nat) (ds : List Dat) (j m : Nat), i ≤ l.length → n ≤ 2000 → alls l k i n = .inr (ds, j, m) → wrongFrom ds i0 n = (0, 0)
  | 0, i, n, i0, ds, j, m, hi, hn, h => by
    simp [alls] at h
    obtain ⟨rfl, _⟩ := h
    rfl
  | k + 1, i, n, i0, ds, j, m, hi, hn, h => by
    have hs := skip_le l i hi
    unfold alls at h
    simp only at h
    generalize i + skipL (l.drop i) false = p at *
    by_cases hend : l.length ≤ p
    · rw [if_pos hend] at h
      simp at h
      obtain ⟨rfl, _, rfl⟩ := h
      rfl
    · rw [if_neg hend] at h
      cases ho : one l 40 p n with
      | inl e => rw [ho] at h; simp at h
      | inr y =>
        obtain ⟨d, j1, m1⟩ := y
        rw [ho] at h
        simp only at h
        have hw := one_went l 40 p n d j1 m1 hs hn ho
        have hr := one_right l 40 p n d j1 m1 hs hn ho
        cases ha : alls l k j1 m1 with
        | inl e => rw [ha] at h; simp at h
        | inr y =>
          obtain ⟨ds2, j2, m2⟩ := y
          rw [ha] at h
          simp at h
          obtain ⟨rfl, rfl, rfl⟩ := h
          show (if (chk 40 d n).1 = 0 then wrongFrom ds2 (i0 + 1) (chk 40 d n).2 else ((chk 40 d n).1, (i0 : Int))) = (0, 0)
          rw [hr, if_pos rfl]
          exact alls_right l k j1 m1 (i0 + 1) ds2 j2 m2 hw.upto hw.much ha

/-- WHAT IS READ IS RIGHT. -/
theorem read_right {l : List UInt8} {ds : List Dat} (h : readL l = .inr ds) : wrong ds = (0, 0) := by
  obtain ⟨_, j, m, ha⟩ := readL_ok h
  exact alls_right l _ 0 0 0 ds j m (Nat.zero_le _) (by omega) ha
end
end Go.Proofs.YtdnbingddbakaaaGreatDoor
