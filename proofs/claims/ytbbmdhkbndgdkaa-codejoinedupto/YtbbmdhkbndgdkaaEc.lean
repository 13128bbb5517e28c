/- What is right is not too long to be copied, and not too much. -/
import Derived.Test.YtbbmdhkbndgdkaaEb
namespace Go.Proofs.Ytbbmdhkbndgdkaa
set_option linter.unusedVariables false
set_option linter.unusedSimpArgs false

theorem chkL_right (g : Dat → Nat → Int × Nat) (hg : ∀ d n, n ≤ 2000 → (g d n).1 = 0 → smQ d ∧ n + 1 ≤ (g d n).2 ∧ (g d n).2 ≤ 2000) : ∀ (l : List Dat) (n : Nat), n ≤ 2000 → (chkL g l n).1 = 0 → smQL l ∧ n + l.length ≤ (chkL g l n).2 ∧ (chkL g l n).2 ≤ 2000
  | [], n, hn, _ => by rw [smQL, chkL]; exact ⟨trivial, Nat.le_refl _, hn⟩
  | d :: r, n, hn, h => by
    unfold chkL at h ⊢
    by_cases e : (g d n).1 = 0
    · rw [if_pos e] at h ⊢
      have h1 := hg d n hn e
      have h2 := chkL_right g hg r _ h1.2.2 h
      rw [smQL]
      refine ⟨⟨h1.1, h2.1⟩, ?_, h2.2.2⟩
      rw [List.length_cons]
      omega
    · rw [if_neg e] at h
      exact absurd h e
theorem chk_right : ∀ (f : Nat) (d : Dat) (n : Nat), n ≤ 2000 → (chk f d n).1 = 0 → smQ d ∧ n + 1 ≤ (chk f d n).2 ∧ (chk f d n).2 ≤ 2000
  | 0, d, n, _, h0 => by simp [chk] at h0
  | f + 1, d, n, h, h0 => by
    have hle := chk_le (f + 1) d n h h0
    refine ⟨?_, ?_, hle⟩
    · unfold chk at h0
      by_cases a : 2000 < n + 1
      · rw [if_pos a] at h0; simp at h0
      · rw [if_neg a] at h0
        by_cases b : alone d = 0
        · rw [if_pos b] at h0
          obtain ⟨k, m, nm, st, lb, ks⟩ := d
          rw [smQ]
          refine ⟨fun h3 => ?_, fun h4 => ?_⟩
          · subst h3
            unfold alone at b
            simp at b
            by_cases c : namedB nm = true
            · unfold namedB at c
              simp at c
              omega
            · simp [c] at b
          · simp only at h0
            rw [if_pos h4] at h0
            have h5 := chkL_right (chk f) (fun d n => chk_right f d n) ks (n + 1) (by omega) h0
            exact ⟨by omega, h5.1⟩
        · rw [if_neg b] at h0
          exact absurd h0 b
    · unfold chk at h0 ⊢
      by_cases a : 2000 < n + 1
      · rw [if_pos a] at h0; simp at h0
      · rw [if_neg a] at h0 ⊢
        by_cases b : alone d = 0
        · rw [if_pos b] at h0 ⊢
          by_cases c : d.kind = 4
          · rw [if_pos c] at h0 ⊢
            have h5 := chkL_right (chk f) (fun d n => chk_right f d n) d.kids (n + 1) (by omega) h0
            omega
          · rw [if_neg c]; exact Nat.le_refl _
        · rw [if_neg b] at h0
          exact absurd h0 b
theorem wrong_right {q : Dat} (h : (wrong [q]).1 = 0) : smQ q := by
  unfold wrong wrongFrom at h
  by_cases e : (chk 40 q 0).1 = 0
  · exact (chk_right 40 q 0 (by omega) e).1
  · rw [if_neg e] at h
    exact absurd h e

mutual
/-- Names that can be read. -/
def nmC : Cor → Prop
  | ⟨k, i, n, lb, ow, q, ks⟩ => lb.size ≤ 281474976710656 ∧ ow.size ≤ 281474976710656 ∧ nmL ks
def nmL : List Cor → Prop
  | [] => True
  | c :: r => nmC c ∧ nmL r
end
mutual
def nodC : Cor → Nat
  | ⟨k, i, n, lb, ow, q, ks⟩ => nodL ks + 1
def nodL : List Cor → Nat
  | [] => 0
  | c :: r => nodC c + nodL r
end
theorem len_nodL : ∀ (l : List Cor), l.length ≤ nodL l
  | [] => Nat.zero_le _
  | c :: r => by
    have h1 := len_nodL r
    obtain ⟨k, i, n, lb, ow, q, ks⟩ := c
    rw [nodL, nodC, List.length_cons]
    omega
mutual
theorem siz_nodC : ∀ (c : Cor), sizC c + 1 ≤ 3 * nodC c ∧ lamC c ≤ nodC c ∧ lonC c ≤ 3 * nodC c
  | ⟨k, i, n, lb, ow, q, ks⟩ => by
    have h := siz_nodL ks
    have h2 := len_nodL ks
    rw [sizC, lamC, lonC, nodC]
    refine ⟨?_, ?_, ?_⟩
    · split
      · omega
      · split
        · omega
        · split <;> omega
    · split <;> omega
    · split <;> omega
theorem siz_nodL : ∀ (l : List Cor), sizL l + l.length ≤ 3 * nodL l ∧ lamL l ≤ nodL l ∧ lonL l ≤ 3 * nodL l
  | [] => by rw [sizL, lamL, lonL, nodL]; simp
  | c :: r => by
    have h1 := siz_nodC c
    have h2 := siz_nodL r
    rw [sizL, lamL, lonL, nodL, List.length_cons]
    omega
end
theorem ckL_right (g : Cor → Nat → Int × Nat) (hg : ∀ c n, (g c n).1 = 0 → (nmC c → smC c) ∧ okC c ∧ (g c n).2 = n + nodC c) : ∀ (l : List Cor) (n : Nat), (ckL g l n).1 = 0 → (nmL l → smCL l) ∧ okL l ∧ (ckL g l n).2 = n + nodL l
  | [], n, _ => by rw [smCL, okL, ckL, nodL]; exact ⟨fun _ => trivial, trivial, rfl⟩
  | c :: r, n, h => by
    unfold ckL at h ⊢
    by_cases e : (g c n).1 = 0
    · rw [if_pos e] at h ⊢
      have h1 := hg c n e
      have h2 := ckL_right g hg r _ h
      rw [smCL, okL, nodL]
      refine ⟨fun hn => ?_, ⟨h1.2.1, h2.2.1⟩, by omega⟩
      rw [nmL] at hn
      exact ⟨h1.1 hn.1, h2.1 hn.2⟩
    · rw [if_neg e] at h
      exact absurd h e
theorem ckC_right : ∀ (f : Nat) (ar : Int) (c : Cor) (n : Nat), (ckC f ar c n).1 = 0 → (nmC c → smC c) ∧ okC c ∧ (ckC f ar c n).2 = n + nodC c
  | 0, ar, c, n, h => by simp [ckC] at h
  | f + 1, ar, c, n, h => by
    unfold ckC at h ⊢
    by_cases a : 3000 < n + 1
    · rw [if_pos a] at h; simp at h
    · rw [if_neg a] at h ⊢
      by_cases b : wkids c.kind c.kids.length = 0
      · rw [if_pos b] at h ⊢
        by_cases d : wfields c ar = 0
        · rw [if_pos d] at h ⊢
          have h1 := ckL_right (ckC f (if c.kind = 8 then ar + c.index else ar)) (ckC_right f _) c.kids (n + 1) h
          obtain ⟨k, i, m, lb, ow, q, ks⟩ := c
          simp only at h1 b
          rw [smC, okC, nodC, nmC]
          refine ⟨fun hn => ⟨hn.1, hn.2.1, fun h3 => ?_, h1.1 hn.2.2⟩, ⟨b, h1.2.1⟩, (by have h9 := h1.2.2; simp only; omega)⟩
          subst h3
          unfold wfields at d
          simp at d
          exact wrong_right d
        · rw [if_neg d] at h
          exact absurd h d
      · rw [if_neg b] at h
        exact absurd h b
theorem ckB_right : ∀ (l : List Cor), ckB l = 0 → (nmL l → smCL l) ∧ okL l ∧ nodL l ≤ 3000 * l.length
  | [], _ => by rw [smCL, okL, nodL]; exact ⟨fun _ => trivial, trivial, Nat.zero_le _⟩
  | c :: r, h => by
    unfold ckB at h
    by_cases e : (ckC 300 0 c 0).1 = 0
    · rw [if_pos e] at h
      have h1 := ckC_right 300 0 c 0 e
      have h2 := ckC_le 300 0 c 0 (by omega) e
      have h3 := ckB_right r h
      rw [smCL, okL, nodL, nmL, List.length_cons]
      exact ⟨fun hn => ⟨h1.1 hn.1, h3.1 hn.2⟩, ⟨h1.2.1, h3.2.1⟩, by omega⟩
    · rw [if_neg e] at h
      exact absurd h e
theorem wrongB_right {l : List Cor} (h : wrongB l = 0) (hn : nmL l) : smCL l ∧ okL l ∧ l.length ≤ 200 ∧ sizL l + l.length ≤ 1800000 ∧ lamL l ≤ 600000 ∧ lonL l ≤ 1800000 := by
  unfold wrongB at h
  by_cases e : 200 < l.length
  · rw [if_pos e] at h; simp at h
  · rw [if_neg e] at h
    have h1 := ckB_right l h
    have h2 := siz_nodL l
    exact ⟨h1.1 hn, h1.2.1, by omega, by omega, by omega, by omega⟩

/-- The longest procedure. -/
def Lon (c : Cor) : Prop := ∀ at0 pr x, (∃ p ∈ (genC c at0 pr).2, x < p.code.length) ↔ x < lonC c
theorem ex_append {x : Nat} (a b : List Pro) : (∃ p ∈ a ++ b, x < p.code.length) ↔ (∃ p ∈ a, x < p.code.length) ∨ (∃ p ∈ b, x < p.code.length) := by
  constructor
  · rintro ⟨p, hp, h⟩
    rcases List.mem_append.1 hp with hp | hp
    · exact Or.inl ⟨p, hp, h⟩
    · exact Or.inr ⟨p, hp, h⟩
  · rintro (⟨p, hp, h⟩ | ⟨p, hp, h⟩)
    · exact ⟨p, List.mem_append_left _ hp, h⟩
    · exact ⟨p, List.mem_append_right _ hp, h⟩
theorem lt_max' (x a b : Nat) : x < max a b ↔ x < a ∨ x < b := by omega
theorem genL_lon : ∀ (l : List Cor), (∀ c ∈ l, Lon c) → ∀ at0 pr x, (∃ p ∈ (genL l at0 pr).2, x < p.code.length) ↔ x < lonL l
  | [], _, at0, pr, x => by rw [genL, lonL]; simp
  | c :: r, h, at0, pr, x => by
    rw [genL, lonL]
    simp only
    rw [ex_append, lt_max', h c (by simp) at0 pr x, genL_lon r (fun c hc => h c (List.mem_cons_of_mem _ hc))]
theorem genS_lon : ∀ (l : List Cor) (b : Bool), (∀ c ∈ l, Lon c) → ∀ at0 pr x, (∃ p ∈ (genS l b at0 pr).2, x < p.code.length) ↔ x < lonL l
  | [], b, _, at0, pr, x => by rw [genS, lonL]; simp
  | c :: r, b, h, at0, pr, x => by
    rw [genS, lonL]
    simp only
    rw [ex_append, lt_max', h c (by simp), genS_lon r false (fun c hc => h c (List.mem_cons_of_mem _ hc))]
theorem genB_lon : ∀ (l : List Cor), (∀ c ∈ l, Lon c) → ∀ at0 pr x, (∃ p ∈ (genB l at0 pr).2, x < p.code.length) ↔ x < lonL l
  | [], _, at0, pr, x => by rw [genB, lonL]; simp
  | c :: r, h, at0, pr, x => by
    rw [genB, lonL]
    simp only
    rw [ex_append, lt_max', h c (by simp), genB_lon r (fun c hc => h c (List.mem_cons_of_mem _ hc))]
mutual
theorem genC_lon : ∀ (c : Cor), okC c → Lon c
  | ⟨k, i, n, lb, ow, q, ks⟩, h => by
    rw [okC] at h
    have E := each_lon ks h.2
    have EL := each_len ks h.2
    have hw := h.1
    intro at0 pr x
    by_cases h8 : k = 8
    · subst h8
      have := wk8 hw
      match ks, this, E, EL with
      | [b], _, E, EL =>
        have h1 := E b (by simp) 0 (pr + 1) x
        have h2 := EL b (by simp) 0 (pr + 1)
        rw [genC, lonC]
        simp only [if_true, lonL, sizL, Nat.max_zero, Nat.add_zero, List.mem_cons]
        rw [lt_max', ← h1]
        constructor
        · rintro ⟨p, rfl | hp, hx⟩
          · simp at hx
            omega
          · exact Or.inl ⟨p, hp, hx⟩
        · rintro (⟨p, hp, hx⟩ | hx)
          · exact ⟨p, Or.inr hp, hx⟩
          · exact ⟨_, Or.inl rfl, by simp; omega⟩
    · by_cases h7 : k = 7
      · subst h7
        have := wk7 hw
        match ks, this, E with
        | [a, b, c], _, E =>
          rw [genC, lonC]
          simp only [Int.reduceEq, if_false, if_true, lonL, Nat.max_zero]
          rw [ex_append, ex_append, lt_max', lt_max', E a (by simp), E b (by simp), E c (by simp)]
          exact or_assoc
      · by_cases h12 : k = 12
        · subst h12
          rw [genC.eq_def, lonC]
          simp only [Int.reduceEq, if_false, if_true, Nat.max_zero]
          exact genS_lon ks true E at0 pr x
        · rw [genC_else i n lb ow q ks at0 pr h8 h7 h12, lonC, if_neg h8, Nat.max_zero]
          exact genL_lon ks E at0 pr x
theorem each_lon : ∀ (l : List Cor), okL l → ∀ c ∈ l, Lon c
  | [], _, c, hc => by cases hc
  | x :: r, h, c, hc => by
    rw [okL] at h
    rcases List.mem_cons.1 hc with e | hc
    · rw [e]; exact genC_lon x h.1
    · exact each_lon r h.2 c hc
end
theorem much_eq (b : List Cor) (h : okL b) : mchB b = muchP (protosOf b) := by
  have h1 := genB_len b (each_len b h) 0 1
  have h2 := genB_lon b (each_lon b h) 0 1 6000
  unfold mchB muchP protosOf
  rw [Bool.eq_iff_iff]
  simp only [Bool.or_eq_true, decide_eq_true_eq, List.length_cons, List.any_cons, List.length_append, List.length_nil, List.any_eq_true, lt_max']
  rw [h1.1, h1.2, h2]
  omega
end Go.Proofs.Ytbbmdhkbndgdkaa
