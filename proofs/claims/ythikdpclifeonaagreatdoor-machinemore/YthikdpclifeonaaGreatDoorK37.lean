/- Chapter 11, plainly: what a right image is like: heights, and what is around. -/
import Derived.Test.YthikdpclifeonaaGreatDoorK11
namespace Go.Proofs.YthikdpclifeonaaGreatDoor
set_option linter.unusedVariables false
set_option linter.unusedSimpArgs false

theorem moves_pos (x : In) : 0 ≤ (movesI x).2 := by
  unfold movesI
  repeat' split
  all_goals simp
/-- How an instruction at a place goes on, of that height. -/
def StOk (last : Int) (H : List Int) (i : Nat) (x : In) (h : Int) : Prop :=
  (movesI x).1 ≤ h ∧ (x.op = 15 → h - (movesI x).1 + (movesI x).2 = last) ∧ (x.op = 9 ∨ x.op = 10 → ∃ a : Nat, x.a = (a : Int) ∧ i < a ∧ H[a]? = some (h - (movesI x).1 + (movesI x).2)) ∧ (x.op ≠ 9 → x.op ≠ 15 → H[i + 1]? = some (h - (movesI x).1 + (movesI x).2))
theorem reach_some {h h' : List Int} {frm : Nat} {tt hh : Int} (e : reachH h frm tt hh = some h') (hh1 : hh ≠ -1) : h'.length = h.length ∧ (∃ a : Nat, tt = (a : Int) ∧ frm < a ∧ h'[a]? = some hh) ∧ ∀ (q : Nat) (v : Int), h[q]? = some v → v ≠ -1 → h'[q]? = some v := by
  unfold reachH at e
  by_cases c : tt ≤ frm ∨ (h.length : Int) ≤ tt
  · rw [if_pos c] at e; cases e
  rw [if_neg c] at e
  have ht : tt = ((tt.toNat : Nat) : Int) := by omega
  have hl : tt.toNat < h.length := by omega
  by_cases d : h.getD tt.toNat (-1) = -1
  · rw [if_pos d] at e
    cases e
    refine ⟨by simp, ⟨tt.toNat, ht, by omega, by simp [hl]⟩, fun q v hq hv => ?_⟩
    by_cases z : tt.toNat = q
    · subst z
      rw [List.getD_eq_getElem?_getD, hq] at d
      exact absurd d hv
    · rw [List.getElem?_set_ne z]; exact hq
  · rw [if_neg d] at e
    by_cases z : h.getD tt.toNat (-1) = hh
    · rw [if_pos z] at e
      cases e
      refine ⟨rfl, ⟨tt.toNat, ht, by omega, ?_⟩, fun q v hq _ => hq⟩
      rw [List.getD_eq_getElem?_getD, List.getElem?_eq_getElem hl] at z
      rw [List.getElem?_eq_getElem hl]
      simp at z
      rw [z]
    · rw [if_neg z] at e; cases e
/-- One instruction: what is come to. -/
theorem leave_some {last : Int} {h h' : List Int} {i : Nat} {x : In} {hh : Int} (hi : h[i]? = some hh) (e : leaveH last h i x = some h') : h'.length = h.length ∧ (∀ (q : Nat) (v : Int), h[q]? = some v → v ≠ -1 → h'[q]? = some v) ∧ StOk last h' i x hh := by
  unfold leaveH at e
  have hg : h.getD i (-1) = hh := by rw [List.getD_eq_getElem?_getD, hi]; rfl
  rw [hg] at e
  by_cases c : hh < (movesI x).1
  · rw [if_pos c] at e; cases e
  rw [if_neg c] at e
  have hp := moves_pos x
  have hne : hh - (movesI x).1 + (movesI x).2 ≠ -1 := by omega
  by_cases k15 : x.op = 15
  · rw [if_pos k15] at e
    by_cases z : hh - (movesI x).1 + (movesI x).2 = last
    · rw [if_pos z] at e
      cases e
      exact ⟨rfl, fun _ _ h _ => h, by omega, fun _ => z, fun q => by omega, fun _ q => absurd k15 q⟩
    · rw [if_neg z] at e; cases e
  rw [if_neg k15] at e
  by_cases k9 : x.op = 9
  · rw [if_pos k9] at e
    obtain ⟨l1, ⟨a, a1, a2, a3⟩, u1⟩ := reach_some e hne
    exact ⟨l1, u1, by omega, fun q => absurd q k15, fun _ => ⟨a, a1, a2, a3⟩, fun q => absurd k9 q⟩
  rw [if_neg k9] at e
  by_cases k10 : x.op = 10
  · rw [if_pos k10] at e
    obtain ⟨h1, e1, e2⟩ := Option.bind_eq_some_iff.1 e
    obtain ⟨l1, ⟨a, a1, a2, a3⟩, u1⟩ := reach_some e1 hne
    obtain ⟨l2, ⟨b, b1, b2, b3⟩, u2⟩ := reach_some e2 hne
    obtain rfl : b = i + 1 := by omega
    exact ⟨by omega, fun q v hq hv => u2 q v (u1 q v hq hv) hv, by omega, fun q => absurd q k15, fun _ => ⟨a, a1, a2, u2 a _ a3 hne⟩, fun _ _ => b3⟩
  · rw [if_neg k10] at e
    obtain ⟨l1, ⟨b, b1, b2, b3⟩, u1⟩ := reach_some e hne
    obtain rfl : b = i + 1 := by omega
    exact ⟨l1, u1, by omega, fun q => absurd q k15, fun q => by omega, fun _ _ => b3⟩
theorem StOk.up {last : Int} {H H' : List Int} {i : Nat} {x : In} {h : Int} (s : StOk last H i x h) (u : ∀ (q : Nat) (v : Int), H[q]? = some v → v ≠ -1 → H'[q]? = some v) : StOk last H' i x h := by
  obtain ⟨h1, h2, h3, h4⟩ := s
  have hp := moves_pos x
  refine ⟨h1, h2, fun q => ?_, fun p q => u _ _ (h4 p q) (by omega)⟩
  obtain ⟨a, a1, a2, a3⟩ := h3 q
  exact ⟨a, a1, a2, u _ _ a3 (by omega)⟩
theorem walk_heights (last : Int) : ∀ (r : List In) (place : Nat) (H : List Int), walkS last place r H = true → ∃ Hf : List Int, Hf.length = H.length ∧ (∀ (q : Nat) (h : Int), H[q]? = some h → h ≠ -1 → Hf[q]? = some h) ∧ ∀ (i : Nat) (x : In), r[i]? = some x → ∃ h : Int, Hf[place + i]? = some h ∧ h ≠ -1 ∧ StOk last Hf (place + i) x h
  | [], place, H, _ => ⟨H, rfl, fun _ _ h _ => h, fun i x h => by simp at h⟩
  | x :: r, place, H, e => by
    rw [walkS] at e
    by_cases c : H.getD place (-1) = -1
    · rw [if_pos c] at e; cases e
    rw [if_neg c] at e
    obtain ⟨hh, hi⟩ : ∃ hh, H[place]? = some hh := by
      cases z : H[place]? with
      | none => rw [List.getD_eq_getElem?_getD, z] at c; exact absurd rfl c
      | some v => exact ⟨v, rfl⟩
    have hhne : hh ≠ -1 := by rw [List.getD_eq_getElem?_getD, hi] at c; exact c
    cases hl : leaveH last H place x with
    | none => rw [hl] at e; cases e
    | some H1 =>
      rw [hl] at e
      obtain ⟨l1, u1, s1⟩ := leave_some hi hl
      obtain ⟨Hf, l2, u2, s2⟩ := walk_heights last r (place + 1) H1 e
      refine ⟨Hf, by omega, fun q v hq hv => u2 q v (u1 q v hq hv) hv, fun i y hy => ?_⟩
      cases i with
      | zero =>
        simp at hy
        subst hy
        exact ⟨hh, u2 _ _ (u1 _ _ hi hhne) hhne, hhne, s1.up u2⟩
      | succ i =>
        obtain ⟨h, q1, q2, q3⟩ := s2 i y (by simpa using hy)
        have e2 : place + (i + 1) = place + 1 + i := by omega
        rw [e2]
        exact ⟨h, q1, q2, q3⟩
/-- WHAT USES ITS STACK WELL HAS HEIGHTS. -/
theorem stack_heights {l : List In} {body : Bool} (h : stackOk l body = true) (h0 : 0 < l.length) : ∃ H : List Int, H.length = l.length ∧ H[0]? = some 0 ∧ ∀ (i : Nat) (x : In), l[i]? = some x → ∃ k : Int, H[i]? = some k ∧ StOk (if body then 0 else 1) H i x k := by
  obtain ⟨Hf, l2, u2, s2⟩ := walk_heights _ l 0 _ h
  refine ⟨Hf, by simpa using l2, u2 0 0 (by simp [h0]) (by decide), fun i x hx => ?_⟩
  obtain ⟨k, q1, q2, q3⟩ := s2 i x hx
  rw [Nat.zero_add] at q1 q3
  exact ⟨k, q1, q3⟩
/-- More is known. -/
def KnX (K K' : Kn) : Prop := K'.length = K.length ∧ ∀ (q : Nat) (s : Bool × Int), K[q]? = some (some s) → K'[q]? = some (some s)
theorem KnX.refl (K : Kn) : KnX K K := ⟨rfl, fun _ _ h => h⟩
theorem KnX.trans {a b c : Kn} (h : KnX a b) (k : KnX b c) : KnX a c := ⟨k.1.trans h.1, fun q s hq => k.2 q s (h.2 q s hq)⟩
/-- What is right with an instruction. -/
structure InsR (PP : List Pro) (gl : In → Int) (K : Kn) (q len : Nat) (ar : Int) (x : In) : Prop where
  op : 1 ≤ x.op ∧ x.op ≤ 15
  num : x.op = 1 → -1000000000000000 ≤ x.n ∧ x.n ≤ 1000000000000000
  quo : x.op = 3 → (wrong [x.quote]).1 = 0
  loc : x.op = 4 ∨ x.op = 11 → 0 ≤ x.a ∧ x.a < ar
  glo : x.op = 5 ∨ x.op = 12 ∨ x.op = 13 → gl x = 0
  pri : x.op = 6 → argsB x.own ≠ 0
  clo : x.op = 7 → ∃ a : Nat, x.a = (a : Int) ∧ q < a ∧ a < PP.length ∧ K[a]? = some (some (false, ar + (PP.getD a ⟨0, []⟩).args))
  cal : x.op = 8 → 0 ≤ x.a ∧ x.a ≤ 2000
theorem InsR.up {PP : List Pro} {gl : In → Int} {K K' : Kn} {q len : Nat} {ar : Int} {x : In} (h : InsR PP gl K q len ar x) (k : KnX K K') : InsR PP gl K' q len ar x :=
  ⟨h.op, h.num, h.quo, h.loc, h.glo, h.pri, fun c => by obtain ⟨a, h1, h0, h2, h3⟩ := h.clo c; exact ⟨a, h1, h0, h2, k.2 _ _ h3⟩, h.cal⟩
theorem insW_right {PP : List Pro} {gl : In → Int} {q len : Nat} {x : In} {K : Kn} {ar : Int} {bd : Bool} (hK : K.length = PP.length) (hq : K[q]? = some (some (bd, ar))) (h : (insW PP gl q len x K).1 = 0) : KnX K (insW PP gl q len x K).2 ∧ InsR PP gl (insW PP gl q len x K).2 q len ar x := by
  have haro : aro K q = ar := by unfold aro; rw [List.getD_eq_getElem?_getD, hq]; rfl
  unfold insW at h ⊢
  by_cases k1 : x.op = 1
  · rw [if_pos k1] at h ⊢
    refine ⟨KnX.refl K, ⟨by omega, fun _ => ?_, fun _ => by omega, fun _ => by omega, fun _ => by omega, fun _ => by omega, fun _ => by omega, fun _ => by omega⟩⟩
    by_cases z : -1000000000000000 ≤ x.n ∧ x.n ≤ 1000000000000000
    · exact z
    · simp only [if_neg z] at h; omega
  rw [if_neg k1] at h ⊢
  by_cases k2 : x.op = 2
  · rw [if_pos k2]
    exact ⟨KnX.refl K, ⟨by omega, fun _ => by omega, fun _ => by omega, fun _ => by omega, fun _ => by omega, fun _ => by omega, fun _ => by omega, fun _ => by omega⟩⟩
  rw [if_neg k2] at h ⊢
  by_cases k3 : x.op = 3
  · rw [if_pos k3] at h ⊢
    exact ⟨KnX.refl K, ⟨by omega, fun _ => by omega, fun _ => h, fun _ => by omega, fun _ => by omega, fun _ => by omega, fun _ => by omega, fun _ => by omega⟩⟩
  rw [if_neg k3] at h ⊢
  by_cases k4 : x.op = 4 ∨ x.op = 11
  · rw [if_pos k4] at h ⊢
    refine ⟨KnX.refl K, ⟨by omega, fun _ => by omega, fun _ => by omega, fun _ => ?_, fun _ => by omega, fun _ => by omega, fun _ => by omega, fun _ => by omega⟩⟩
    rw [haro] at h
    by_cases z : 0 ≤ x.a ∧ x.a < ar
    · exact z
    · simp only [if_neg z] at h; omega
  rw [if_neg k4] at h ⊢
  by_cases k5 : x.op = 5 ∨ x.op = 12 ∨ x.op = 13
  · rw [if_pos k5] at h ⊢
    exact ⟨KnX.refl K, ⟨by omega, fun _ => by omega, fun _ => by omega, fun _ => by omega, fun _ => h, fun _ => by omega, fun _ => by omega, fun _ => by omega⟩⟩
  rw [if_neg k5] at h ⊢
  by_cases k6 : x.op = 6
  · rw [if_pos k6] at h ⊢
    refine ⟨KnX.refl K, ⟨by omega, fun _ => by omega, fun _ => by omega, fun _ => by omega, fun _ => by omega, fun _ z => ?_, fun _ => by omega, fun _ => by omega⟩⟩
    simp only [if_pos z] at h; omega
  rw [if_neg k6] at h ⊢
  by_cases k7 : x.op = 7
  · rw [if_pos k7] at h ⊢
    unfold closeW at h ⊢
    by_cases c : x.a ≤ q ∨ (PP.length : Int) ≤ x.a
    · rw [if_pos c] at h; simp at h
    rw [if_neg c] at h ⊢
    by_cases d : (K.getD x.a.toNat none).isSome
    · rw [if_pos d] at h; simp at h
    rw [if_neg d] at h ⊢
    have hlt : x.a.toNat < K.length := by omega
    refine ⟨⟨by simp, fun p s hp => ?_⟩, ⟨by omega, fun _ => by omega, fun _ => by omega, fun _ => by omega, fun _ => by omega, fun _ => by omega, fun _ => ⟨x.a.toNat, by omega, by omega, by omega, ?_⟩, fun _ => by omega⟩⟩
    · by_cases z : x.a.toNat = p
      · subst z
        rw [List.getD_eq_getElem?_getD, hp] at d
        exact absurd rfl d
      · rw [List.getElem?_set_ne z]; exact hp
    · rw [List.getElem?_set_self hlt, haro]
  rw [if_neg k7] at h ⊢
  by_cases k8 : x.op = 8
  · rw [if_pos k8] at h ⊢
    refine ⟨KnX.refl K, ⟨by omega, fun _ => by omega, fun _ => by omega, fun _ => by omega, fun _ => by omega, fun _ => by omega, fun _ => by omega, fun _ => ?_⟩⟩
    by_cases z : 0 ≤ x.a ∧ x.a ≤ 2000
    · exact z
    · simp only [if_neg z] at h; omega
  rw [if_neg k8] at h ⊢
  by_cases k9 : x.op = 9 ∨ x.op = 10
  · rw [if_pos k9]
    exact ⟨KnX.refl K, ⟨by omega, fun _ => by omega, fun _ => by omega, fun _ => by omega, fun _ => by omega, fun _ => by omega, fun _ => by omega, fun _ => by omega⟩⟩
  rw [if_neg k9] at h ⊢
  by_cases k14 : x.op = 14 ∨ x.op = 15
  · rw [if_pos k14]
    exact ⟨KnX.refl K, ⟨by omega, fun _ => by omega, fun _ => by omega, fun _ => by omega, fun _ => by omega, fun _ => by omega, fun _ => by omega, fun _ => by omega⟩⟩
  · rw [if_neg k14] at h
    simp at h
theorem codeW_right {PP : List Pro} {gl : In → Int} {q len : Nat} {ar : Int} {bd : Bool} : ∀ (c : List In) (K : Kn), K.length = PP.length → K[q]? = some (some (bd, ar)) → (codeW PP gl q len c K).1 = 0 → KnX K (codeW PP gl q len c K).2 ∧ ∀ x ∈ c, InsR PP gl (codeW PP gl q len c K).2 q len ar x
  | [], K, _, _, _ => ⟨KnX.refl K, fun x hx => by simp at hx⟩
  | x :: r, K, hK, hq, h => by
    rw [codeW] at h ⊢
    by_cases z : (insW PP gl q len x K).1 = 0
    · rw [if_pos z] at h ⊢
      obtain ⟨k1, r1⟩ := insW_right hK hq z
      obtain ⟨k2, r2⟩ := codeW_right r _ (k1.1.trans hK) (k1.2 _ _ hq) h
      refine ⟨k1.trans k2, fun y hy => ?_⟩
      rcases List.mem_cons.1 hy with rfl | hy
      · exact r1.up k2
      · exact r2 y hy
    · rw [if_neg z] at h
      exact absurd h z
theorem protosW_right {PP : List Pro} {gl : In → Int} : ∀ (n q : Nat) (K : Kn), K.length = PP.length → q + n = PP.length → protosW PP gl n q K = 0 → ∃ K', KnX K K' ∧ ∀ (i : Nat) (P : Pro), q ≤ i → PP[i]? = some P → ∃ (bd : Bool) (ar : Int), K'[i]? = some (some (bd, ar)) ∧ stackOk P.code bd = true ∧ ∀ x ∈ P.code, InsR PP gl K' i P.code.length ar x
  | 0, q, K, hK, hq, _ => ⟨K, KnX.refl K, fun i P h1 h2 => by have := (List.getElem?_eq_some_iff.1 h2).1; omega⟩
  | n + 1, q, K, hK, hq, h => by
    rw [protosW] at h
    by_cases z : (protoW PP gl q K).1 = 0
    · rw [if_pos z] at h
      have hql : q < PP.length := by omega
      have hPq : PP.getD q ⟨0, []⟩ = PP[q] := by simp [List.getD, List.getElem?_eq_getElem hql]
      cases hkq : K.getD q none with
      | none => unfold protoW at z; rw [hkq] at z; simp at z
      | some s =>
        have hkq' : K[q]? = some (some s) := by
          rw [List.getD_eq_getElem?_getD, List.getElem?_eq_getElem (by omega)] at hkq
          rw [List.getElem?_eq_getElem (by omega)]
          simpa using hkq
        unfold protoW at z h
        rw [hkq] at z h
        simp only at z h
        by_cases cz : (codeW PP gl q (PP.getD q ⟨0, []⟩).code.length (PP.getD q ⟨0, []⟩).code K).1 = 0
        · rw [if_pos cz] at z h
          obtain ⟨k1, r1⟩ := codeW_right (bd := s.1) (ar := s.2) _ K hK hkq' cz
          have hst : stackOk (PP.getD q ⟨0, []⟩).code s.1 = true := by
            by_cases y : stackOk (PP.getD q ⟨0, []⟩).code s.1 = true
            · exact y
            · simp only [if_neg y] at z; omega
          obtain ⟨K', k2, r2⟩ := protosW_right n (q + 1) _ (k1.1.trans hK) (by omega) h
          refine ⟨K', k1.trans k2, fun i P h1 h2 => ?_⟩
          by_cases e : i = q
          · subst e
            rw [List.getElem?_eq_getElem hql] at h2
            cases h2
            rw [hPq] at hst r1 k2 k1
            exact ⟨s.1, s.2, k2.2 _ _ (k1.2 _ _ hkq'), hst, fun x hx => (r1 x hx).up k2⟩
          · exact r2 i P (by omega) h2
        · rw [if_neg cz] at z
          exact absurd z cz
    · rw [if_neg z] at h
      exact absurd h z
theorem bodiesW_right {PP : List Pro} : ∀ (l : List Int) (K : Kn), K.length = PP.length → (bodiesW PP l K).1 = 0 → (bodiesW PP l K).2.length = PP.length ∧ (∀ b ∈ l, 0 ≤ b ∧ b < (PP.length : Int) ∧ (PP.getD b.toNat ⟨0, []⟩).args = 0 ∧ (bodiesW PP l K).2[b.toNat]? = some (some (true, 0))) ∧ ∀ q : Nat, K[q]? = some (some (true, 0)) → (bodiesW PP l K).2[q]? = some (some (true, 0))
  | [], K, hK, _ => ⟨hK, fun b hb => by simp at hb, fun q h => h⟩
  | b :: r, K, hK, h => by
    rw [bodiesW] at h ⊢
    by_cases c : b < 0 ∨ (PP.length : Int) ≤ b
    · rw [if_pos c] at h; simp at h
    rw [if_neg c] at h ⊢
    by_cases d : (PP.getD b.toNat ⟨0, []⟩).args ≠ 0
    · rw [if_pos d] at h; simp at h
    rw [if_neg d] at h ⊢
    obtain ⟨h1, h2, h3⟩ := bodiesW_right r (K.set b.toNat (some (true, 0))) (by simp [hK]) h
    have hlt : b.toNat < K.length := by omega
    refine ⟨h1, fun x hx => ?_, fun q hq => h3 q ?_⟩
    · rcases List.mem_cons.1 hx with rfl | hx
      · exact ⟨by omega, by omega, by simpa using d, h3 _ (List.getElem?_set_self hlt)⟩
      · exact h2 x hx
    · by_cases z : b.toNat = q
      · subst z; rw [List.getElem?_set_self hlt]
      · rw [List.getElem?_set_ne z]; exact hq
/-- WHAT A RIGHT IMAGE IS LIKE. -/
structure ImR (PP : List Pro) (ss : List Int) (gl : In → Int) (K : Kn) : Prop where
  len : K.length = PP.length
  st : ∀ b ∈ ss, 0 ≤ b ∧ b < (PP.length : Int) ∧ K[b.toNat]? = some (some (true, 0))
  pro : ∀ (i : Nat) (P : Pro), PP[i]? = some P → (1 ≤ P.code.length ∧ P.code.length ≤ 6000 ∧ 0 ≤ P.args ∧ P.args ≤ 2000) ∧ ∃ (bd : Bool) (ar : Int) (H : List Int), K[i]? = some (some (bd, ar)) ∧ (∀ x ∈ P.code, InsR PP gl K i P.code.length ar x) ∧ H.length = P.code.length ∧ H[0]? = some (0 : Int) ∧ ∀ (j : Nat) (x : In), P.code[j]? = some x → ∃ k : Int, H[j]? = some k ∧ StOk (if bd then 0 else 1) H j x k
theorem sizesW_right : ∀ (l : List Pro), sizesW l = 0 → ∀ P ∈ l, 1 ≤ P.code.length ∧ P.code.length ≤ 6000 ∧ 0 ≤ P.args ∧ P.args ≤ 2000
  | [], _, P, hP => by simp at hP
  | Q :: r, h, P, hP => by
    rw [sizesW] at h
    by_cases c : Q.code.length < 1 ∨ 6000 < Q.code.length
    · rw [if_pos c] at h; simp at h
    rw [if_neg c] at h
    by_cases d : Q.args < 0 ∨ 2000 < Q.args
    · rw [if_pos d] at h; simp at h
    rw [if_neg d] at h
    rcases List.mem_cons.1 hP with rfl | hP
    · omega
    · exact sizesW_right r h P hP
theorem image_is {PP : List Pro} {ss : List Int} {gl : In → Int} (h : wrongPs PP ss gl = 0) : ∃ K, ImR PP ss gl K := by
  unfold wrongPs at h
  by_cases a : sizesW PP ≠ 0
  · rw [if_pos a] at h; exact absurd h a
  rw [if_neg a] at h
  have a : sizesW PP = 0 := by simpa using a
  by_cases b : (bodiesW PP ss (List.replicate PP.length none)).1 ≠ 0
  · rw [if_pos b] at h; exact absurd h b
  rw [if_neg b] at h
  have b : (bodiesW PP ss (List.replicate PP.length none)).1 = 0 := by simpa using b
  obtain ⟨h1, h2, h3⟩ := bodiesW_right ss _ (by simp) b
  obtain ⟨K, k1, r1⟩ := protosW_right PP.length 0 _ h1 (by omega) h
  refine ⟨K, k1.1.trans h1, fun x hx => ?_, fun i P hP => ?_⟩
  · obtain ⟨g1, g2, _, g4⟩ := h2 x hx
    exact ⟨g1, g2, k1.2 _ _ g4⟩
  · have hs := sizesW_right PP a P (List.mem_of_getElem? hP)
    obtain ⟨bd, ar, r2, r3, r4⟩ := r1 i P (by omega) hP
    obtain ⟨H, s0, s1, s2⟩ := stack_heights r3 (by omega)
    exact ⟨hs, bd, ar, H, r2, r4, s0, s1, s2⟩
end Go.Proofs.YthikdpclifeonaaGreatDoor
