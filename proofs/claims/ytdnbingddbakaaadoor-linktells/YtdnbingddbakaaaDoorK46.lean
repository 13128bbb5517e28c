/- Chapter 10, plainly: an image has nothing open. -/
import Derived.Test.YtdnbingddbakaaaDoorK38
import Derived.Test.YtdnbingddbakaaaDoorK25
namespace Go.Proofs.YtdnbingddbakaaaDoor
set_option linter.unusedVariables false
set_option linter.unusedSimpArgs false
open Go.RowKit

theorem place_jump (gs : List Gl) (b : Nat) {x : In} (h : x.op = 8 ∨ x.op = 9 ∨ x.op = 10) : (placeI gs b x).a = x.a := by
  unfold placeI
  rw [if_neg (by omega), if_neg (by omega), if_neg (by omega), if_neg (by omega), if_neg (by omega), if_pos (by omega)]
theorem moves_place (gs : List Gl) (b : Nat) (x : In) : movesI (placeI gs b x) = movesI x := by
  unfold movesI
  rw [(place_op gs b x).1]
  by_cases h8 : x.op = 8
  · rw [place_jump gs b (Or.inl h8)]
  · simp [h8]
theorem leave_place (gs : List Gl) (b : Nat) (x : In) (last : Int) (h : List Int) (place : Nat) : leaveH last h place (placeI gs b x) = leaveH last h place x := by
  unfold leaveH
  rw [moves_place, (place_op gs b x).1]
  by_cases h9 : x.op = 9
  · rw [place_jump gs b (Or.inr (Or.inl h9))]
  by_cases h10 : x.op = 10
  · rw [place_jump gs b (Or.inr (Or.inr h10))]
  · simp [h9, h10]
theorem walk_place (gs : List Gl) (b : Nat) (last : Int) : ∀ (l : List In) (place : Nat) (h : List Int), walkS last place (l.map (placeI gs b)) h = walkS last place l h
  | [], _, _ => rfl
  | x :: r, place, h => by
    rw [List.map_cons, walkS, walkS, leave_place]
    split
    · rfl
    · cases leaveH last h place x with
      | none => rfl
      | some h' => exact walk_place gs b last r (place + 1) h'
theorem stack_place (gs : List Gl) (b : Nat) (l : List In) (body : Bool) : stackOk (l.map (placeI gs b)) body = stackOk l body := by
  unfold stackOk
  rw [List.length_map, walk_place]
theorem aro_eq {K Kl : Kn} {a c : Nat} (h : K[a]? = Kl[c]?) : aro K a = aro Kl c := by
  unfold aro
  rw [List.getD_eq_getElem?_getD, List.getD_eq_getElem?_getD, h]
/-- A unit's procedures stand in an image from b on. -/
def Stands (PP : List Pro) (b : Nat) (PPi : List Pro) : Prop := b + PP.length ≤ PPi.length ∧ ∀ i P, PP[i]? = some P → ∃ Q, PPi[b + i]? = some Q ∧ Q.args = P.args
/-- What is known of a unit's procedures is known there. -/
def Same (n b : Nat) (Kl K : Kn) : Prop := Kl.length = n ∧ ∀ i, i < n → K[b + i]? = Kl[i]?
theorem ins_place {PP PPi : List Pro} {gs : List Gl} {q len b : Nat} {x : In} {Kl K : Kn} (hs : Stands PP b PPi) (hk : Same PP.length b Kl K) (hq : q < PP.length) (hgl : x.op = 5 ∨ x.op = 12 ∨ x.op = 13 → ∃ i, idxG gs (x.lib, x.own) = some i)
    (h : (insW PP nameW q len x Kl).1 = 0) : (insW PPi (glN gs.length) (b + q) len (placeI gs b x) K).1 = 0 ∧ Same PP.length b (insW PP nameW q len x Kl).2 (insW PPi (glN gs.length) (b + q) len (placeI gs b x) K).2 ∧
      (insW PPi (glN gs.length) (b + q) len (placeI gs b x) K).2.length = K.length ∧ ∀ j, (j < b ∨ b + PP.length ≤ j) → (insW PPi (glN gs.length) (b + q) len (placeI gs b x) K).2[j]? = K[j]? := by
  have hop := (place_op gs b x).1
  by_cases h7 : x.op = 7
  · have hpa : (placeI gs b x).a = (b : Int) + x.a := by
      unfold placeI
      rw [if_neg (by omega), if_neg (by omega), if_neg (by omega), if_neg (by omega), if_pos h7]
    have e1 : insW PP nameW q len x Kl = closeW PP q x.a Kl := by
      unfold insW
      rw [if_neg (by omega), if_neg (by omega), if_neg (by omega), if_neg (by omega), if_neg (by omega), if_neg (by omega), if_pos h7]
    have e2 : insW PPi (glN gs.length) (b + q) len (placeI gs b x) K = closeW PPi (b + q) ((b : Int) + x.a) K := by
      unfold insW
      rw [hop, hpa, if_neg (by omega), if_neg (by omega), if_neg (by omega), if_neg (by omega), if_neg (by omega), if_neg (by omega), if_pos h7]
    rw [e1] at h ⊢
    rw [e2]
    unfold closeW at h ⊢
    by_cases c1 : x.a ≤ (q : Int) ∨ (PP.length : Int) ≤ x.a
    · rw [if_pos c1] at h; simp at h
    · rw [if_neg c1] at h ⊢
      obtain ⟨u, hu⟩ : ∃ u : Nat, x.a = (u : Int) := ⟨x.a.toNat, by omega⟩
      have hul : u < PP.length := by omega
      rw [hu] at h ⊢
      have e3 : ((b : Int) + (u : Int)).toNat = b + u := by omega
      rw [if_neg (by have := hs.1; omega), e3]
      simp only [Int.toNat_natCast] at h ⊢
      have hKu : K.getD (b + u) none = Kl.getD u none := by rw [List.getD_eq_getElem?_getD, List.getD_eq_getElem?_getD, hk.2 u hul]
      rw [hKu]
      by_cases c2 : (Kl.getD u none).isSome = true
      · rw [if_pos c2] at h; simp at h
      · rw [if_neg c2, if_neg c2]
        obtain ⟨Q, hQ, hQa⟩ := hs.2 u _ (List.getElem?_eq_getElem hul)
        have ea : (PPi.getD (b + u) ⟨0, []⟩).args = (PP.getD u ⟨0, []⟩).args := by
          rw [List.getD_eq_getElem?_getD, List.getD_eq_getElem?_getD, hQ, List.getElem?_eq_getElem hul]
          exact hQa
        have er : aro K (b + q) = aro Kl q := aro_eq (hk.2 q hq)
        rw [ea, er]
        have hKl : b + u < K.length := by
          have h1 := hk.2 u hul
          have h2 : u < Kl.length := by rw [hk.1]; exact hul
          rw [List.getElem?_eq_getElem h2] at h1
          exact (List.getElem?_eq_some_iff.1 h1).1
        refine ⟨rfl, ⟨by rw [List.length_set]; exact hk.1, fun i hi => ?_⟩, by rw [List.length_set], fun j hj => ?_⟩
        · by_cases e : i = u
          · subst e
            rw [List.getElem?_set_self hKl, List.getElem?_set_self (by rw [hk.1]; exact hul)]
          · rw [List.getElem?_set_ne (by omega), List.getElem?_set_ne (by omega)]
            exact hk.2 i hi
        · rw [List.getElem?_set_ne (by omega)]
  · have e1 : ∀ v, insW PP nameW q len x Kl = (v, Kl) → v = 0 := fun v hv => by rw [hv] at h; exact h
    have fin : ∀ v, insW PPi (glN gs.length) (b + q) len (placeI gs b x) K = (v, K) → v = 0 → insW PP nameW q len x Kl = ((insW PP nameW q len x Kl).1, Kl) → (insW PPi (glN gs.length) (b + q) len (placeI gs b x) K).1 = 0 ∧ Same PP.length b (insW PP nameW q len x Kl).2 (insW PPi (glN gs.length) (b + q) len (placeI gs b x) K).2 ∧
      (insW PPi (glN gs.length) (b + q) len (placeI gs b x) K).2.length = K.length ∧ ∀ j, (j < b ∨ b + PP.length ≤ j) → (insW PPi (glN gs.length) (b + q) len (placeI gs b x) K).2[j]? = K[j]? := fun v h1 h2 h3 => by
      rw [h1, h2, h3]
      exact ⟨rfl, hk, rfl, fun _ _ => rfl⟩
    have er : aro K (b + q) = aro Kl q := aro_eq (hk.2 q hq)
    have h3 : insW PP nameW q len x Kl = ((insW PP nameW q len x Kl).1, Kl) := by
      unfold insW
      repeat' split
      all_goals first | rfl | (exfalso; omega)
    refine fin (insW PP nameW q len x Kl).1 ?_ h h3
    unfold insW
    rw [hop]
    by_cases o1 : x.op = 1
    · rw [if_pos o1, if_pos o1, show (placeI gs b x).n = x.n by unfold placeI; rw [if_pos (Or.inl o1)]]
    by_cases o2 : x.op = 2
    · rw [if_neg o1, if_pos o2, if_neg o1, if_pos o2, show (placeI gs b x).n = x.n by unfold placeI; rw [if_pos (Or.inr o2)]]
    by_cases o3 : x.op = 3
    · have hq3 : (placeI gs b x).quote = bareQ x.quote := by unfold placeI; rw [if_neg (by omega), if_pos o3]
      have hw : (wrong [x.quote]).1 = 0 := by
        refine e1 _ ?_
        unfold insW
        rw [if_neg o1, if_neg o2, if_pos o3]
      rw [if_neg o1, if_neg o2, if_pos o3, if_neg o1, if_neg o2, if_pos o3, hq3, wrong_bare hw, hw]
    by_cases o4 : x.op = 4 ∨ x.op = 11
    · have ha : (placeI gs b x).a = x.a := by
        unfold placeI
        rw [if_neg (by omega), if_neg (by omega), if_neg (by omega), if_neg (by omega), if_neg (by omega), if_pos (by omega)]
      rw [if_neg o1, if_neg o2, if_neg o3, if_pos o4, if_neg o1, if_neg o2, if_neg o3, if_pos o4, ha, er]
    by_cases o5 : x.op = 5 ∨ x.op = 12 ∨ x.op = 13
    · obtain ⟨i, hi⟩ := hgl o5
      have hlt := idxG_ltt hi
      have ha : (placeI gs b x).a = (i : Int) := by
        unfold placeI
        rw [if_neg (by omega), if_neg (by omega), if_pos o5, hi]
        rfl
      have hw : nameW x = 0 := by
        refine e1 _ ?_
        unfold insW
        rw [if_neg o1, if_neg o2, if_neg o3, if_neg o4, if_pos o5]
      rw [if_neg o1, if_neg o2, if_neg o3, if_neg o4, if_pos o5, if_neg o1, if_neg o2, if_neg o3, if_neg o4, if_pos o5, hw]
      unfold glN
      rw [if_pos (by omega), ha, if_pos (by omega)]
    by_cases o6 : x.op = 6
    · have ho : (placeI gs b x).own = x.own := by
        unfold placeI
        rw [if_neg (by omega), if_neg (by omega), if_neg (by omega), if_pos o6]
      rw [if_neg o1, if_neg o2, if_neg o3, if_neg o4, if_neg o5, if_pos o6, if_neg o1, if_neg o2, if_neg o3, if_neg o4, if_neg o5, if_pos o6, ho]
    rw [if_neg o1, if_neg o2, if_neg o3, if_neg o4, if_neg o5, if_neg o6, if_neg h7, if_neg o1, if_neg o2, if_neg o3, if_neg o4, if_neg o5, if_neg o6, if_neg h7]
    by_cases o8 : x.op = 8
    · rw [if_pos o8, if_pos o8, place_jump gs b (Or.inl o8)]
    by_cases o9 : x.op = 9 ∨ x.op = 10
    · rw [if_neg o8, if_pos o9, if_neg o8, if_pos o9, place_jump gs b (Or.inr o9)]
    · rw [if_neg o8, if_neg o9, if_neg o8, if_neg o9]
      by_cases o14 : x.op = 14 ∨ x.op = 15
      · rw [if_pos o14, if_pos o14]
      · rw [if_neg o14, if_neg o14]
theorem code_place {PP PPi : List Pro} {gs : List Gl} {q len b : Nat} (hs : Stands PP b PPi) (hq : q < PP.length) : ∀ (c : List In) (Kl K : Kn), Same PP.length b Kl K → (∀ x ∈ c, x.op = 5 ∨ x.op = 12 ∨ x.op = 13 → ∃ i, idxG gs (x.lib, x.own) = some i) → (codeW PP nameW q len c Kl).1 = 0 →
    (codeW PPi (glN gs.length) (b + q) len (c.map (placeI gs b)) K).1 = 0 ∧ Same PP.length b (codeW PP nameW q len c Kl).2 (codeW PPi (glN gs.length) (b + q) len (c.map (placeI gs b)) K).2 ∧
      (codeW PPi (glN gs.length) (b + q) len (c.map (placeI gs b)) K).2.length = K.length ∧ ∀ j, (j < b ∨ b + PP.length ≤ j) → (codeW PPi (glN gs.length) (b + q) len (c.map (placeI gs b)) K).2[j]? = K[j]?
  | [], Kl, K, hk, _, _ => ⟨rfl, hk, rfl, fun _ _ => rfl⟩
  | x :: r, Kl, K, hk, hg, h => by
    rw [codeW] at h ⊢
    rw [List.map_cons, codeW]
    by_cases h1 : (insW PP nameW q len x Kl).1 = 0
    · rw [if_pos h1] at h ⊢
      obtain ⟨a1, a2, a3, a4⟩ := ins_place (gs := gs) hs hk hq (hg x (by simp)) h1
      rw [if_pos a1]
      obtain ⟨b1, b2, b3, b4⟩ := code_place hs hq r _ _ a2 (fun y hy => hg y (by simp [hy])) h
      exact ⟨b1, b2, b3.trans a3, fun j hj => (b4 j hj).trans (a4 j hj)⟩
    · rw [if_neg h1] at h; exact absurd h h1
theorem protos_place {PP PPi : List Pro} {gs : List Gl} {b : Nat} (hs : Stands PP b PPi) (hpi : ∀ i P, PP[i]? = some P → PPi[b + i]? = some (placeP gs b P)) (hg : ∀ P ∈ PP, ∀ x ∈ P.code, x.op = 5 ∨ x.op = 12 ∨ x.op = 13 → ∃ i, idxG gs (x.lib, x.own) = some i) : ∀ (m q M : Nat) (Kl K : Kn), q + m = PP.length → Same PP.length b Kl K → protosW PP nameW m q Kl = 0 →
    ∃ K', protosW PPi (glN gs.length) (m + M) (b + q) K = protosW PPi (glN gs.length) M (b + PP.length) K' ∧ K'.length = K.length ∧ ∀ j, (j < b ∨ b + PP.length ≤ j) → K'[j]? = K[j]?
  | 0, q, M, Kl, K, hm, _, _ => by
    obtain rfl : q = PP.length := by omega
    exact ⟨K, by rw [Nat.zero_add], rfl, fun _ _ => rfl⟩
  | m + 1, q, M, Kl, K, hm, hk, h => by
    rw [protosW] at h
    have hq : q < PP.length := by omega
    obtain ⟨P, hP⟩ : ∃ P, PP[q]? = some P := ⟨_, List.getElem?_eq_getElem hq⟩
    have g1 : PP.getD q ⟨0, []⟩ = P := by rw [List.getD_eq_getElem?_getD, hP]; rfl
    have g2 : PPi.getD (b + q) ⟨0, []⟩ = placeP gs b P := by rw [List.getD_eq_getElem?_getD, hpi q P hP]; rfl
    by_cases h1 : (protoW PP nameW q Kl).1 = 0
    · rw [if_pos h1] at h
      have hKq : K.getD (b + q) none = Kl.getD q none := by rw [List.getD_eq_getElem?_getD, List.getD_eq_getElem?_getD, hk.2 q hq]
      rw [show m + 1 + M = (m + M) + 1 by omega, protosW]
      unfold protoW at h h1 ⊢
      rw [hKq]
      cases hs1 : Kl.getD q none with
      | none => rw [hs1] at h1; simp at h1
      | some s =>
        rw [hs1] at h1 h
        simp only at h1 h ⊢
        rw [g1] at h1 h
        rw [g2]
        have el : (placeP gs b P).code.length = P.code.length := by simp [placeP]
        have ec : (placeP gs b P).code = P.code.map (placeI gs b) := rfl
        rw [el, ec]
        by_cases c1 : (codeW PP nameW q P.code.length P.code Kl).1 = 0
        · rw [if_pos c1] at h1 h
          obtain ⟨b1, b2, b3, b4⟩ := code_place (gs := gs) (len := P.code.length) hs hq P.code Kl K hk (hg P (List.mem_of_getElem? hP)) c1
          rw [if_pos b1]
          by_cases c2 : stackOk P.code s.1 = true
          · rw [stack_place, if_pos c2]
            simp only [if_true]
            obtain ⟨K', k1, k2, k3⟩ := protos_place hs hpi hg m (q + 1) M _ _ (by omega) b2 h
            exact ⟨K', by rw [← k1, Nat.add_assoc], k2.trans b3, fun j hj => (k3 j hj).trans (b4 j hj)⟩
          · rw [if_neg c2] at h1; simp at h1
        · rw [if_neg c1] at h1; exact absurd h1 c1
    · rw [if_neg h1] at h; exact absurd h h1
/-- Units' procedures, from a number on; where they start. -/
def imgF (gs : List Gl) : Nat → List Un → List Pro
  | _, [] => []
  | b, v :: r => v.2.map (placeP gs b) ++ imgF gs (b + v.2.length) r
def stF : Nat → List Un → List Int
  | _, [] => []
  | b, v :: r => (b : Int) :: stF (b + v.2.length) r
def lenF : List Un → Nat
  | [] => 0
  | v :: r => v.2.length + lenF r
theorem imgS_from (gs : List Gl) : ∀ (vs : List Un) (acc : List Pro × List Int), vs.foldl (imgStep gs) acc = (acc.1 ++ imgF gs acc.1.length vs, acc.2 ++ stF acc.1.length vs)
  | [], acc => by simp [imgF, stF]
  | v :: r, acc => by
    rw [List.foldl_cons, imgS_from gs r, imgF, stF]
    simp [imgStep]
theorem imgF_len (gs : List Gl) : ∀ (vs : List Un) (b : Nat), (imgF gs b vs).length = lenF vs
  | [], b => rfl
  | v :: r, b => by rw [imgF, List.length_append, List.length_map, imgF_len gs r, lenF]
theorem stF_len : ∀ (vs : List Un) (b : Nat), (stF b vs).length = vs.length
  | [], b => rfl
  | v :: r, b => by rw [stF, List.length_cons, stF_len r, List.length_cons]
/-- What is known of units that nothing was asked of yet. -/
def Init : List Un → Nat → Kn → Prop
  | [], _, _ => True
  | v :: r, b, K => K[b]? = some (some (true, 0)) ∧ (∀ i, 0 < i → i < v.2.length → K[b + i]? = some none) ∧ Init r (b + v.2.length) K
theorem Init.congr : ∀ (vs : List Un) (b : Nat) (K K' : Kn), (∀ v ∈ vs, 1 ≤ v.2.length) → (∀ j, b ≤ j → K'[j]? = K[j]?) → Init vs b K → Init vs b K'
  | [], _, _, _, _, _, _ => trivial
  | v :: r, b, K, K', h1, h, hi => by
    refine ⟨(h b (Nat.le_refl _)).trans hi.1, fun i h0 hi' => (h _ (by omega)).trans (hi.2.1 i h0 hi'), Init.congr r _ K K' (fun u hu => h1 u (by simp [hu])) (fun j hj => h j (by omega)) hi.2.2⟩
theorem unit_parts {v : Un} (h : wrongU v.1 v.2 = 0) : sizesW v.2 = 0 ∧ 1 ≤ v.2.length ∧ (v.2.getD 0 ⟨0, []⟩).args = 0 ∧ protosW v.2 nameW v.2.length 0 ((List.replicate v.2.length none).set 0 (some (true, 0))) = 0 := by
  unfold wrongU at h
  by_cases h1 : plainB v.1 = false
  · rw [if_pos h1] at h; simp at h
  rw [if_neg h1] at h
  by_cases h2 : v.2.length < 1 ∨ 500 < v.2.length
  · rw [if_pos h2] at h; simp at h
  rw [if_neg h2] at h
  unfold wrongPs at h
  by_cases h3 : sizesW v.2 ≠ 0
  · rw [if_pos h3] at h; exact absurd h h3
  rw [if_neg h3] at h
  by_cases h4 : (bodiesW v.2 [0] (List.replicate v.2.length none)).1 ≠ 0
  · rw [if_pos h4] at h; exact absurd h h4
  rw [if_neg h4] at h
  rw [bodiesW, if_neg (by omega)] at h4 h
  by_cases h5 : (v.2.getD (0 : Int).toNat ⟨0, []⟩).args ≠ 0
  · rw [if_pos h5] at h4; simp at h4
  rw [if_neg h5, bodiesW] at h
  exact ⟨by simpa using h3, by omega, by simpa using h5, h⟩
theorem bodies_place {PPi : List Pro} : ∀ (vs : List Un) (b : Nat) (K : Kn), (∀ v ∈ vs, 1 ≤ v.2.length) → (∀ s ∈ stF b vs, (PPi.getD s.toNat ⟨0, []⟩).args = 0) → b + lenF vs ≤ PPi.length → K.length = PPi.length → (∀ j, b ≤ j → j < PPi.length → K[j]? = some none) →
    ∃ K', bodiesW PPi (stF b vs) K = (0, K') ∧ Init vs b K' ∧ K'.length = PPi.length ∧ ∀ j, j < b → K'[j]? = K[j]?
  | [], b, K, _, _, _, hl, _ => ⟨K, rfl, trivial, hl, fun _ _ => rfl⟩
  | v :: r, b, K, h1, ha, hb, hl, hn => by
    have hv := h1 v (by simp)
    rw [lenF] at hb
    rw [stF] at ha ⊢
    rw [bodiesW, if_neg (by omega), if_neg (by have := ha (b : Int) (by simp); simpa using this)]
    simp only [Int.toNat_natCast]
    have hbl : b < K.length := by omega
    obtain ⟨K', k1, k2, k3, k4⟩ := bodies_place r (b + v.2.length) (K.set b (some (true, 0))) (fun u hu => h1 u (by simp [hu])) (fun s hs => ha s (by simp [hs])) (by omega) (by rw [List.length_set]; exact hl) (fun j hj hj2 => by rw [List.getElem?_set_ne (by omega)]; exact hn j (by omega) hj2)
    refine ⟨K', k1, ⟨?_, fun i h0 hi => ?_, k2⟩, k3, fun j hj => ?_⟩
    · rw [k4 b (by omega), List.getElem?_set_self hbl]
    · rw [k4 (b + i) (by omega), List.getElem?_set_ne (by omega)]
      exact hn _ (by omega) (by omega)
    · rw [k4 j (by omega), List.getElem?_set_ne (by omega)]
theorem units_place {PPi : List Pro} {gs : List Gl} : ∀ (vs : List Un) (b : Nat) (K : Kn), (∀ v ∈ vs, wrongU v.1 v.2 = 0) → (∀ x ∈ allI vs, x.op = 5 ∨ x.op = 12 ∨ x.op = 13 → ∃ i, idxG gs (x.lib, x.own) = some i) → PPi.drop b = imgF gs b vs → b + lenF vs = PPi.length → K.length = PPi.length → Init vs b K → protosW PPi (glN gs.length) (lenF vs) b K = 0
  | [], b, K, _, _, _, _, _, _ => rfl
  | v :: r, b, K, hw, hg, hd, hb, hl, hi => by
    obtain ⟨p1, p2, p3, p4⟩ := unit_parts (hw v (by simp))
    rw [imgF] at hd
    rw [lenF] at hb ⊢
    have hat : ∀ i P, v.2[i]? = some P → PPi[b + i]? = some (placeP gs b P) := fun i P hP => by
      have e : PPi[b + i]? = (PPi.drop b)[i]? := by rw [List.getElem?_drop]
      rw [e, hd, List.getElem?_append_left (by rw [List.length_map]; exact (List.getElem?_eq_some_iff.1 hP).1), List.getElem?_map, hP]
      rfl
    have hs : Stands v.2 b PPi := ⟨by omega, fun i P hP => ⟨_, hat i P hP, rfl⟩⟩
    have hk : Same v.2.length b ((List.replicate v.2.length none).set 0 (some (true, 0))) K := by
      refine ⟨by simp, fun i hi' => ?_⟩
      by_cases e : i = 0
      · subst e
        rw [List.getElem?_set_self (by simpa using hi'), Nat.add_zero]
        exact hi.1
      · rw [List.getElem?_set_ne (by omega), List.getElem?_replicate, if_pos hi']
        exact hi.2.1 i (by omega) hi'
    obtain ⟨K', k1, k2, k3⟩ := protos_place (gs := gs) hs hat (fun P hP x hx => hg x (by simp only [allI, List.mem_flatMap]; exact ⟨v, by simp, P, hP, hx⟩)) v.2.length 0 (lenF r) _ K (by omega) hk p4
    rw [Nat.add_zero] at k1
    rw [k1]
    refine units_place r (b + v.2.length) K' (fun u hu => hw u (by simp [hu])) (fun x hx => hg x (by rw [show v :: r = [v] ++ r from rfl, allI_app]; exact List.mem_append_right _ hx)) ?_ (by omega) (k2.trans hl) ?_
    · rw [← List.drop_drop, hd, List.drop_append, List.drop_of_length_le (by simp), List.nil_append]
      simp
    · exact Init.congr r _ K K' (fun u hu => (unit_parts (hw u (by simp [hu]))).2.1) (fun j hj => k3 j (Or.inr hj)) hi.2.2
theorem st_args {PPi : List Pro} {gs : List Gl} : ∀ (vs : List Un) (b : Nat), (∀ v ∈ vs, wrongU v.1 v.2 = 0) → PPi.drop b = imgF gs b vs → ∀ s ∈ stF b vs, (PPi.getD s.toNat ⟨0, []⟩).args = 0
  | [], b, _, _, s, hs => by simp [stF] at hs
  | v :: r, b, hw, hd, s, hs => by
    obtain ⟨p1, p2, p3, p4⟩ := unit_parts (hw v (by simp))
    rw [stF] at hs
    rw [imgF] at hd
    simp at hs
    rcases hs with rfl | hs
    · have e : PPi[b]? = (PPi.drop b)[0]? := by rw [List.getElem?_drop, Nat.add_zero]
      have h0 : 0 < v.2.length := by omega
      rw [Int.toNat_natCast, List.getD_eq_getElem?_getD, e, hd, List.getElem?_append_left (by rw [List.length_map]; exact h0), List.getElem?_map, List.getElem?_eq_getElem h0]
      rw [List.getD_eq_getElem?_getD, List.getElem?_eq_getElem h0] at p3
      exact p3
    · refine st_args (gs := gs) r (b + v.2.length) (fun u hu => hw u (by simp [hu])) ?_ s hs
      rw [← List.drop_drop, hd, List.drop_append, List.drop_of_length_le (by simp), List.nil_append]
      simp
theorem sizes_place (gs : List Gl) : ∀ (vs : List Un) (b : Nat), (∀ v ∈ vs, wrongU v.1 v.2 = 0) → ∀ P ∈ imgF gs b vs, 1 ≤ P.code.length ∧ P.code.length ≤ 6000 ∧ 0 ≤ P.args ∧ P.args ≤ 2000
  | [], b, _, P, hP => by simp [imgF] at hP
  | v :: r, b, hw, P, hP => by
    rw [imgF] at hP
    rcases List.mem_append.1 hP with hP | hP
    · obtain ⟨Q, hQ, rfl⟩ := List.mem_map.1 hP
      obtain ⟨a1, a2, a3, a4⟩ := sizesW_all (unit_parts (hw v (by simp))).1 Q hQ
      simp only [placeP, List.length_map]
      exact ⟨a3, a4, a1, a2⟩
    · exact sizes_place gs r _ (fun u hu => hw u (by simp [hu])) P hP
/-- AN IMAGE HAS NOTHING OPEN. -/
theorem image_right {us : List Un} (h : (linkF us).1 = 0) : wrongPs (imgS (defAll us us.length) us).1 (imgS (defAll us us.length) us).2 (glN ((defAll us us.length).length : Int)) = 0 := by
  obtain ⟨h1, h2, h3, h4⟩ := linkF_ok h
  have hw : ∀ v ∈ us, wrongU v.1 v.2 = 0 := fun v hv => by
    obtain ⟨i, hi⟩ := List.mem_iff_getElem?.1 hv
    have := fstF_zero us.length 0 h2 i (Nat.zero_le _) (by have := (List.getElem?_eq_some_iff.1 hi).1; omega)
    rw [unitE_at hi] at this
    exact defU_right this
  have hi : imgS (defAll us us.length) us = (imgF (defAll us us.length) 0 us, stF 0 us) := by
    unfold imgS
    rw [imgS_from]
    simp
  rw [hi]
  simp only
  obtain ⟨gs, hgs⟩ : ∃ g, g = defAll us us.length := ⟨_, rfl⟩
  have hg : ∀ x ∈ allI us, x.op = 5 ∨ x.op = 12 ∨ x.op = 13 → ∃ i, idxG gs (x.lib, x.own) = some i := fun x hx ho => by rw [hgs]; exact link_known h hx ho
  rw [← hgs]
  unfold wrongPs
  rw [sizesW_ok _ (sizes_place gs us 0 hw)]
  rw [if_neg (by decide)]
  obtain ⟨K', k1, k2, k3, _⟩ := bodies_place (PPi := imgF gs 0 us) us 0 (List.replicate (imgF gs 0 us).length none) (fun v hv => (unit_parts (hw v hv)).2.1) (st_args (gs := gs) us 0 hw (by simp)) (by rw [imgF_len]; omega) (by simp) (fun j _ hj => by rw [List.getElem?_replicate, if_pos hj])
  rw [k1]
  rw [if_neg (by simp)]
  simp only
  rw [show (imgF gs 0 us).length = lenF us from imgF_len gs us 0]
  exact units_place us 0 K' hw hg (by simp) (by rw [imgF_len]; omega) k3 k2
theorem stF_up : ∀ (vs : List Un) (b : Nat), (∀ v ∈ vs, 1 ≤ v.2.length) → ∀ i s, (stF b vs)[i]? = some s → (b : Int) ≤ s ∧ s < (b : Int) + (lenF vs : Int) ∧ ∀ t, (stF b vs)[i + 1]? = some t → s < t
  | [], b, _, i, s, h => by simp [stF] at h
  | v :: r, b, hv, 0, s, h => by
    have h1 := hv v (by simp)
    simp [stF] at h
    subst h
    refine ⟨Int.le_refl _, by rw [lenF]; omega, fun t ht => ?_⟩
    rw [stF, List.getElem?_cons_succ] at ht
    have := (stF_up r _ (fun u hu => hv u (by simp [hu])) 0 t ht).1
    omega
  | v :: r, b, hv, i + 1, s, h => by
    rw [stF, List.getElem?_cons_succ] at h
    obtain ⟨a1, a2, a3⟩ := stF_up r _ (fun u hu => hv u (by simp [hu])) i s h
    refine ⟨by omega, by rw [lenF]; omega, fun t ht => ?_⟩
    rw [stF, List.getElem?_cons_succ] at ht
    exact a3 t ht
end Go.Proofs.YtdnbingddbakaaaDoor
