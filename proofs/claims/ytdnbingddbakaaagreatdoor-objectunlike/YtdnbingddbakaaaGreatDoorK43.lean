/- Chapter 9, plainly: what a right unit's instructions are like; each is written back. -/
import Derived.Test.YtdnbingddbakaaaGreatDoorK42
import Derived.Test.YtdnbingddbakaaaGreatDoorK16
namespace Go.Proofs.YtdnbingddbakaaaGreatDoor
set_option linter.unusedVariables false
set_option linter.unusedSimpArgs false
open Go.RowKit

theorem chkL_right (g : Dat → Nat → Int × Nat) (hg : ∀ d n, n ≤ 2000 → (g d n).1 = 0 → smQ d ∧ n + 1 ≤ (g d n).2 ∧ (g d n).2 ≤ 2000) : ∀ (l : List Dat) (n : Nat), n ≤ 2000 → (chkL g l n).1 = 0 → smQL l ∧ n + l.length ≤ (chkL g l n).2 ∧ (chkL g l n).2 ≤ 2000
  | [], n, hn, _ => by rw [smQL, chkL]; exact ⟨trivial, Nat.le_refl _, hn⟩
  | d :: r, n, hn, h => by
    unfold chkL at h ⊢
    by_cases e : (g d n).1 = 0
    · rw [if_pos e] at h ⊢
      have h1 := hg d n hn e
      have h2 := chkL_right g hg r _ h1.2.2 h
      rw [smQL]
      refine ⟨⟨h1.1, h2.1⟩, ?_, h2.2.2⟩
      rw [List.length_cons]
      omega
    · rw [if_neg e] at h
      exact absurd h e
theorem chk_right : ∀ (f : Nat) (d : Dat) (n : Nat), n ≤ 2000 → (chk f d n).1 = 0 → smQ d ∧ n + 1 ≤ (chk f d n).2 ∧ (chk f d n).2 ≤ 2000
  | 0, d, n, _, h0 => by simp [chk] at h0
  | f + 1, d, n, h, h0 => by
    have hle := chk_le (f + 1) d n h h0
    refine ⟨?_, ?_, hle⟩
    · unfold chk at h0
      by_cases a : 2000 < n + 1
      · rw [if_pos a] at h0; simp at h0
      · rw [if_neg a] at h0
        by_cases b : alone d = 0
        · rw [if_pos b] at h0
          obtain ⟨k, m, nm, st, lb, ks⟩ := d
          rw [smQ]
          refine ⟨fun h3 => ?_, fun h4 => ?_⟩
          · subst h3
            unfold alone at b
            simp at b
            by_cases c : namedB nm = true
            · unfold namedB at c
              simp at c
              omega
            · simp [c] at b
          · simp only at h0
            rw [if_pos h4] at h0
            have h5 := chkL_right (chk f) (fun d n => chk_right f d n) ks (n + 1) (by omega) h0
            exact ⟨by omega, h5.1⟩
        · rw [if_neg b] at h0
          exact absurd h0 b
    · unfold chk at h0 ⊢
      by_cases a : 2000 < n + 1
      · rw [if_pos a] at h0; simp at h0
      · rw [if_neg a] at h0 ⊢
        by_cases b : alone d = 0
        · rw [if_pos b] at h0 ⊢
          by_cases c : d.kind = 4
          · rw [if_pos c] at h0 ⊢
            have h5 := chkL_right (chk f) (fun d n => chk_right f d n) d.kids (n + 1) (by omega) h0
            omega
          · rw [if_neg c]; exact Nat.le_refl _
        · rw [if_neg b] at h0
          exact absurd h0 b
theorem wrong_right {q : Dat} (h : (wrong [q]).1 = 0) : smQ q := by
  unfold wrong wrongFrom at h
  by_cases e : (chk 40 q 0).1 = 0
  · exact (chk_right 40 q 0 (by omega) e).1
  · rw [if_neg e] at h
    exact absurd h e
/-- No more parameters are around than two thousand for each procedure ahead. -/
def KI (K : Kn) : Prop := ∀ (i : Nat) s, K.getD i none = some s → s.2 ≤ 2000 * (i : Int)
theorem KI.aro {K : Kn} (h : KI K) (q : Nat) : aro K q ≤ 2000 * (q : Int) := by
  unfold Go.Proofs.YtdnbingddbakaaaGreatDoor.aro
  cases e : K.getD q none with
  | none => simp only; omega
  | some s => exact h q s e
theorem KI.set {K : Kn} (h : KI K) (a : Nat) (s : Bool × Int) (hs : s.2 ≤ 2000 * (a : Int)) : KI (K.set a (some s)) := by
  intro i t ht
  rw [List.getD_eq_getElem?_getD, List.getElem?_set] at ht
  by_cases e : a = i
  · subst e
    rw [if_pos rfl] at ht
    by_cases hl : a < K.length
    · rw [if_pos hl] at ht
      simp at ht
      rw [← ht]; exact hs
    · rw [if_neg hl] at ht
      simp at ht
  · rw [if_neg e] at ht
    exact h i t (by rw [List.getD_eq_getElem?_getD]; exact ht)
theorem getP_args {PP : List Pro} (hP : ∀ P ∈ PP, P.args ≤ 2000) (i : Nat) : (PP.getD i ⟨0, []⟩).args ≤ 2000 := by
  rw [List.getD_eq_getElem?_getD]
  cases e : PP[i]? with
  | none => simp
  | some P => exact hP P (List.mem_of_getElem? e)
theorem ins_KI {PP : List Pro} {gl : In → Int} {q len : Nat} {x : In} {K : Kn} (hP : ∀ P ∈ PP, P.args ≤ 2000) (h : KI K) (h0 : (insW PP gl q len x K).1 = 0) : KI (insW PP gl q len x K).2 := by
  by_cases h7 : x.op = 7
  · have e : insW PP gl q len x K = closeW PP q x.a K := by unfold insW; simp [h7]
    rw [e] at h0 ⊢
    unfold closeW at h0 ⊢
    by_cases c1 : x.a ≤ q ∨ (PP.length : Int) ≤ x.a
    · rw [if_pos c1] at h0; simp at h0
    rw [if_neg c1] at h0 ⊢
    by_cases c2 : (K.getD x.a.toNat none).isSome = true
    · rw [if_pos c2] at h0; simp at h0
    rw [if_neg c2]
    refine h.set _ _ ?_
    have h1 := h.aro q
    have h2 := getP_args hP x.a.toNat
    simp only
    omega
  · have e : (insW PP gl q len x K).2 = K := by
      unfold insW
      (repeat' split) <;> first | rfl | omega
    rw [e]; exact h
theorem code_KI {PP : List Pro} {gl : In → Int} {q len : Nat} (hP : ∀ P ∈ PP, P.args ≤ 2000) : ∀ (c : List In) (K : Kn), KI K → (codeW PP gl q len c K).1 = 0 → (∀ x ∈ c, ∃ K', KI K' ∧ (insW PP gl q len x K').1 = 0) ∧ KI (codeW PP gl q len c K).2
  | [], K, hk, _ => ⟨fun x hx => by simp at hx, hk⟩
  | y :: r, K, hk, h => by
    rw [codeW] at h ⊢
    by_cases h0 : (insW PP gl q len y K).1 = 0
    · rw [if_pos h0] at h ⊢
      obtain ⟨i1, i2⟩ := code_KI hP r _ (ins_KI hP hk h0) h
      refine ⟨fun x hx => ?_, i2⟩
      rcases List.mem_cons.1 hx with rfl | hx
      · exact ⟨K, hk, h0⟩
      · exact i1 x hx
    · rw [if_neg h0] at h
      exact absurd h h0
theorem proto_KI {PP : List Pro} {gl : In → Int} {q : Nat} {K : Kn} (hP : ∀ P ∈ PP, P.args ≤ 2000) (hk : KI K) (h : (protoW PP gl q K).1 = 0) : (∀ x ∈ (PP.getD q ⟨0, []⟩).code, ∃ K', KI K' ∧ (insW PP gl q (PP.getD q ⟨0, []⟩).code.length x K').1 = 0) ∧ KI (protoW PP gl q K).2 := by
  unfold protoW at h ⊢
  cases e : K.getD q none with
  | none => rw [e] at h; simp at h
  | some s =>
    rw [e] at h
    simp only at h ⊢
    by_cases h0 : (codeW PP gl q (PP.getD q ⟨0, []⟩).code.length (PP.getD q ⟨0, []⟩).code K).1 = 0
    · rw [if_pos h0]
      exact code_KI hP _ _ hk h0
    · rw [if_neg h0] at h
      exact absurd h h0
theorem protos_KI {PP : List Pro} {gl : In → Int} (hP : ∀ P ∈ PP, P.args ≤ 2000) : ∀ (n q : Nat) (K : Kn), KI K → protosW PP gl n q K = 0 → ∀ i, q ≤ i → i < q + n → ∀ x ∈ (PP.getD i ⟨0, []⟩).code, ∃ K', KI K' ∧ (insW PP gl i (PP.getD i ⟨0, []⟩).code.length x K').1 = 0
  | 0, q, K, _, _, i, h1, h2 => absurd h1 (by omega)
  | n + 1, q, K, hk, h, i, h1, h2 => by
    rw [protosW] at h
    by_cases h0 : (protoW PP gl q K).1 = 0
    · rw [if_pos h0] at h
      obtain ⟨p1, p2⟩ := proto_KI hP hk h0
      by_cases e : i = q
      · subst e; exact p1
      · exact protos_KI hP n (q + 1) _ p2 h i (by omega) (by omega)
    · rw [if_neg h0] at h
      exact absurd h h0
theorem sizes_args : ∀ (l : List Pro), sizesW l = 0 → ∀ P ∈ l, (0 ≤ P.args ∧ P.args ≤ 2000) ∧ P.code.length ≤ 6000
  | [], _, P, hP => by simp at hP
  | Q :: r, h, P, hP => by
    rw [sizesW] at h
    by_cases h1 : Q.code.length < 1 ∨ 6000 < Q.code.length
    · rw [if_pos h1] at h; simp at h
    · rw [if_neg h1] at h
      by_cases h2 : Q.args < 0 ∨ 2000 < Q.args
      · rw [if_pos h2] at h; simp at h
      · rw [if_neg h2] at h
        rcases List.mem_cons.1 hP with rfl | hP
        · omega
        · exact sizes_args r h P hP
/-- What a right unit is like. -/
structure RightU (nm : ByteArray) (PP : List Pro) : Prop where
  name : plainB nm = true
  n500 : PP.length ≤ 500
  size : ∀ P ∈ PP, (0 ≤ P.args ∧ P.args ≤ 2000) ∧ P.code.length ≤ 6000
  ins : ∀ (q : Nat) (P : Pro), PP[q]? = some P → ∀ x ∈ P.code, ∃ K, KI K ∧ (insW PP nameW q P.code.length x K).1 = 0
theorem rightU_of {nm : ByteArray} {PP : List Pro} (h : wrongU nm PP = 0) : RightU nm PP := by
  unfold wrongU at h
  by_cases h1 : plainB nm = false
  · rw [if_pos h1] at h; simp at h
  rw [if_neg h1] at h
  by_cases h2 : PP.length < 1 ∨ 500 < PP.length
  · rw [if_pos h2] at h; simp at h
  rw [if_neg h2] at h
  unfold wrongPs at h
  by_cases h3 : sizesW PP ≠ 0
  · rw [if_pos h3] at h; exact absurd h h3
  rw [if_neg h3] at h
  by_cases h4 : (bodiesW PP [0] (List.replicate PP.length none)).1 ≠ 0
  · rw [if_pos h4] at h; exact absurd h h4
  rw [if_neg h4] at h
  have hs := sizes_args PP (by simpa using h3)
  have k0 : KI (List.replicate PP.length none) := by
    intro i s hi
    rw [List.getD_eq_getElem?_getD, List.getElem?_replicate] at hi
    split at hi <;> simp at hi
  have kb : KI (bodiesW PP [0] (List.replicate PP.length none)).2 := by
    rw [bodiesW]
    split
    · exact k0
    · split
      · exact k0
      · rw [bodiesW]
        exact k0.set _ _ (by simp)
  refine ⟨by simpa using h1, by omega, hs, fun q P hP x hx => ?_⟩
  obtain ⟨hq, e⟩ := List.getElem?_eq_some_iff.1 hP
  have := protos_KI (fun P hP => (hs P hP).1.2) PP.length 0 _ kb h q (Nat.zero_le _) (by omega)
  have hg : PP.getD q ⟨0, []⟩ = P := by rw [List.getD_eq_getElem?_getD, hP]; rfl
  rw [hg] at this
  exact this x hx
theorem args_short (s : ByteArray) (h : argsB s ≠ 0) : s.size ≤ 100 := by
  have hm : s ∈ primTab.map (·.1) := (argsTab_mem primTab s (by decide)).1 h
  have hall : ∀ x ∈ primTab.map (·.1), x.size ≤ 100 := by decide
  exact hall s hm
theorem name_short {x : In} (h : nameW x = 0) : x.lib.size ≤ 100 ∧ x.own.size ≤ 100 := by
  unfold nameW at h
  by_cases hb : (plainB x.lib && namedB x.own) = true
  · simp [plainB, namedB] at hb
    omega
  · rw [if_neg hb] at h
    simp at h
theorem close_small {PP : List Pro} {q : Nat} {a : Int} {K : Kn} (h : (closeW PP q a K).1 = 0) (h5 : PP.length ≤ 500) : -1000000000000000 ≤ a ∧ a ≤ 1000000000000000 := by
  unfold closeW at h
  by_cases c1 : a ≤ q ∨ (PP.length : Int) ≤ a
  · rw [if_pos c1] at h; simp at h
  · omega
theorem RightU.isok {nm : ByteArray} {PP : List Pro} (h : RightU nm PP) {P : Pro} (hP : P ∈ PP) {x : In} (hx : x ∈ P.code) : IsOk x ∧ (x.op = 3 → (wrong [x.quote]).1 = 0) := by
  obtain ⟨q, hq⟩ := List.mem_iff_getElem?.1 hP
  obtain ⟨K, hk, hK⟩ := h.ins q P hq x hx
  have h5 := h.n500
  have hq5 : q < PP.length := (List.getElem?_eq_some_iff.1 hq).1
  have hc := (h.size P hP).2
  have ha := hk.aro q
  unfold insW at hK
  have ho : 1 ≤ x.op ∧ x.op ≤ 15 := by
    by_cases h1 : 1 ≤ x.op ∧ x.op ≤ 15
    · exact h1
    · rw [if_neg (by omega), if_neg (by omega), if_neg (by omega), if_neg (by omega), if_neg (by omega), if_neg (by omega), if_neg (by omega), if_neg (by omega), if_neg (by omega), if_neg (by omega)] at hK
      simp at hK
  have hop : x.op = 1 ∨ x.op = 2 ∨ x.op = 3 ∨ x.op = 4 ∨ x.op = 5 ∨ x.op = 6 ∨ x.op = 7 ∨ x.op = 8 ∨ x.op = 9 ∨ x.op = 10 ∨ x.op = 11 ∨ x.op = 12 ∨ x.op = 13 ∨ x.op = 14 ∨ x.op = 15 := by omega
  have key : (layW x.op = 2 → -1000000000000000 ≤ x.n ∧ x.n ≤ 1000000000000000) ∧ (layW x.op = 6 → -1000000000000000 ≤ x.a ∧ x.a ≤ 1000000000000000) ∧ (layW x.op = 4 → x.lib.size ≤ 100) ∧ (layW x.op = 4 ∨ layW x.op = 5 → x.own.size ≤ 100) ∧ (x.op = 3 → (wrong [x.quote]).1 = 0) := by
    rcases hop with e | e | e | e | e | e | e | e | e | e | e | e | e | e | e <;> rw [e] at hK ⊢ <;> simp [layW] at hK ⊢
    all_goals first
      | exact hK
      | omega
      | (split at hK <;> first | omega | (simp at hK))
      | exact name_short hK
      | exact args_short _ hK
      | exact close_small hK h5
  exact ⟨⟨ho, key.1, key.2.1, key.2.2.1, key.2.2.2.1⟩, key.2.2.2.2⟩
/-- Each instruction of a right unit is written so. -/
theorem wi_ok {nm : ByteArray} {PP : List Pro} (h : wrongU nm PP = 0) (B b : Nat) : WIok qtP B b PP := by
  have hr := rightU_of h
  intro P hP x hx ib io qa qc l w hil hib hwr hB htb hl
  obtain ⟨ho, hq⟩ := hr.isok hP hx
  rcases layW_ok ho.1 with c | c | c | c | c | c
  · exact ins_w1 qtP B b ib io l x w hwr hB hib hl ho c hil.c0 hil.c1 hil.c2 hil.c3 hil.c4
  · exact ins_w2 qtP B b ib io l x w hwr hB hib hl ho c hil.c0 hil.c1 hil.c2 hil.c3 hil.c4
  · have h3 : x.op = 3 := by
      have := ho.1
      unfold layW at c
      (repeat' split at c) <;> omega
    exact ins_w3 B b ib io l x qa qc w hwr hB hib hl htb h3 (hq h3) hil
  · exact ins_w4 qtP B b ib io l x w hwr hB hib hl ho c hil.c0 hil.c1 hil.c2 hil.c3 hil.c4
  · exact ins_w5 qtP B b ib io l x w hwr hB hib hl ho c hil.c0 hil.c1 hil.c2 hil.c3 hil.c4
  · exact ins_w6 qtP B b ib io l x w hwr hB hib hl ho c hil.c0 hil.c1 hil.c2 hil.c3 hil.c4
theorem flat_mem {α : Type} {f : α → List UInt8} : ∀ {l : List α} {x : α}, x ∈ l → (f x).length ≤ (l.flatMap f).length
  | [], _, h => by simp at h
  | y :: r, x, h => by
    rw [List.flatMap_cons, List.length_append]
    rcases List.mem_cons.1 h with rfl | h
    · omega
    · have := flat_mem (f := f) h
      omega
/-- A right unit that is not too long: all of it can be read back. -/
theorem fits {nm : ByteArray} {PP : List Pro} (h : wrongU nm PP = 0) (hl : (unitB qtP nm PP).length ≤ 60000) : ∀ P ∈ PP, FitP P := by
  have hr := rightU_of h
  intro P hP
  refine ⟨(hr.size P hP).1, (hr.size P hP).2, fun x hx => ?_⟩
  obtain ⟨ho, hq⟩ := hr.isok hP hx
  refine ⟨ho, fun c => ?_⟩
  have h3 : x.op = 3 := by
    have := ho.1
    unfold layW at c
    (repeat' split at c) <;> omega
  refine ⟨hq h3, ?_⟩
  by_cases hb : 6000 < (printed [x.quote]).length
  · exfalso
    have e1 := flat_mem (f := protoB qtP) hP
    have e2 := flat_mem (f := insB qtP) hx
    have e3 : (insB qtP x).length = (numB x.op).length + (textB (qtP x.quote)).length := by unfold insB; simp [c]
    have e4 := big_quote hb
    have e5 : (P.code.flatMap (insB qtP)).length ≤ (protoB qtP P).length := by unfold protoB; simp only [List.length_append]; omega
    have e6 : (PP.flatMap (protoB qtP)).length ≤ (unitB qtP nm PP).length := by unfold unitB; simp only [List.length_append]; omega
    omega
  · omega
/-- WHAT IS WRITTEN IS READ. -/
theorem turn_there {nm : ByteArray} {PP : List Pro} {bs : List UInt8} (h : bytesU qtP nm PP = (0, bs)) : wrongU nm PP = 0 ∧ parseU qrP bs = some (0, nm, PP.map bareP) := by
  unfold bytesU at h
  by_cases h0 : wrongU nm PP = 0
  · rw [if_pos h0] at h
    by_cases hl : (unitB qtP nm PP).length ≤ 60000
    · rw [if_pos hl] at h
      simp only [Prod.mk.injEq, true_and] at h
      subst h
      refine ⟨h0, ?_⟩
      have hr := rightU_of h0
      have hn : nm.size ≤ 60 := by have := hr.name; simp [plainB] at this; exact this.1
      unfold parseU
      rw [if_neg (by omega), unit_back hn hr.n500 (fits h0 hl)]
      simp [wrongU_bare h0]
    · rw [if_neg hl] at h; simp at h
  · rw [if_neg h0] at h
    simp only [Prod.mk.injEq] at h
    exact absurd h.1 h0
/-- IN ONE WAY ALONE. -/
theorem turn_back {nm : ByteArray} {PP : List Pro} {bs : List UInt8} (h : parseU qrP bs = some (0, nm, PP)) : wrongU nm PP = 0 ∧ bytesU qtP nm PP = (0, bs) ∧ bs ≠ [] := by
  unfold parseU at h
  by_cases hl : 60000 < bs.length
  · rw [if_pos hl] at h; simp at h
  rw [if_neg hl] at h
  cases e : unitR qrP bs false with
  | none => rw [e] at h; simp at h
  | some y =>
    obtain ⟨⟨nm', PP'⟩, l', b'⟩ := y
    rw [e] at h
    simp only [Option.map_some, Option.some.injEq] at h
    by_cases hc : b' = true ∨ 0 < l'.length
    · rw [if_pos hc] at h; simp at h
    rw [if_neg hc] at h
    by_cases h0 : wrongU nm' PP' = 0
    · rw [if_pos h0] at h
      simp only [Prod.mk.injEq, true_and] at h
      obtain ⟨rfl, rfl⟩ := h
      have hb : b' = false := by simpa using fun x => hc (Or.inl x)
      have hl0 : l' = [] := List.eq_nil_of_length_eq_zero (by omega)
      subst hb hl0
      obtain ⟨_, e2⟩ := unit_of e
      rw [List.append_nil] at e2
      refine ⟨h0, ?_, ?_⟩
      · unfold bytesU
        rw [if_pos h0, ← e2, if_pos (by omega)]
      · rw [e2]
        unfold unitB textB
        have := numB_ne (nm'.size : Int)
        intro hz
        have hz := congrArg List.length hz
        simp only [List.length_append, List.length_nil] at hz
        omega
    · rw [if_neg h0] at h
      simp only [Prod.mk.injEq] at h
      exact absurd h.1 h0
theorem parse_bad {nm : ByteArray} {PP : List Pro} {y : Int} {bs : List UInt8} (h : parseU qrP bs = some (y, nm, PP)) (hy : y ≠ 0) : nm = ⟨#[]⟩ ∧ PP = [] := by
  unfold parseU at h
  by_cases hl : 60000 < bs.length
  · rw [if_pos hl] at h; simp at h; exact ⟨h.2.1.symm, h.2.2⟩
  rw [if_neg hl] at h
  cases e : unitR qrP bs false with
  | none => rw [e] at h; simp at h
  | some c =>
    rw [e] at h
    simp only [Option.map_some, Option.some.injEq] at h
    by_cases hc : c.2.2 = true ∨ 0 < c.2.1.length
    · rw [if_pos hc] at h
      simp only [Prod.mk.injEq] at h
      exact ⟨h.2.1.symm, h.2.2.symm⟩
    rw [if_neg hc] at h
    by_cases h0 : wrongU c.1.1 c.1.2 = 0
    · rw [if_pos h0] at h
      simp only [Prod.mk.injEq] at h
      exact absurd h.1.symm hy
    · rw [if_neg h0] at h
      simp only [Prod.mk.injEq] at h
      exact ⟨h.2.1.symm, h.2.2.symm⟩
end Go.Proofs.YtdnbingddbakaaaGreatDoor
