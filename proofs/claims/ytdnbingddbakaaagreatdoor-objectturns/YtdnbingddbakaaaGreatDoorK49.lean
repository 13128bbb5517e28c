/- Chapter 9, plainly: what a right unit's instructions are like; each is written back. Chapter 9: ObjectTurns, the walk. -/
import Derived.Deep.CutBlock
import Derived.Test.YtdnbingddbakaaaGreatDoorK15
import Derived.Test.YtdnbingddbakaaaGreatDoorK45
import Derived.Test.YtdnbingddbakaaaGreatDoorK48
namespace Go.Proofs.YtdnbingddbakaaaGreatDoor
section
set_option linter.unusedVariables false
set_option linter.unusedSimpArgs false
open Go.RowKit

theorem chkL_right (g : Dat → Nat → Int × Nat) (hg : ∀ d n, n ≤ 2000 → (g d n).1 = 0 → smQ d ∧ n + 1 ≤ (g d n).2 ∧ (g d n).2 ≤ 2000) : ∀ (l : List Dat) (n : Nat), n ≤ 2000 → (chkL g l n).1 = 0 → smQL l ∧ n + l.length ≤ (chkL g l n).2 ∧ (chkL g l n).2 ≤ 2000
  | [], n, hn, _ => by rw [smQL, chkL]; exact ⟨trivial, Nat.le_refl _, hn⟩
  | d :: r, n, hn, h => by
    unfold chkL at h ⊢
    by_cases e : (g d n).1 = 0
    · rw [if_pos e] at h ⊢
      have h1 := hg d n hn e
      have h2 := chkL_right g hg r _ h1.2.2 h
      rw [smQL]
      refine ⟨⟨h1.1, h2.1⟩, ?_, h2.2.2⟩
      rw [List.length_cons]
      omega
    · rw [if_neg e] at h
      exact absurd h e
theorem chk_right : ∀ (f : Nat) (d : Dat) (n : Nat), n ≤ 2000 → (chk f d n).1 = 0 → smQ d ∧ n + 1 ≤ (chk f d n).2 ∧ (chk f d n).2 ≤ 2000
  | 0, d, n, _, h0 => by simp [chk] at h0
  | f + 1, d, n, h, h0 => by
    have hle := chk_le (f + 1) d n h h0
    refine ⟨?_, ?_, hle⟩
    · unfold chk at h0
      by_cases a : 2000 < n + 1
      · rw [if_pos a] at h0; simp at h0
      · rw [if_neg a] at h0
        by_cases b : alone d = 0
        · rw [if_pos b] at h0
          obtain ⟨k, m, nm, st, lb, ks⟩ := d
          rw [smQ]
          refine ⟨fun h3 => ?_, fun h4 => ?_⟩
          · subst h3
            unfold alone at b
            simp at b
            by_cases c : namedB nm = true
            · unfold namedB at c
              simp at c
              omega
            · simp [c] at b
          · simp only at h0
            rw [if_pos h4] at h0
            have h5 := chkL_right (chk f) (fun d n => chk_right f d n) ks (n + 1) (by omega) h0
            exact ⟨by omega, h5.1⟩
        · rw [if_neg b] at h0
          exact absurd h0 b
    · unfold chk at h0 ⊢
      by_cases a : 2000 < n + 1
      · rw [if_pos a] at h0; simp at h0
      · rw [if_neg a] at h0 ⊢
        by_cases b : alone d = 0
        · rw [if_pos b] at h0 ⊢
          by_cases c : d.kind = 4
          · rw [if_pos c] at h0 ⊢
            have h5 := chkL_right (chk f) (fun d n => chk_right f d n) d.kids (n + 1) (by omega) h0
            omega
          · rw [if_neg c]; exact Nat.le_refl _
        · rw [if_neg b] at h0
          exact absurd h0 b
theorem wrong_right {q : Dat} (h : (wrong [q]).1 = 0) : smQ q := by
  unfold wrong wrongFrom at h
  by_cases e : (chk 40 q 0).1 = 0
  · exact (chk_right 40 q 0 (by omega) e).1
  · rw [if_neg e] at h
    exact absurd h e
/-- No more parameters are around than two thousand for each procedure ahead. -/
def KI (K : Kn) : Prop := ∀ (i : Nat) s, K.getD i none = some s → s.2 ≤ 2000 * (i : Int)
theorem KI.aro {K : Kn} (h : KI K) (q : Nat) : aro K q ≤ 2000 * (q : Int) := by
  unfold Go.Proofs.YtdnbingddbakaaaGreatDoor.aro
  cases e : K.getD q none with
  | none => simp only; omega
  | some s => exact h q s e
theorem KI.set {K : Kn} (h : KI K) (a : Nat) (s : Bool × Int) (hs : s.2 ≤ 2000 * (a : Int)) : KI (K.set a (some s)) := by
  intro i t ht
  rw [List.getD_eq_getElem?_getD, List.getElem?_set] at ht
  by_cases e : a = i
  · subst e
    rw [if_pos rfl] at ht
    by_cases hl : a < K.length
    · rw [if_pos hl] at ht
      simp at ht
      rw [← ht]; exact hs
    · rw [if_neg hl] at ht
      simp at ht
  · rw [if_neg e] at ht
    exact h i t (by rw [List.getD_eq_getElem?_getD]; exact ht)
theorem getP_args {PP : List Pro} (hP : ∀ P ∈ PP, P.args ≤ 2000) (i : Nat) : (PP.getD i ⟨0, []⟩).args ≤ 2000 := by
  rw [List.getD_eq_getElem?_getD]
  cases e : PP[i]? with
  | none => simp
  | some P => exact hP P (List.mem_of_getElem? e)
theorem ins_KI {PP : List Pro} {gl : In → Int} {q len : Nat} {x : In} {K : Kn} (hP : ∀ P ∈ PP, P.args ≤ 2000) (h : KI K) (h0 : (insW PP gl q len x K).1 = 0) : KI (insW PP gl q len x K).2 := by
  by_cases h7 : x.op = 7
  · have e : insW PP gl q len x K = closeW PP q x.a K := by unfold insW; simp [h7]
    rw [e] at h0 ⊢
    unfold closeW at h0 ⊢
    by_cases c1 : x.a ≤ q ∨ (PP.length : Int) ≤ x.a
    · rw [if_pos c1] at h0; simp at h0
    rw [if_neg c1] at h0 ⊢
    by_cases c2 : (K.getD x.a.toNat none).isSome = true
    · rw [if_pos c2] at h0; simp at h0
    rw [if_neg c2]
    refine h.set _ _ ?_
    have h1 := h.aro q
    have h2 := getP_args hP x.a.toNat
    simp only
    omega
  · have e : (insW PP gl q len x K).2 = K := by
      unfold insW
      (repeat' split) <;> first | rfl | omega
    rw [e]; exact h
theorem code_KI {PP : List Pro} {gl : In → Int} {q len : Nat} (hP : ∀ P ∈ PP, P.args ≤ 2000) : ∀ (c : List In) (K : Kn), KI K → (codeW PP gl q len c K).1 = 0 → (∀ x ∈ c, ∃ K', KI K' ∧ (insW PP gl q len x K').1 = 0) ∧ KI (codeW PP gl q len c K).2
  | [], K, hk, _ => ⟨fun x hx => by simp at hx, hk⟩
  | y :: r, K, hk, h => by
    rw [codeW] at h ⊢
    by_cases h0 : (insW PP gl q len y K).1 = 0
    · rw [if_pos h0] at h ⊢
      obtain ⟨i1, i2⟩ := code_KI hP r _ (ins_KI hP hk h0) h
      refine ⟨fun x hx => ?_, i2⟩
      rcases List.mem_cons.1 hx with rfl | hx
      · exact ⟨K, hk, h0⟩
      · exact i1 x hx
    · rw [if_neg h0] at h
      exact absurd h h0
theorem proto_KI {PP : List Pro} {gl : In → Int} {q : Nat} {K : Kn} (hP : ∀ P ∈ PP, P.args ≤ 2000) (hk : KI K) (h : (protoW PP gl q K).1 = 0) : (∀ x ∈ (PP.getD q ⟨0, []⟩).code, ∃ K', KI K' ∧ (insW PP gl q (PP.getD q ⟨0, []⟩).code.length x K').1 = 0) ∧ KI (protoW PP gl q K).2 := by
  unfold protoW at h ⊢
  cases e : K.getD q none with
  | none => rw [e] at h; simp at h
  | some s =>
    rw [e] at h
    simp only at h ⊢
    by_cases h0 : (codeW PP gl q (PP.getD q ⟨0, []⟩).code.length (PP.getD q ⟨0, []⟩).code K).1 = 0
    · rw [if_pos h0]
      exact code_KI hP _ _ hk h0
    · rw [if_neg h0] at h
      exact absurd h h0
theorem protos_KI {PP : List Pro} {gl : In → Int} (hP : ∀ P ∈ PP, P.args ≤ 2000) : ∀ (n q : Nat) (K : Kn), KI K → protosW PP gl n q K = 0 → ∀ i, q ≤ i → i < q + n → ∀ x ∈ (PP.getD i ⟨0, []⟩).code, ∃ K', KI K' ∧ (insW PP gl i (PP.getD i ⟨0, []⟩).code.length x K').1 = 0
  | 0, q, K, _, _, i, h1, h2 => absurd h1 (by omega)
  | n + 1, q, K, hk, h, i, h1, h2 => by
    rw [protosW] at h
    by_cases h0 : (protoW PP gl q K).1 = 0
    · rw [if_pos h0] at h
      obtain ⟨p1, p2⟩ := proto_KI hP hk h0
      by_cases e : i = q
      · subst e; exact p1
      · exact protos_KI hP n (q + 1) _ p2 h i (by omega) (by omega)
    · rw [if_neg h0] at h
      exact absurd h h0
theorem sizes_args : ∀ (l : List Pro), sizesW l = 0 → ∀ P ∈ l, (0 ≤ P.args ∧ P.args ≤ 2000) ∧ P.code.length ≤ 6000
  | [], _, P, hP => by simp at hP
  | Q :: r, h, P, hP => by
    rw [sizesW] at h
    by_cases h1 : Q.code.length < 1 ∨ 6000 < Q.code.length
    · rw [if_pos h1] at h; simp at h
    · rw [if_neg h1] at h
      by_cases h2 : Q.args < 0 ∨ 2000 < Q.args
      · rw [if_pos h2] at h; simp at h
      · rw [if_neg h2] at h
        rcases List.mem_cons.1 hP with rfl | hP
        · omega
        · exact sizes_args r h P hP
/-- What a right unit is like. -/
structure RightU (nm : ByteArray) (PP : List Pro) : Prop where
  name : plainB nm = true
  n500 : PP.length ≤ 500
  size : ∀ P ∈ PP, (0 ≤ P.args ∧ P.args ≤ 2000) ∧ P.code.length ≤ 6000
  ins : ∀ (q : Nat) (P : Pro), PP[q]? = some P → ∀ x ∈ P.code, ∃ K, KI K ∧ (insW PP nameW q P.code.length x K).1 = 0
theorem rightU_of {nm : ByteArray} {PP : List Pro} (h : wrongU nm PP = 0) : RightU nm PP := by
  unfold wrongU at h
  by_cases h1 : plainB nm = false
  · rw [if_pos h1] at h; simp at h
  rw [if_neg h1] at h
  by_cases h2 : PP.length < 1 ∨ 500 < PP.length
  · rw [if_pos h2] at h; simp at h
  rw [if_neg h2] at h
  unfold wrongPs at h
  by_cases h3 : sizesW PP ≠ 0
  · rw [if_pos h3] at h; exact absurd h h3
  rw [if_neg h3] at h
  by_cases h4 : (bodiesW PP [0] (List.replicate PP.length none)).1 ≠ 0
  · rw [if_pos h4] at h; exact absurd h h4
  rw [if_neg h4] at h
  have hs := sizes_args PP (by simpa using h3)
  have k0 : KI (List.replicate PP.length none) := by
    intro i s hi
    rw [List.getD_eq_getElem?_getD, List.getElem?_replicate] at hi
    split at hi <;> simp at hi
  have kb : KI (bodiesW PP [0] (List.replicate PP.length none)).2 := by
    rw [bodiesW]
    split
    · exact k0
    · split
      · exact k0
      · rw [bodiesW]
        exact k0.set _ _ (by simp)
  refine ⟨by simpa using h1, by omega, hs, fun q P hP x hx => ?_⟩
  obtain ⟨hq, e⟩ := List.getElem?_eq_some_iff.1 hP
  have := protos_KI (fun P hP => (hs P hP).1.2) PP.length 0 _ kb h q (Nat.zero_le _) (by omega)
  have hg : PP.getD q ⟨0, []⟩ = P := by rw [List.getD_eq_getElem?_getD, hP]; rfl
  rw [hg] at this
  exact this x hx
theorem args_short (s : ByteArray) (h : argsB s ≠ 0) : s.size ≤ 100 := by
  have hm : s ∈ primTab.map (·.1) := (argsTab_mem primTab s (by decide)).1 h
  have hall : ∀ x ∈ primTab.map (·.1), x.size ≤ 100 := by decide
  exact hall s hm
theorem name_short {x : In} (h : nameW x = 0) : x.lib.size ≤ 100 ∧ x.own.size ≤ 100 := by
  unfold nameW at h
  by_cases hb : (plainB x.lib && namedB x.own) = true
  · simp [plainB, namedB] at hb
    omega
  · rw [if_neg hb] at h
    simp at h
theorem close_small {PP : List Pro} {q : Nat} {a : Int} {K : Kn} (h : (closeW PP q a K).1 = 0) (h5 : PP.length ≤ 500) : -1000000000000000 ≤ a ∧ a ≤ 1000000000000000 := by
  unfold closeW at h
  by_cases c1 : a ≤ q ∨ (PP.length : Int) ≤ a
  · rw [if_pos c1] at h; simp at h
  · omega
theorem RightU.isok {nm : ByteArray} {PP : List Pro} (h : RightU nm PP) {P : Pro} (hP : P ∈ PP) {x : In} (hx : x ∈ P.code) : IsOk x ∧ (x.op = 3 → (wrong [x.quote]).1 = 0) := by
  obtain ⟨q, hq⟩ := List.mem_iff_getElem?.1 hP
  obtain ⟨K, hk, hK⟩ := h.ins q P hq x hx
  have h5 := h.n500
  have hq5 : q < PP.length := (List.getElem?_eq_some_iff.1 hq).1
  have hc := (h.size P hP).2
  have ha := hk.aro q
  unfold insW at hK
  have ho : 1 ≤ x.op ∧ x.op ≤ 15 := by
    by_cases h1 : 1 ≤ x.op ∧ x.op ≤ 15
    · exact h1
    · rw [if_neg (by omega), if_neg (by omega), if_neg (by omega), if_neg (by omega), if_neg (by omega), if_neg (by omega), if_neg (by omega), if_neg (by omega), if_neg (by omega), if_neg (by omega)] at hK
      simp at hK
  have hop : x.op = 1 ∨ x.op = 2 ∨ x.op = 3 ∨ x.op = 4 ∨ x.op = 5 ∨ x.op = 6 ∨ x.op = 7 ∨ x.op = 8 ∨ x.op = 9 ∨ x.op = 10 ∨ x.op = 11 ∨ x.op = 12 ∨ x.op = 13 ∨ x.op = 14 ∨ x.op = 15 := by omega
  have key : (layW x.op = 2 → -1000000000000000 ≤ x.n ∧ x.n ≤ 1000000000000000) ∧ (layW x.op = 6 → -1000000000000000 ≤ x.a ∧ x.a ≤ 1000000000000000) ∧ (layW x.op = 4 → x.lib.size ≤ 100) ∧ (layW x.op = 4 ∨ layW x.op = 5 → x.own.size ≤ 100) ∧ (x.op = 3 → (wrong [x.quote]).1 = 0) := by
    rcases hop with e | e | e | e | e | e | e | e | e | e | e | e | e | e | e <;> rw [e] at hK ⊢ <;> simp [layW] at hK ⊢
    all_goals first
      | exact hK
      | omega
      | (split at hK <;> first | omega | (simp at hK))
      | exact name_short hK
      | exact args_short _ hK
      | exact close_small hK h5
  exact ⟨⟨ho, key.1, key.2.1, key.2.2.1, key.2.2.2.1⟩, key.2.2.2.2⟩
/-- Each instruction of a right unit is written so. -/
theorem wi_ok {nm : ByteArray} {PP : List Pro} (h : wrongU nm PP = 0) (B b : Nat) : WIok qtP B b PP := by
  have hr := rightU_of h
  intro P hP x hx ib io qa qc l w hil hib hwr hB htb hl
  obtain ⟨ho, hq⟩ := hr.isok hP hx
  rcases layW_ok ho.1 with c | c | c | c | c | c
  · exact ins_w1 qtP B b ib io l x w hwr hB hib hl ho c hil.c0 hil.c1 hil.c2 hil.c3 hil.c4
  · exact ins_w2 qtP B b ib io l x w hwr hB hib hl ho c hil.c0 hil.c1 hil.c2 hil.c3 hil.c4
  · have h3 : x.op = 3 := by
      have := ho.1
      unfold layW at c
      (repeat' split at c) <;> omega
    exact ins_w3 B b ib io l x qa qc w hwr hB hib hl htb h3 (hq h3) hil
  · exact ins_w4 qtP B b ib io l x w hwr hB hib hl ho c hil.c0 hil.c1 hil.c2 hil.c3 hil.c4
  · exact ins_w5 qtP B b ib io l x w hwr hB hib hl ho c hil.c0 hil.c1 hil.c2 hil.c3 hil.c4
  · exact ins_w6 qtP B b ib io l x w hwr hB hib hl ho c hil.c0 hil.c1 hil.c2 hil.c3 hil.c4
theorem flat_mem {α : Type} {f : α → List UInt8} : ∀ {l : List α} {x : α}, x ∈ l → (f x).length ≤ (l.flatMap f).length
  | [], _, h => by simp at h
  | y :: r, x, h => by
    rw [List.flatMap_cons, List.length_append]
    rcases List.mem_cons.1 h with rfl | h
    · omega
    · have := flat_mem (f := f) h
      omega
/-- A right unit that is not too long: all of it can be read back. -/
theorem fits {nm : ByteArray} {PP : List Pro} (h : wrongU nm PP = 0) (hl : (unitB qtP nm PP).length ≤ 60000) : ∀ P ∈ PP, FitP P := by
  have hr := rightU_of h
  intro P hP
  refine ⟨(hr.size P hP).1, (hr.size P hP).2, fun x hx => ?_⟩
  obtain ⟨ho, hq⟩ := hr.isok hP hx
  refine ⟨ho, fun c => ?_⟩
  have h3 : x.op = 3 := by
    have := ho.1
    unfold layW at c
    (repeat' split at c) <;> omega
  refine ⟨hq h3, ?_⟩
  by_cases hb : 6000 < (printed [x.quote]).length
  · exfalso
    have e1 := flat_mem (f := protoB qtP) hP
    have e2 := flat_mem (f := insB qtP) hx
    have e3 : (insB qtP x).length = (numB x.op).length + (textB (qtP x.quote)).length := by unfold insB; simp [c]
    have e4 := big_quote hb
    have e5 : (P.code.flatMap (insB qtP)).length ≤ (protoB qtP P).length := by unfold protoB; simp only [List.length_append]; omega
    have e6 : (PP.flatMap (protoB qtP)).length ≤ (unitB qtP nm PP).length := by unfold unitB; simp only [List.length_append]; omega
    omega
  · omega
/-- WHAT IS WRITTEN IS READ. -/
theorem turn_there {nm : ByteArray} {PP : List Pro} {bs : List UInt8} (h : bytesU qtP nm PP = (0, bs)) : wrongU nm PP = 0 ∧ parseU qrP bs = some (0, nm, PP.map bareP) := by
  unfold bytesU at h
  by_cases h0 : wrongU nm PP = 0
  · rw [if_pos h0] at h
    by_cases hl : (unitB qtP nm PP).length ≤ 60000
    · rw [if_pos hl] at h
      simp only [Prod.mk.injEq, true_and] at h
      subst h
      refine ⟨h0, ?_⟩
      have hr := rightU_of h0
      have hn : nm.size ≤ 60 := by have := hr.name; simp [plainB] at this; exact this.1
      unfold parseU
      rw [if_neg (by omega), unit_back hn hr.n500 (fits h0 hl)]
      simp [wrongU_bare h0]
    · rw [if_neg hl] at h; simp at h
  · rw [if_neg h0] at h
    simp only [Prod.mk.injEq] at h
    exact absurd h.1 h0
/-- IN ONE WAY ALONE. -/
theorem turn_back {nm : ByteArray} {PP : List Pro} {bs : List UInt8} (h : parseU qrP bs = some (0, nm, PP)) : wrongU nm PP = 0 ∧ bytesU qtP nm PP = (0, bs) ∧ bs ≠ [] := by
  unfold parseU at h
  by_cases hl : 60000 < bs.length
  · rw [if_pos hl] at h; simp at h
  rw [if_neg hl] at h
  cases e : unitR qrP bs false with
  | none => rw [e] at h; simp at h
  | some y =>
    obtain ⟨⟨nm', PP'⟩, l', b'⟩ := y
    rw [e] at h
    simp only [Option.map_some, Option.some.injEq] at h
    by_cases hc : b' = true ∨ 0 < l'.length
    · rw [if_pos hc] at h; simp at h
    rw [if_neg hc] at h
    by_cases h0 : wrongU nm' PP' = 0
    · rw [if_pos h0] at h
      simp only [Prod.mk.injEq, true_and] at h
      obtain ⟨rfl, rfl⟩ := h
      have hb : b' = false := by simpa using fun x => hc (Or.inl x)
      have hl0 : l' = [] := List.eq_nil_of_length_eq_zero (by omega)
      subst hb hl0
      obtain ⟨_, e2⟩ := unit_of e
      rw [List.append_nil] at e2
      refine ⟨h0, ?_, ?_⟩
      · unfold bytesU
        rw [if_pos h0, ← e2, if_pos (by omega)]
      · rw [e2]
        unfold unitB textB
        have := numB_ne (nm'.size : Int)
        intro hz
        have hz := congrArg List.length hz
        simp only [List.length_append, List.length_nil] at hz
        omega
    · rw [if_neg h0] at h
      simp only [Prod.mk.injEq] at h
      exact absurd h.1 h0
theorem parse_bad {nm : ByteArray} {PP : List Pro} {y : Int} {bs : List UInt8} (h : parseU qrP bs = some (y, nm, PP)) (hy : y ≠ 0) : nm = ⟨#[]⟩ ∧ PP = [] := by
  unfold parseU at h
  by_cases hl : 60000 < bs.length
  · rw [if_pos hl] at h; simp at h; exact ⟨h.2.1.symm, h.2.2⟩
  rw [if_neg hl] at h
  cases e : unitR qrP bs false with
  | none => rw [e] at h; simp at h
  | some c =>
    rw [e] at h
    simp only [Option.map_some, Option.some.injEq] at h
    by_cases hc : c.2.2 = true ∨ 0 < c.2.1.length
    · rw [if_pos hc] at h
      simp only [Prod.mk.injEq] at h
      exact ⟨h.2.1.symm, h.2.2.symm⟩
    rw [if_neg hc] at h
    by_cases h0 : wrongU c.1.1 c.1.2 = 0
    · rw [if_pos h0] at h
      simp only [Prod.mk.injEq] at h
      exact absurd h.1.symm hy
    · rw [if_neg h0] at h
      simp only [Prod.mk.injEq] at h
      exact ⟨h.2.1.symm, h.2.2.symm⟩
end
section
set_option linter.unusedVariables false
set_option linter.unusedSimpArgs false
open Go.RowKit

theorem same_any (bs : List UInt8) (a1 a2 : Option Addr) (n c1 c2 : Nat) (w : World) (hn : n = bs.length) (h1 : ByL w a1 bs) (h2 : ByA w a2 c2 bs) (hne : bs ≠ []) :
    Calls Tryz.prog 11 #[.slice a1 n c1, .slice a2 n c2] w (Yes w) := by
  obtain ⟨g1, o1, rfl, hg1, k1⟩ : ∃ g o, a1 = some ⟨g, o, none⟩ ∧ g < w.heap.size ∧ ∀ (i : Nat) (c : UInt8), bs[i]? = some c → w.cell? ⟨g, o + i, none⟩ = some (.int .u8 ((c.toNat : Nat) : Int)) := by
    rcases h1 with h | h
    · exact absurd h hne
    · exact h
  obtain ⟨g2, o2, rfl, hg2, k2⟩ : ∃ g o, a2 = some ⟨g, o, none⟩ ∧ g < w.heap.size ∧ ∀ (i : Nat) (c : UInt8), bs[i]? = some c → w.cell? ⟨g, o + i, none⟩ = some (.int .u8 ((c.toNat : Nat) : Int)) := by
    rcases h2 with ⟨_, _, h⟩ | ⟨_, _, h⟩ | h
    · exact absurd h hne
    · exact absurd h hne
    · exact h
  have cv : ∀ (g o c : Nat), (∀ (i : Nat) (c : UInt8), bs[i]? = some c → w.cell? ⟨g, o + i, none⟩ = some (.int .u8 ((c.toNat : Nat) : Int))) → (convert 25 9 (.slice (some ⟨g, o, none⟩) n c)).run Tryz.prog w = .ok (.string ⟨bs.toArray⟩) w := fun g o c hk => by
    have := run_convert_bytes_back (P := Tryz.prog) w 25 9 5 ⟨g, o, none⟩ c bs Tryz.underlying25 Tryz.underlying5 Tryz.underlying9 (fun j hj => by
      rw [addr_plus]
      exact hk j bs[j] (List.getElem?_eq_getElem hj))
    rw [hn]
    exact this
  have v1 := cv g1 o1 c1 k1
  have v2 := cv g2 o2 c2 k2
  clear k1 k2 cv h1 h2 hn
  generalize (⟨bs.toArray⟩ : ByteArray) = s at v1 v2
  have hs : (s.toList == s.toList) = true := by simp
  go_enter Tryz.func11, Tryz.ntmps11
  go_wp2_with fail
  go_ret
  exact ⟨rfl, Below.refl _ _⟩
set_option maxRecDepth 100000 in
set_option maxHeartbeats 12800000 in
theorem ObjectTurns_walk (nm : ByteArray) (PP : List Pro) (pa : Option Addr) (n pc : Nat) (bs : List UInt8) (ba : Option Addr) (bn bc : Nat) (w : World) (hn : n = PP.length) (hnm : nm.size ≤ maxLen) (hl : PL w.heap.size w pa PP) (hpc : n ≤ pc) (hmax : n ≤ 9223372036854775807)
    (hbn : bn = bs.length) (hb : ByA w ba bc bs) (hbc : bn ≤ bc) (hcm : bc ≤ maxLen) (ht : TB2 w) :
    Calls Tryz.prog 4 #[.agg #[.string nm, .slice pa n pc], .slice ba bn bc] w (Yes w) := by
  have b1 := (Below.refl w.heap.size w).alloc (Nat.le_refl _) (.cells #[.string nm, .slice pa n pc] 24)
  have HU := hidd (World.alloc_heap_new w (.cells #[.string nm, .slice pa n pc] 24))
  have HB1 := hidd b1
  have HN := hidd hn
  have HBN := hidd hbn
  have AL : Hid (∀ W, Below w.heap.size w W → Calls Tryz.prog 15 #[] W (Yes W)) := fun W hW => alive9_any W (ht.below hW)
  have BYT : Hid (∀ W, Below w.heap.size w W → Calls Tryz.prog 9 #[.agg #[.string nm, .slice pa n pc]] W (ToldBy (bytesU qtP nm PP) W)) := fun W hW => by
    have := Bytes_any qtP nm PP pa pc W hnm ((hl.below hW).mono hW.size) (by rw [← hn]; exact hpc) (by rw [← hn]; exact hmax) (ht.below hW).1 (ht.below hW).2 (fun h B b => wi_ok h B b)
    rw [← hn] at this
    exact this
  have PAR : Hid (∀ W a cap (l : List UInt8) (ln : Nat) r, Below w.heap.size w W → ln = l.length → ByA W a cap l → ln ≤ cap → cap ≤ maxLen → parseU qrP l = some r → Calls Tryz.prog 12 #[.slice a ln cap] W (ToldP r W)) := fun W a cap l ln r hW e h1 h2 h3 h4 => by
    have := Parse_any qrP rquote_any qrP_len l a cap W h1 (by rw [← e]; exact h2) h3 (ht.below hW).1 (ht.below hW).2 r h4
    rw [← e] at this
    exact this
  have BAR : Hid (wrongU nm PP = 0 → ∀ W, Below w.heap.size w W → Calls Tryz.prog 16 #[.agg #[.string nm, .slice pa n pc]] W (ToldBr nm PP W)) := fun h0 W hW => by
    have hr := rightU_of h0
    exact refBareU_any nm PP pa n pc W hn ((hl.below hW).mono hW.size) hpc (by rw [hn]; exact hr.n500) (fun P hP => (hr.size P hP).2) (fun P hP x hx => ⟨(hr.isok hP hx).1.1, fun h3 => ⟨wrong_right ((hr.isok hP hx).2 h3), wrong_st ((hr.isok hP hx).2 h3)⟩⟩)
  have BYV : Hid (∀ (nm2 : ByteArray) (QQ : List Pro) qa (m : Nat) qc W, Below w.heap.size w W → m = QQ.length → nm2.size ≤ maxLen → PL W.heap.size W qa QQ → m ≤ qc → m ≤ 9223372036854775807 → Calls Tryz.prog 9 #[.agg #[.string nm2, .slice qa m qc]] W (ToldBy (bytesU qtP nm2 QQ) W)) := fun nm2 QQ qa m qc W hW e h1 h2 h3 h4 => by
    have := Bytes_any qtP nm2 QQ qa qc W h1 h2 (by rw [← e]; exact h3) (by rw [← e]; exact h4) (ht.below hW).1 (ht.below hW).2 (fun h B b => wi_ok h B b)
    rw [← e] at this
    exact this
  have WRV : Hid (∀ (nm2 : ByteArray) (QQ : List Pro) qa (m : Nat) qc W, Below w.heap.size w W → m = QQ.length → nm2.size ≤ maxLen → PL W.heap.size W qa QQ → m ≤ qc → m ≤ 9223372036854775807 → Calls Tryz.prog 7 #[.agg #[.string nm2, .slice qa m qc]] W fun r w' => r = .returned (.int .i64 (wrongU nm2 QQ)) ∧ Below W.heap.size W w') := fun nm2 QQ qa m qc W hW e h1 h2 h3 h4 => by
    have := WrongU_any nm2 QQ qa qc W h1 h2 (by rw [← e]; exact h3) (by rw [← e]; exact h4) (ht.below hW).1
    rw [← e] at this
    exact this
  have HBB : Hid (∀ W, Below w.heap.size w W → ByA W ba bc bs) := fun W hW => by
    rcases hb with h | h | ⟨g, o, ha, hg, h⟩
    · exact Or.inl h
    · exact Or.inr (Or.inl h)
    · exact Or.inr <| Or.inr ⟨g, o, ha, Nat.lt_of_lt_of_le hg hW.size, fun i c hc => (hW.cell (p := ⟨g, o + i, none⟩) hg).trans (h i c hc)⟩
  clear hl ht hb hn hnm hbn b1
  have hcap : bc ≤ 9223372036854775807 := by unfold maxLen at hcm; omega
  go_enter Tryz.func4, Tryz.ntmps4
  go_upto_region 1 with fail
  generalize w.alloc (.cells #[.string nm, .slice pa n pc] 24) = V0 at HU HB1 ⊢
  obtain ⟨N, hN⟩ : ∃ N, N = w.heap.size := ⟨_, rfl⟩
  rw [← hN] at HU ⊢
  clear hN
  go_wp2_with fail
  refine (AL.out _ HB1.out).mono ?_
  rintro e V1 ⟨rfl, hb1⟩
  have HB2 := hidd (HB1.out.trans (hb1.mono HB1.out.size))
  have HU2 := hidd ((hb1.block _ (Array.getElem?_eq_some_iff.1 HU.out).1).trans HU.out)
  clear hb1 HU HB1
  have u0 : V1.cell? ⟨N, 0, none⟩ = some (.string nm) := (cellO HU2.out).trans rfl
  have u1 : V1.cell? ⟨N, 1, none⟩ = some (.slice pa n pc) := (cellO HU2.out).trans rfl
  go_wp2_with fail
  refine (BYT.out _ HB2.out).mono ?_
  rintro e V2 ⟨xa, xc, rfl, hxc, hxm, hxb, hb2⟩
  have HB3' := hidd (HB2.out.trans (hb2.mono HB2.out.size))
  have HU3' := hidd ((hb2.block _ (Array.getElem?_eq_some_iff.1 HU2.out).1).trans HU2.out)
  clear hb2 HB2 HU2 u0 u1
  obtain ⟨y, hy⟩ : ∃ y, y = bytesU qtP nm PP := ⟨_, rfl⟩
  rw [← hy] at hxc hxb ⊢
  obtain ⟨ye, yb⟩ := y
  simp only at hxc hxb ⊢
  have HY := hidd hy.symm
  clear hy
  obtain ⟨yl, hyl⟩ : ∃ m, m = yb.length := ⟨_, rfl⟩
  rw [← hyl] at hxc ⊢
  have HYL := hidd hyl
  have HXB := hidd hxb
  clear hyl hxb
  obtain ⟨pr0, hpr0⟩ := parseU_some bs
  have HPR0 := hidd hpr0
  clear hpr0
  by_cases hy0 : ye = 0
  · subst hy0
    obtain ⟨hw0, hth⟩ := turn_there HY.out
    have hr := rightU_of hw0
    have hyne : yb ≠ [] := by
      intro h
      rw [h] at hth
      have := (turn_back hth).2.2
      exact this rfl
    have hby : ByA V2 xa xc yb := by
      rcases HXB.out with h | h
      · exact absurd h hyne
      · exact Or.inr (Or.inr h)
    have HN5 : n ≤ 500 := by rw [HN.out]; exact hr.n500
    have HBC : Hid (∀ p ∈ PP.map bareP, p.code.length ≤ 1000000000) := fun p hp => by
      obtain ⟨P, hP, rfl⟩ := List.mem_map.1 hp
      have := (hr.size P hP).2
      unfold bareP
      simp only [List.length_map]
      omega
    have BAR := hidd (BAR.out hw0)
    have PX := hidd (PAR.out V2 xa xc yb yl _ HB3'.out HYL.out hby hxc hxm hth)
    have hyn : yl ≤ 9223372036854775807 := by unfold maxLen at hxm; omega
    have hxcn : xc ≤ 9223372036854775807 := by unfold maxLen at hxm; omega
    clear hw0 hth hr hyne hby HXB HY
    go_wp2_with fail
    refine PX.out.mono ?_
    rintro e V3 ⟨vs, va, vc, rfl, hvs, hb3, hve⟩
    simp only at hvs ⊢
    have bU := (Below.refl V3.heap.size V3).alloc (Nat.le_refl _) (.cells #[.string nm, .slice va vs.length vc] 24)
    have hB4 := HB3'.out.trans (hb3.mono HB3'.out.size)
    have HB3 := hidd (hB4.trans (bU.mono hB4.size))
    have HVB := hidd (World.alloc_heap_new V3 (.cells #[.string nm, .slice va vs.length vc] 24))
    have HU3 := hidd (((hb3.trans (bU.mono hb3.size)).block _ (Array.getElem?_eq_some_iff.1 HU3'.out).1).trans HU3'.out)
    have hpl := PEs.pl (B := V3.heap.size) (fun k hk => hk) hve
    rw [hvs] at hpl
    have HVP := hidd ((hpl.below bU).mono bU.size)
    obtain ⟨vn, hvn⟩ : ∃ m, m = vs.length := ⟨_, rfl⟩
    have hvn2 : vn = n := by rw [hvn, HN.out, ← List.length_map (f := PE.pro), hvs, List.length_map]
    have hvc : vn ≤ vc := by rw [hvn]; exact hve.1
    rw [← hvn] at HB3 HVB HU3 HVP ⊢
    have HVN := hidd hvn2
    clear hvs hb3 hve bU hB4 hpl hvn hvn2 PX HB3' HU3'
    go_upto_region 6 with fail
    generalize V3.alloc (.cells #[.string nm, .slice va vn vc] 24) = V at HB3 HVB HU3 HVP ⊢
    obtain ⟨vb, hvb⟩ : ∃ u, u = V3.heap.size := ⟨_, rfl⟩
    rw [← hvb] at HVB ⊢
    clear hvb
    refine wp_region_held_drew (S := fun u => Below V.heap.size V u) (by kernel_rfl) (Below.drew (Below.refl _ _)) (fun hS => ?_)
    refine wpAnyH_take (i := 0) (oi := { dst := some 26, op := Op.move (Operand.tmp 8), type := 26, pos := _, after := _, guard := none }) (v := .int .i64 0) rfl (by kernel_rfl) (by kernel_rfl) (by kernel_rfl) (fun _ _ _ h => h) (Or.inl ⟨by rfl, fun u hu => by go_simp⟩) hS ?_
    simp only [Act.put, List.setIfInBounds_toArray, List.set_cons_zero, List.set_cons_succ]
    refine wpAnyH_take (i := 1) (oi := { dst := some 27, op := Op.binOp BinOp.neq 26 (Operand.tmp 26) (Operand.const (Value.int IntKind.i64 0)) 26, type := 4, pos := _, after := _, guard := none }) (v := .bool false) rfl (by kernel_rfl) (by kernel_rfl) (by kernel_rfl) (fun _ _ _ h => h) (Or.inl ⟨by rfl, fun u hu => by go_simp⟩) hS ?_
    simp only [Act.put, List.setIfInBounds_toArray, List.set_cons_zero, List.set_cons_succ]
    refine wpAnyH_take (i := 2) (oi := { dst := some 28, op := Op.move (Operand.tmp 27), type := 4, pos := _, after := _, guard := none }) (v := .bool false) rfl (by kernel_rfl) (by kernel_rfl) (by kernel_rfl) (fun _ _ _ h => h) (Or.inl ⟨by rfl, fun u hu => by go_simp⟩) hS ?_
    simp only [Act.put, List.setIfInBounds_toArray, List.set_cons_zero, List.set_cons_succ]
    refine wpAnyH_take (i := 3) (oi := { dst := some 29, op := Op.load 24 (Operand.tmp 7), type := 24, pos := _, after := _, guard := some (2, false) }) (v := .agg #[.string nm, .slice va vn vc]) rfl (by kernel_rfl) (by kernel_rfl) (by kernel_rfl) (fun _ _ _ h => h) (Or.inl ⟨by rfl, fun u hu => by (have z0 : u.cell? ⟨vb, 0, none⟩ = some (.string nm) := (cellO ((hu.block _ (Array.getElem?_eq_some_iff.1 HVB.out).1).trans HVB.out)).trans rfl; have z1 : u.cell? ⟨vb, 1, none⟩ = some (.slice va vn vc) := (cellO ((hu.block _ (Array.getElem?_eq_some_iff.1 HVB.out).1).trans HVB.out)).trans rfl; go_simp)⟩) hS ?_
    simp only [Act.put, List.setIfInBounds_toArray, List.set_cons_zero, List.set_cons_succ]
    refine wpAnyH_take (i := 4) (oi := { dst := some 30, op := Op.load 24 (Operand.tmp 2), type := 24, pos := _, after := _, guard := some (2, false) }) (v := .agg #[.string nm, .slice pa n pc]) rfl (by kernel_rfl) (by kernel_rfl) (by kernel_rfl) (fun _ _ _ h => h) (Or.inl ⟨by rfl, fun u hu => by (have z0 : u.cell? ⟨N, 0, none⟩ = some (.string nm) := (cellO ((hu.block _ (Array.getElem?_eq_some_iff.1 HU3.out).1).trans HU3.out)).trans rfl; have z1 : u.cell? ⟨N, 1, none⟩ = some (.slice pa n pc) := (cellO ((hu.block _ (Array.getElem?_eq_some_iff.1 HU3.out).1).trans HU3.out)).trans rfl; go_simp)⟩) hS ?_
    simp only [Act.put, List.setIfInBounds_toArray, List.set_cons_zero, List.set_cons_succ]
    refine wpAnyH_ready (rs := [5]) (by kernel_rfl) (by simp) (AllReadyH.cons (o := { dst := some 31, op := Op.call { callee := Callee.value (Operand.func 16), args := #[Operand.tmp 30], argTypes := #[24] }, type := 24, pos := _, after := _, guard := some (2, false) }) rfl (fun K hK => ?_) AllReadyH.nil)
    go_simp
    refine (BAR.out _ (HB3.out.trans (hS.mono HB3.out.size))).mono ?_
    rintro e W1 ⟨qs, qa, qc, rfl, hqs, hb1, hqe⟩
    have hS1 := hS.trans (hb1.mono hS.size)
    have HQS := hidd hqs
    have HQE := hidd hqe
    have HQL : Hid (qs.length = n) := by have := congrArg List.length hqs; simp at this; unfold Hid; rw [this]; exact HN.out.symm
    rw [HQL.out]
    clear hqs hqe hb1
    show K _ W1
    refine hK.out _ _ hS1 (fun hS => ?_)
    clear hK K
    refine wpAnyH_ready (rs := [6]) (by kernel_rfl) (by simp) (AllReadyH.cons (o := { dst := some 32, op := Op.call { callee := Callee.value (Operand.func 14), args := #[Operand.tmp 29, Operand.tmp 31], argTypes := #[24, 24] }, type := 4, pos := _, after := _, guard := some (2, false) }) rfl (fun K hK => ?_) AllReadyH.nil)
    go_simp
    have hq1 := PEs.pl (B := W1.heap.size) (fun k hk => hk) HQE.out
    rw [HQS.out] at hq1
    have SU := SameUnit_any nm (PP.map bareP) va qa vc qc W1 ((HVP.out.below hS).mono hS.size) hq1 (by rw [List.length_map, ← HN.out]; omega) HBC.out (by rw [List.length_map, ← HN.out, ← HVN.out]; exact hvc) (by rw [List.length_map, ← HN.out]; have := HQE.out.1; rw [HQL.out] at this; exact this)
    rw [List.length_map, ← HN.out] at SU
    rw [HVN.out]
    refine SU.mono ?_
    rintro e W2 ⟨rfl, hb2⟩
    have hS2 := hS.trans (hb2.mono hS.size)
    clear hb2 hq1 SU
    show K _ W2
    refine hK.out _ _ hS2 (fun hS => ?_)
    clear hK K
    refine wpAnyH_take (i := 7) (oi := { dst := some 33, op := Op.unOp UnOp.not 4 (Operand.tmp 32), type := 4, pos := _, after := _, guard := some (2, false) }) (v := .bool false) rfl (by kernel_rfl) (by kernel_rfl) (by kernel_rfl) (fun _ _ _ h => h) (Or.inl ⟨by rfl, fun u hu => by go_simp⟩) hS ?_
    simp only [Act.put, List.setIfInBounds_toArray, List.set_cons_zero, List.set_cons_succ]
    refine wpAnyH_take (i := 8) (oi := { dst := some 34, op := Op.pick (Operand.tmp 28) (Operand.const (Value.bool true)) (Operand.tmp 33), type := 4, pos := _, after := _, guard := none }) (v := .bool false) rfl (by kernel_rfl) (by kernel_rfl) (by kernel_rfl) (fun _ _ _ h => h) (Or.inl ⟨by rfl, fun u hu => by go_simp⟩) hS ?_
    simp only [Act.put, List.setIfInBounds_toArray, List.set_cons_zero, List.set_cons_succ]
    refine wpAnyH_done (by kernel_rfl) ?_ _
    have HBX := hidd (HB3.out.trans (hS.mono HB3.out.size))
    clear hS
    have hpr := HPR0.out
    obtain ⟨pe, pnm, pps⟩ := pr0
    go_wp2_with fail
    refine (PAR.out _ ba bc bs bn _ HBX.out HBN.out (HBB.out _ HBX.out) hbc hcm hpr).mono ?_
    rintro e W5 ⟨qs, qa, qc, rfl, hqs, hb5, hqe⟩
    simp only at hqs ⊢
    have bU := (Below.refl W5.heap.size W5).alloc (Nat.le_refl _) (.cells #[.string pnm, .slice qa qs.length qc] 24)
    have hB5 := HBX.out.trans (hb5.mono HBX.out.size)
    have HB6 := hidd (hB5.trans (bU.mono hB5.size))
    have HV6 := hidd (World.alloc_heap_new W5 (.cells #[.string pnm, .slice qa qs.length qc] 24))
    have hpl := PEs.pl (B := W5.heap.size) (fun k hk => hk) hqe
    rw [hqs] at hpl
    have HPL6 := hidd ((hpl.below bU).mono bU.size)
    obtain ⟨m, hm⟩ : ∃ m, m = qs.length := ⟨_, rfl⟩
    have hm2 : m = pps.length := by rw [hm, ← hqs, List.length_map]
    have hmc : m ≤ qc := by rw [hm]; exact hqe.1
    rw [← hm] at HB6 HV6 HPL6 ⊢
    have HM := hidd hm2
    clear hqs hb5 hqe bU hB5 hpl hm hm2
    go_upto_region 9 with fail
    generalize W5.alloc (.cells #[.string pnm, .slice qa m qc] 24) = V6 at HB6 HV6 HPL6 ⊢
    obtain ⟨v6, hv6⟩ : ∃ u, u = W5.heap.size := ⟨_, rfl⟩
    rw [← hv6] at HV6 ⊢
    clear hv6
    have e0 : V6.cell? ⟨v6, 0, none⟩ = some (.string pnm) := (cellO HV6.out).trans rfl
    have e1 : V6.cell? ⟨v6, 1, none⟩ = some (.slice qa m qc) := (cellO HV6.out).trans rfl
    by_cases hpe : pe = 0
    · subst hpe
      obtain ⟨hw0, hby, hne⟩ := turn_back hpr
      have hr := rightU_of hw0
      have hns : pnm.size ≤ maxLen := by have h1 := hr.name; simp [plainB] at h1; unfold maxLen; omega
      have hm5 : m ≤ 500 := by rw [HM.out]; exact hr.n500
      have HBYV := hidd (BYV.out pnm pps qa m qc V6 HB6.out HM.out hns HPL6.out hmc (by omega))
      have HW0 := hidd hw0
      have HBY := hidd hby
      have HNE := hidd hne
      clear hw0 hby hne hr
      go_wp2_with fail
      refine HBYV.out.mono ?_
      rintro e V7 ⟨za, zc, rfl, hzc, hzm, hzb, hb7⟩
      rw [HBY.out] at hzc hzb ⊢
      simp only at hzc hzb ⊢
      rw [← HBN.out] at hzc ⊢
      have HB7 := hidd (HB6.out.trans (hb7.mono HB6.out.size))
      have HV7 := hidd ((hb7.block _ (Array.getElem?_eq_some_iff.1 HV6.out).1).trans HV6.out)
      have WRH := hidd (WRV.out pnm pps qa m qc V7 HB7.out HM.out hns ((HPL6.out.below hb7).mono hb7.size) hmc (by omega))
      rw [HW0.out] at WRH
      have HZB := hidd hzb
      clear hb7 hzb e0 e1 HBYV HB6 HV6 HPL6
      have e0 : V7.cell? ⟨v6, 0, none⟩ = some (.string pnm) := (cellO HV7.out).trans rfl
      have e1 : V7.cell? ⟨v6, 1, none⟩ = some (.slice qa m qc) := (cellO HV7.out).trans rfl
      go_wp2_with fail
      refine WRH.out.mono ?_
      rintro e V8 ⟨rfl, hb8⟩
      have HB8 := hidd (HB7.out.trans (hb8.mono HB7.out.size))
      have SM := hidd (same_any bs za ba bn zc bc V8 HBN.out (HZB.out.keep hb8) (HBB.out _ HB8.out) HNE.out)
      clear hb8 e0 e1 WRH HB7 HV7 HZB
      go_wp2_with fail
      refine SM.out.mono ?_
      rintro e V9 ⟨rfl, hb9⟩
      have HB9 := hidd (HB8.out.trans (hb9.mono HB8.out.size))
      clear hb9 SM
      go_wp2_with fail
      go_ret
      exact ⟨rfl, HB9.out⟩
    · obtain ⟨rfl, rfl⟩ := parse_bad hpr hpe
      have hm0 : m = 0 := HM.out
      subst hm0
      have hq : (pe != 0) = true := by simpa using hpe
      have SM := hidd (SameUnit_any ⟨#[]⟩ [] qa none qc 0 V6 (Or.inl rfl) (Or.inl rfl) (by decide) (by simp) (Nat.zero_le _) (Nat.zero_le _))
      simp only [List.length_nil] at SM
      clear hpe
      go_wp2_with fail
      refine SM.out.mono ?_
      rintro e V9 ⟨rfl, hb9⟩
      have HB9 := hidd (HB6.out.trans (hb9.mono HB6.out.size))
      clear hb9 SM
      go_wp2_with fail
      go_ret
      exact ⟨rfl, HB9.out⟩
  · have hq : (ye == 0) = false := by simpa using hy0
    have HBX := HB3'
    clear hy0 HY HXB
    have hpr := HPR0.out
    obtain ⟨pe, pnm, pps⟩ := pr0
    go_wp2_with fail
    refine (PAR.out _ ba bc bs bn _ HBX.out HBN.out (HBB.out _ HBX.out) hbc hcm hpr).mono ?_
    rintro e W5 ⟨qs, qa, qc, rfl, hqs, hb5, hqe⟩
    simp only at hqs ⊢
    have bU := (Below.refl W5.heap.size W5).alloc (Nat.le_refl _) (.cells #[.string pnm, .slice qa qs.length qc] 24)
    have hB5 := HBX.out.trans (hb5.mono HBX.out.size)
    have HB6 := hidd (hB5.trans (bU.mono hB5.size))
    have HV6 := hidd (World.alloc_heap_new W5 (.cells #[.string pnm, .slice qa qs.length qc] 24))
    have hpl := PEs.pl (B := W5.heap.size) (fun k hk => hk) hqe
    rw [hqs] at hpl
    have HPL6 := hidd ((hpl.below bU).mono bU.size)
    obtain ⟨m, hm⟩ : ∃ m, m = qs.length := ⟨_, rfl⟩
    have hm2 : m = pps.length := by rw [hm, ← hqs, List.length_map]
    have hmc : m ≤ qc := by rw [hm]; exact hqe.1
    rw [← hm] at HB6 HV6 HPL6 ⊢
    have HM := hidd hm2
    clear hqs hb5 hqe bU hB5 hpl hm hm2
    go_upto_region 9 with fail
    generalize W5.alloc (.cells #[.string pnm, .slice qa m qc] 24) = V6 at HB6 HV6 HPL6 ⊢
    obtain ⟨v6, hv6⟩ : ∃ u, u = W5.heap.size := ⟨_, rfl⟩
    rw [← hv6] at HV6 ⊢
    clear hv6
    have e0 : V6.cell? ⟨v6, 0, none⟩ = some (.string pnm) := (cellO HV6.out).trans rfl
    have e1 : V6.cell? ⟨v6, 1, none⟩ = some (.slice qa m qc) := (cellO HV6.out).trans rfl
    by_cases hpe : pe = 0
    · subst hpe
      obtain ⟨hw0, hby, hne⟩ := turn_back hpr
      have hr := rightU_of hw0
      have hns : pnm.size ≤ maxLen := by have h1 := hr.name; simp [plainB] at h1; unfold maxLen; omega
      have hm5 : m ≤ 500 := by rw [HM.out]; exact hr.n500
      have HBYV := hidd (BYV.out pnm pps qa m qc V6 HB6.out HM.out hns HPL6.out hmc (by omega))
      have HW0 := hidd hw0
      have HBY := hidd hby
      have HNE := hidd hne
      clear hw0 hby hne hr
      go_wp2_with fail
      refine HBYV.out.mono ?_
      rintro e V7 ⟨za, zc, rfl, hzc, hzm, hzb, hb7⟩
      rw [HBY.out] at hzc hzb ⊢
      simp only at hzc hzb ⊢
      rw [← HBN.out] at hzc ⊢
      have HB7 := hidd (HB6.out.trans (hb7.mono HB6.out.size))
      have HV7 := hidd ((hb7.block _ (Array.getElem?_eq_some_iff.1 HV6.out).1).trans HV6.out)
      have WRH := hidd (WRV.out pnm pps qa m qc V7 HB7.out HM.out hns ((HPL6.out.below hb7).mono hb7.size) hmc (by omega))
      rw [HW0.out] at WRH
      have HZB := hidd hzb
      clear hb7 hzb e0 e1 HBYV HB6 HV6 HPL6
      have e0 : V7.cell? ⟨v6, 0, none⟩ = some (.string pnm) := (cellO HV7.out).trans rfl
      have e1 : V7.cell? ⟨v6, 1, none⟩ = some (.slice qa m qc) := (cellO HV7.out).trans rfl
      go_wp2_with fail
      refine WRH.out.mono ?_
      rintro e V8 ⟨rfl, hb8⟩
      have HB8 := hidd (HB7.out.trans (hb8.mono HB7.out.size))
      have SM := hidd (same_any bs za ba bn zc bc V8 HBN.out (HZB.out.keep hb8) (HBB.out _ HB8.out) HNE.out)
      clear hb8 e0 e1 WRH HB7 HV7 HZB
      go_wp2_with fail
      refine SM.out.mono ?_
      rintro e V9 ⟨rfl, hb9⟩
      have HB9 := hidd (HB8.out.trans (hb9.mono HB8.out.size))
      clear hb9 SM
      go_wp2_with fail
      go_ret
      exact ⟨rfl, HB9.out⟩
    · obtain ⟨rfl, rfl⟩ := parse_bad hpr hpe
      have hm0 : m = 0 := HM.out
      subst hm0
      have hq : (pe != 0) = true := by simpa using hpe
      have SM := hidd (SameUnit_any ⟨#[]⟩ [] qa none qc 0 V6 (Or.inl rfl) (Or.inl rfl) (by decide) (by simp) (Nat.zero_le _) (Nat.zero_le _))
      simp only [List.length_nil] at SM
      clear hpe
      go_wp2_with fail
      refine SM.out.mono ?_
      rintro e V9 ⟨rfl, hb9⟩
      have HB9 := hidd (HB6.out.trans (hb9.mono HB6.out.size))
      clear hb9 SM
      go_wp2_with fail
      go_ret
      exact ⟨rfl, HB9.out⟩
end
end Go.Proofs.YtdnbingddbakaaaGreatDoor
