/- Chapter 8's laws: lambdas counted. Chapter 8's laws: code further on; bodies one behind the other. -/
import Derived.Test.YtbbmdhkbndgdkaaK34
namespace Go.Proofs.Ytbbmdhkbndgdkaa
section
set_option linter.unusedVariables false
set_option linter.unusedSimpArgs false
open Go.RowKit

theorem lamC_eq (c : Cor) : lamC c = (if c.kind = 8 then 1 else 0) + lamL c.kids := by
  obtain ⟨k, i, n, lb, ow, q, ks⟩ := c
  rw [lamC]

set_option maxRecDepth 100000 in
set_option maxHeartbeats 3200000 in
theorem lambdas_step (B f : Nat) (l : List Cor)
    (ih : l ≠ [] → ∀ (l : List Cor) (a : Option Addr) (cap : Nat) (w : World), Cc B w f a l → B ≤ w.heap.size → l.length ≤ cap → lamL l ≤ 1000000000 → Calls Try.prog 12 #[.slice a l.length cap] w fun e w' => e = .returned (.int .i64 (lamL l : Nat)) ∧ Below w.heap.size w w')
    (a : Option Addr) (cap : Nat) (w : World) (hc : Cc B w (f + 1) a l) (hB : B ≤ w.heap.size) (hcap : l.length ≤ cap) (hn : lamL l ≤ 1000000000) :
    Calls Try.prog 12 #[.slice a l.length cap] w fun e w' => e = .returned (.int .i64 (lamL l : Nat)) ∧ Below w.heap.size w w' := by
  have hlen := hc.len
  have HL := hidd hc
  have IH := hidd ih
  clear hc ih
  obtain ⟨N, hN⟩ : ∃ N, N = lamL l := ⟨_, rfl⟩
  rw [← hN]
  have HN : Hid (N = lamL l ∧ lamL l ≤ 1000000000) := ⟨hN, hn⟩
  clear hN hn
  go_enter Try.func12, Try.ntmps12
  go_wp2_with fail
  go_loopw [3, 8] (fun v ix wr => ∃ j s : Nat, j ≤ l.length ∧ ix = .int .i64 j ∧ v = .int .i64 s ∧ s ≤ 1000000000 ∧ Hid (s = lamL (l.take j) ∧ Below w.heap.size w wr)) (fun _ ix _ => l.length - (intOf ix).toNat)
  case atStart => exact ⟨0, 0, Nat.zero_le _, rfl, rfl, by omega, by simp [lamL], Below.refl _ _⟩
  case round =>
    obtain ⟨j, s, hj, rfl, rfl, hs9, HR⟩ := hrel
    by_cases hlt : j < l.length
    · obtain ⟨c, hc⟩ : ∃ c, l[j]? = some c := ⟨l[j], List.getElem?_eq_getElem hlt⟩
      have hne : l ≠ [] := by intro e; rw [e] at hlt; simp at hlt
      obtain ⟨g', b, o, hg, ha, hall⟩ := HL.out.at hne
      obtain rfl : f = g' := by omega
      subst ha
      obtain ⟨hbB, qa, qc, ka, kc, nc, ok, hqd, hk⟩ := hall j c hc
      have hcl : ∀ q, wr.cell? ⟨b, q, none⟩ = w.cell? ⟨b, q, none⟩ := fun q => HR.out.2.cell (p := ⟨b, q, none⟩) (Nat.lt_of_lt_of_le hbB hB)
      have k0 := (hcl _).trans nc.c0
      have k1 := (hcl _).trans nc.c1
      have k2 := (hcl _).trans nc.c2
      have k3 := (hcl _).trans nc.c3
      have k4 := (hcl _).trans nc.c4
      have k5 := (hcl _).trans nc.c5
      have k6 := (hcl _).trans nc.c6
      have k7 := (hcl _).trans nc.c7
      have k8 := (hcl _).trans nc.c8
      have k9 := (hcl _).trans nc.c9
      have k10 := (hcl _).trans nc.c10
      have k11 := (hcl _).trans nc.c11
      have b1 := lamL_more hc
      have t1 := lamL_take l (j + 1)
      have b2 := lamC_eq c
      have hnn := HN.out
      have hse := HR.out.1
      have ba : Below wr.heap.size wr (wr.alloc (.cells #[.int .i64 c.kind, .int .i64 c.index, .int .i64 c.n, .string c.lib, .string c.own, .int .i64 c.quote.kind, .int .i64 c.quote.n, .string c.quote.name, .int .i64 c.quote.stamp, .int .i64 c.quote.lib, .slice qa c.quote.kids.length qc, .slice ka c.kids.length kc] 40)) := (Below.refl _ _).alloc (Nat.le_refl _) _
      have hb2 := HR.out.2.trans (ba.mono HR.out.2.size)
      have CALL := hidd (IH.out hne c.kids ka kc _ (hk.below (hb2.mono hB)) (Nat.le_trans hB hb2.size) ok.2.2.2.2 (by omega))
      have HB2 := hidd hb2
      by_cases h8 : c.kind = 8
      · rw [if_pos h8] at b2
        have hsum : s + 1 + lamL c.kids ≤ 1000000000 := by omega
        have NX : Hid (s + 1 + lamL c.kids = lamL (l.take (j + 1))) := by show _ = _; omega
        have h8' : (c.kind == 8) = true := by simpa using h8
        clear nc ok hqd hk hall hc hne hcl b1 t1 hnn hse ba hb2 HR b2 h8
        generalize lamL c.kids = S at CALL NX hsum
        go_wp2_with fail
        refine CALL.out.mono ?_
        rintro e w2 ⟨rfl, hb3⟩
        have HE : Hid (s + 1 + S = lamL (l.take (j + 1)) ∧ Below w.heap.size w w2) := ⟨NX.out, HB2.out.trans (hb3.mono HB2.out.size)⟩
        clear hb3 NX CALL k0 k1 k2 k3 k4 k5 k6 k7 k8 k9 k10 k11
        go_wp2_with fail
        go_roundw
        case rel => exact ⟨j + 1, s + 1 + S, by omega, by go_num, by simp, hsum, HE.out⟩
        case measure => simp [intOf]; omega
      · rw [if_neg h8] at b2
        have hsum : s + lamL c.kids ≤ 1000000000 := by omega
        have NX : Hid (s + lamL c.kids = lamL (l.take (j + 1))) := by show _ = _; omega
        have h8' : (c.kind == 8) = false := by simpa using h8
        clear nc ok hqd hk hall hc hne hcl b1 t1 hnn hse ba hb2 HR b2 h8
        generalize lamL c.kids = S at CALL NX hsum
        go_wp2_with fail
        refine CALL.out.mono ?_
        rintro e w2 ⟨rfl, hb3⟩
        have HE : Hid (s + S = lamL (l.take (j + 1)) ∧ Below w.heap.size w w2) := ⟨NX.out, HB2.out.trans (hb3.mono HB2.out.size)⟩
        clear hb3 NX CALL k0 k1 k2 k3 k4 k5 k6 k7 k8 k9 k10 k11
        go_wp2_with fail
        go_roundw
        case rel => exact ⟨j + 1, s + S, by omega, by go_num, by simp, hsum, HE.out⟩
        case measure => simp [intOf]; omega
    · obtain rfl : j = l.length := by omega
      rw [List.take_length] at HR
      clear IH HL
      have e1 := HN.out.1
      have e2 := HR.out.1
      clear HN
      go_wp2_with fail
      go_ret
      exact ⟨by rw [e1, e2]; rfl, HR.out.2⟩
theorem lambdas_any (B : Nat) : ∀ (f : Nat) (l : List Cor) (a : Option Addr) (cap : Nat) (w : World), Cc B w f a l → B ≤ w.heap.size → l.length ≤ cap → lamL l ≤ 1000000000 → Calls Try.prog 12 #[.slice a l.length cap] w fun e w' => e = .returned (.int .i64 (lamL l : Nat)) ∧ Below w.heap.size w w'
  | 0, l, a, cap, w, h, h1, h2, h3 => by
    have e : l = [] := h
    subst e
    exact lambdas_step B 0 [] (fun h => absurd rfl h) a cap w ⟨Nat.zero_le _, Or.inl rfl⟩ h1 h2 h3
  | f + 1, l, a, cap, w, h, h1, h2, h3 => lambdas_step B f l (fun _ => lambdas_any B f) a cap w h h1 h2 h3

/- The lambdas: numbers of parameters, in order. -/
mutual
def argC : Cor → List Int
  | ⟨k, i, n, lb, ow, q, ks⟩ => (if k = 8 then [i] else []) ++ argL ks
def argL : List Cor → List Int
  | [] => []
  | c :: r => argC c ++ argL r
end
theorem argC_eq (c : Cor) : argC c = (if c.kind = 8 then [c.index] else []) ++ argL c.kids := by
  obtain ⟨k, i, n, lb, ow, q, ks⟩ := c
  rw [argC]
theorem argL_append : ∀ (a b : List Cor), argL (a ++ b) = argL a ++ argL b
  | [], b => by simp [argL]
  | c :: a, b => by rw [List.cons_append, argL, argL, argL_append a b, List.append_assoc]
theorem argL_more {l : List Cor} {j : Nat} {c : Cor} (h : l[j]? = some c) : argL (l.take (j + 1)) = argL (l.take j) ++ argC c := by
  rw [take_more h, argL_append]; simp [argL]
def Arg (c : Cor) : Prop := ∀ at0 pr, (genC c at0 pr).2.map Pro.args = argC c
theorem genL_arg : ∀ (l : List Cor), (∀ c ∈ l, Arg c) → ∀ at0 pr, (genL l at0 pr).2.map Pro.args = argL l
  | [], _, at0, pr => by rw [genL, argL]; rfl
  | c :: r, h, at0, pr => by
    rw [genL, argL]
    simp only [List.map_append]
    rw [h c (by simp), genL_arg r (fun c hc => h c (List.mem_cons_of_mem _ hc))]
theorem genS_arg : ∀ (l : List Cor) (b : Bool), (∀ c ∈ l, Arg c) → ∀ at0 pr, (genS l b at0 pr).2.map Pro.args = argL l
  | [], b, _, at0, pr => by rw [genS, argL]; rfl
  | c :: r, b, h, at0, pr => by
    rw [genS, argL]
    simp only [List.map_append]
    rw [h c (by simp), genS_arg r false (fun c hc => h c (List.mem_cons_of_mem _ hc))]
theorem genB_arg : ∀ (l : List Cor), (∀ c ∈ l, Arg c) → ∀ at0 pr, (genB l at0 pr).2.map Pro.args = argL l
  | [], _, at0, pr => by rw [genB, argL]; rfl
  | c :: r, h, at0, pr => by
    rw [genB, argL]
    simp only [List.map_append]
    rw [h c (by simp), genB_arg r (fun c hc => h c (List.mem_cons_of_mem _ hc))]
mutual
theorem genC_arg : ∀ (c : Cor), okC c → Arg c
  | ⟨k, i, n, lb, ow, q, ks⟩, h => by
    rw [okC] at h
    have E := each_arg ks h.2
    have hw := h.1
    intro at0 pr
    by_cases h8 : k = 8
    · subst h8
      have := wk8 hw
      match ks, this, E with
      | [b], _, E =>
        rw [genC, argC]
        simp only [if_true, List.map_cons, argL, List.append_nil]
        rw [E b (by simp)]
        rfl
    · by_cases h7 : k = 7
      · subst h7
        have := wk7 hw
        match ks, this, E with
        | [a, b, c], _, E =>
          rw [genC, argC]
          simp only [Int.reduceEq, if_false, if_true, argL, List.map_append, List.nil_append, List.append_nil]
          rw [E a (by simp), E b (by simp), E c (by simp), List.append_assoc]
      · by_cases h12 : k = 12
        · subst h12
          rw [genC.eq_def, argC]
          simp only [Int.reduceEq, if_false, if_true, List.nil_append]
          exact genS_arg ks true E at0 pr
        · rw [genC_else i n lb ow q ks at0 pr h8 h7 h12, argC, if_neg h8, List.nil_append]
          exact genL_arg ks E at0 pr
theorem each_arg : ∀ (l : List Cor), okL l → ∀ c ∈ l, Arg c
  | [], _, c, hc => by cases hc
  | x :: r, h, c, hc => by
    rw [okL] at h
    rcases List.mem_cons.1 hc with e | hc
    · rw [e]; exact genC_arg x h.1
    · exact each_arg r h.2 c hc
end
theorem protos_arg (b : List Cor) (h : okL b) : (protosOf b).map Pro.args = 0 :: argL b := by
  unfold protosOf
  rw [List.map_cons, genB_arg b (each_arg b h)]
mutual
theorem argC_len : ∀ (c : Cor), (argC c).length = lamC c
  | ⟨k, i, n, lb, ow, q, ks⟩ => by
    rw [argC, lamC, List.length_append, argL_len ks]
    split <;> rfl
theorem argL_len : ∀ (l : List Cor), (argL l).length = lamL l
  | [] => rfl
  | c :: r => by rw [argL, lamL, List.length_append, argC_len c, argL_len r]
end
end
section
set_option linter.unusedVariables false
set_option linter.unusedSimpArgs false

/-- An instruction so much on: its jump, its procedure. -/
def onI (n k : Nat) (x : In) : In := { x with a := if x.op = 9 ∨ x.op = 10 then x.a + n else if x.op = 7 then x.a + k else x.a }
def onP (k : Nat) (p : Pro) : Pro := ⟨p.args, p.code.map (onI 0 k)⟩
theorem onI_O (n k : Nat) (op : Int) : onI n k (insO op) = if op = 9 ∨ op = 10 then insA op n else if op = 7 then insA op k else insO op := by
  unfold onI insO insA
  simp only
  split
  · simp
  · split
    · simp
    · rfl
theorem lastI_on (n k : Nat) (c : Cor) : onI n k (lastI c) = lastI c := by
  unfold lastI
  repeat' split
  all_goals simp [onI, insN, insA, insO, insG]
def On (c : Cor) : Prop := ∀ n k at0 pr, genC c (at0 + n) (pr + k) = ((genC c at0 pr).1.map (onI n k), (genC c at0 pr).2.map (onP k))
theorem genL_on : ∀ (l : List Cor), (∀ c ∈ l, On c) → ∀ n k at0 pr, genL l (at0 + n) (pr + k) = ((genL l at0 pr).1.map (onI n k), (genL l at0 pr).2.map (onP k))
  | [], _, n, k, at0, pr => by simp [genL]
  | c :: r, h, n, k, at0, pr => by
    have h1 := h c (by simp) n k at0 pr
    have h2 := genL_on r (fun c hc => h c (List.mem_cons_of_mem _ hc)) n k (at0 + (genC c at0 pr).1.length) (pr + (genC c at0 pr).2.length)
    rw [genL, genL]
    simp only [h1, List.length_map, List.map_append]
    rw [show at0 + n + (genC c at0 pr).1.length = at0 + (genC c at0 pr).1.length + n by omega, show pr + k + (genC c at0 pr).2.length = pr + (genC c at0 pr).2.length + k by omega, h2]
theorem genS_on : ∀ (l : List Cor) (b : Bool), (∀ c ∈ l, On c) → ∀ n k at0 pr, genS l b (at0 + n) (pr + k) = ((genS l b at0 pr).1.map (onI n k), (genS l b at0 pr).2.map (onP k))
  | [], b, _, n, k, at0, pr => by simp [genS]
  | c :: r, b, h, n, k, at0, pr => by
    obtain ⟨p, hp⟩ : ∃ p : List In, p = if b = true then [] else [insO 14] := ⟨_, rfl⟩
    have hpm : p.map (onI n k) = p := by
      rw [hp]
      split
      · rfl
      · simp [onI, insO]
    have h1 := h c (by simp) n k (at0 + p.length) pr
    have h2 := genS_on r false (fun c hc => h c (List.mem_cons_of_mem _ hc)) n k (at0 + p.length + (genC c (at0 + p.length) pr).1.length) (pr + (genC c (at0 + p.length) pr).2.length)
    rw [genS, genS]
    simp only [← hp]
    rw [show at0 + n + p.length = at0 + p.length + n by omega]
    simp only [h1, List.length_map, List.map_append, hpm]
    rw [show at0 + p.length + n + (genC c (at0 + p.length) pr).1.length = at0 + p.length + (genC c (at0 + p.length) pr).1.length + n by omega, show pr + k + (genC c (at0 + p.length) pr).2.length = pr + (genC c (at0 + p.length) pr).2.length + k by omega, h2]
theorem genB_on : ∀ (l : List Cor), (∀ c ∈ l, On c) → ∀ n k at0 pr, genB l (at0 + n) (pr + k) = ((genB l at0 pr).1.map (onI n k), (genB l at0 pr).2.map (onP k))
  | [], _, n, k, at0, pr => by simp [genB]
  | c :: r, h, n, k, at0, pr => by
    have h1 := h c (by simp) n k at0 pr
    have h2 := genB_on r (fun c hc => h c (List.mem_cons_of_mem _ hc)) n k (at0 + (genC c at0 pr).1.length + 1) (pr + (genC c at0 pr).2.length)
    have h3 : onI n k (insO 14) = insO 14 := by simp [onI, insO]
    rw [genB, genB]
    simp only [h1, List.length_map, List.map_append, List.map_cons, h3]
    rw [show at0 + n + (genC c at0 pr).1.length + 1 = at0 + (genC c at0 pr).1.length + 1 + n by omega, show pr + k + (genC c at0 pr).2.length = pr + (genC c at0 pr).2.length + k by omega, h2]
theorem genC_12 (i n : Int) (lb ow : ByteArray) (q : Dat) (ks : List Cor) (at0 pr : Nat) : genC ⟨12, i, n, lb, ow, q, ks⟩ at0 pr = genS ks true at0 pr := by
  rw [genC.eq_def]
  simp only [Int.reduceEq, if_false, if_true]
theorem genC_7else (i n : Int) (lb ow : ByteArray) (q : Dat) (ks : List Cor) (at0 pr : Nat) (h : ks.length ≠ 3) : genC ⟨7, i, n, lb, ow, q, ks⟩ at0 pr = ([], []) := by
  rw [genC.eq_def]
  simp only [Int.reduceEq, if_false, if_true]
  split
  · simp at h
  · rfl
mutual
theorem genC_on : ∀ (c : Cor), On c
  | ⟨k, i, n, lb, ow, q, ks⟩ => by
    have E := each_on ks
    intro m z at0 pr
    by_cases h8 : k = 8
    · subst h8
      match ks, E with
      | [], _ => rw [genC.eq_def, genC.eq_def]; simp
      | b :: r, E =>
        have h1 := E b (by simp) 0 z 0 (pr + 1)
        simp only [Nat.add_zero] at h1
        rw [genC, genC]
        simp only [if_true]
        rw [show pr + z + 1 = pr + 1 + z by omega, h1]
        simp [onI, onP, insA, insO]
    · by_cases h7 : k = 7
      · subst h7
        by_cases h3 : ks.length = 3
        · match ks, h3, E with
          | [x, y, w], _, E =>
            have hx := E x (by simp) m z at0 pr
            have hy := E y (by simp) m z (at0 + (genC x at0 pr).1.length + 1) (pr + (genC x at0 pr).2.length)
            rw [genC, genC]
            simp only [Int.reduceEq, if_false, if_true]
            generalize genC x at0 pr = cx at hx hy ⊢
            simp only [hx, List.length_map]
            rw [show at0 + m + cx.1.length + 1 = at0 + cx.1.length + 1 + m by omega, show pr + z + cx.2.length = pr + cx.2.length + z by omega]
            have hw := E w (by simp) m z (at0 + cx.1.length + 1 + (genC y (at0 + cx.1.length + 1) (pr + cx.2.length)).1.length + 1) (pr + cx.2.length + (genC y (at0 + cx.1.length + 1) (pr + cx.2.length)).2.length)
            generalize genC y (at0 + cx.1.length + 1) (pr + cx.2.length) = cy at hy hw ⊢
            simp only [hy, List.length_map]
            rw [show at0 + cx.1.length + 1 + m + cy.1.length + 1 = at0 + cx.1.length + 1 + cy.1.length + 1 + m by omega, show pr + cx.2.length + z + cy.2.length = pr + cx.2.length + cy.2.length + z by omega]
            generalize genC w (at0 + cx.1.length + 1 + cy.1.length + 1) (pr + cx.2.length + cy.2.length) = cw at hw ⊢
            simp only [hw, List.length_map]
            have e1 : onI m z (insA 10 ((at0 + cx.1.length + 1 + cy.1.length + 1 : Nat) : Int)) = insA 10 ((at0 + cx.1.length + 1 + cy.1.length + 1 + m : Nat) : Int) := by simp [onI, insA]
            have e2 : onI m z (insA 9 ((at0 + cx.1.length + 1 + cy.1.length + 1 + cw.1.length : Nat) : Int)) = insA 9 ((at0 + cx.1.length + 1 + cy.1.length + 1 + m + cw.1.length : Nat) : Int) := by simp [onI, insA]; omega
            simp only [List.map_append, List.map_cons, e1, e2, List.append_assoc]
        · rw [genC_7else i n lb ow q ks _ _ h3, genC_7else i n lb ow q ks _ _ h3]; rfl
      · by_cases h12 : k = 12
        · subst h12
          rw [genC_12, genC_12]
          exact genS_on ks true E m z at0 pr
        · rw [genC_else i n lb ow q ks _ _ h8 h7 h12, genC_else i n lb ow q ks _ _ h8 h7 h12, genL_on ks E m z at0 pr]
          simp [lastI_on]
theorem each_on : ∀ (l : List Cor), ∀ c ∈ l, On c
  | [], c, hc => by cases hc
  | x :: r, c, hc => by
    rcases List.mem_cons.1 hc with e | hc
    · rw [e]; exact genC_on x
    · exact each_on r c hc
end
theorem genB_append : ∀ (a b : List Cor) (at0 pr : Nat), genB (a ++ b) at0 pr = ((genB a at0 pr).1 ++ (genB b (at0 + (genB a at0 pr).1.length) (pr + (genB a at0 pr).2.length)).1, (genB a at0 pr).2 ++ (genB b (at0 + (genB a at0 pr).1.length) (pr + (genB a at0 pr).2.length)).2)
  | [], b, at0, pr => by simp [genB]
  | c :: r, b, at0, pr => by
    have h := genB_append r b (at0 + (genC c at0 pr).1.length + 1) (pr + (genC c at0 pr).2.length)
    rw [List.cons_append, genB, genB]
    simp only [h, List.length_append, List.length_cons, List.append_assoc, List.cons_append]
    generalize genC c at0 pr = x
    generalize genB r (at0 + x.1.length + 1) (pr + x.2.length) = y
    rw [show at0 + (x.1.length + (y.1.length + 1)) = at0 + x.1.length + 1 + y.1.length by omega, show pr + (x.2.length + y.2.length) = pr + x.2.length + y.2.length by omega]
/-- ONE BEHIND THE OTHER. -/
theorem protos_joined (a b : List Cor) : protosOf (a ++ b) = ⟨0, (genB a 0 1).1 ++ ((genB b 0 1).1 ++ [insO 15]).map (onI (genB a 0 1).1.length (genB a 0 1).2.length)⟩ :: ((genB a 0 1).2 ++ (genB b 0 1).2.map (onP (genB a 0 1).2.length)) := by
  have h := genB_on b (each_on b) (genB a 0 1).1.length (genB a 0 1).2.length 0 1
  have h3 : ∀ n k, onI n k (insO 15) = insO 15 := by intro n k; simp [onI, insO]
  unfold protosOf
  rw [genB_append a b 0 1, h]
  simp [h3]
end
end Go.Proofs.Ytbbmdhkbndgdkaa
