/- Chapter 8's laws: lambdas counted. -/
import Derived.Test.YtbbmdhkbndgdkaaEf
namespace Go.Proofs.Ytbbmdhkbndgdkaa
set_option linter.unusedVariables false
set_option linter.unusedSimpArgs false
open Go.RowKit

theorem lamC_eq (c : Cor) : lamC c = (if c.kind = 8 then 1 else 0) + lamL c.kids := by
  obtain ⟨k, i, n, lb, ow, q, ks⟩ := c
  rw [lamC]

set_option maxRecDepth 100000 in
set_option maxHeartbeats 3200000 in
theorem lambdas_step (B f : Nat) (l : List Cor)
    (ih : l ≠ [] → ∀ (l : List Cor) (a : Option Addr) (cap : Nat) (w : World), Cc B w f a l → B ≤ w.heap.size → l.length ≤ cap → lamL l ≤ 1000000000 → Calls Try.prog 12 #[.slice a l.length cap] w fun e w' => e = .returned (.int .i64 (lamL l : Nat)) ∧ Below w.heap.size w w')
    (a : Option Addr) (cap : Nat) (w : World) (hc : Cc B w (f + 1) a l) (hB : B ≤ w.heap.size) (hcap : l.length ≤ cap) (hn : lamL l ≤ 1000000000) :
    Calls Try.prog 12 #[.slice a l.length cap] w fun e w' => e = .returned (.int .i64 (lamL l : Nat)) ∧ Below w.heap.size w w' := by
  have hlen := hc.len
  have HL := hidd hc
  have IH := hidd ih
  clear hc ih
  obtain ⟨N, hN⟩ : ∃ N, N = lamL l := ⟨_, rfl⟩
  rw [← hN]
  have HN : Hid (N = lamL l ∧ lamL l ≤ 1000000000) := ⟨hN, hn⟩
  clear hN hn
  go_enter Try.func12, Try.ntmps12
  go_wp2_with fail
  go_loopw [3, 8] (fun v ix wr => ∃ j s : Nat, j ≤ l.length ∧ ix = .int .i64 j ∧ v = .int .i64 s ∧ s ≤ 1000000000 ∧ Hid (s = lamL (l.take j) ∧ Below w.heap.size w wr)) (fun _ ix _ => l.length - (intOf ix).toNat)
  case atStart => exact ⟨0, 0, Nat.zero_le _, rfl, rfl, by omega, by simp [lamL], Below.refl _ _⟩
  case round =>
    obtain ⟨j, s, hj, rfl, rfl, hs9, HR⟩ := hrel
    by_cases hlt : j < l.length
    · obtain ⟨c, hc⟩ : ∃ c, l[j]? = some c := ⟨l[j], List.getElem?_eq_getElem hlt⟩
      have hne : l ≠ [] := by intro e; rw [e] at hlt; simp at hlt
      obtain ⟨g', b, o, hg, ha, hall⟩ := HL.out.at hne
      obtain rfl : f = g' := by omega
      subst ha
      obtain ⟨hbB, qa, qc, ka, kc, nc, ok, hqd, hk⟩ := hall j c hc
      have hcl : ∀ q, wr.cell? ⟨b, q, none⟩ = w.cell? ⟨b, q, none⟩ := fun q => HR.out.2.cell (p := ⟨b, q, none⟩) (Nat.lt_of_lt_of_le hbB hB)
      have k0 := (hcl _).trans nc.c0
      have k1 := (hcl _).trans nc.c1
      have k2 := (hcl _).trans nc.c2
      have k3 := (hcl _).trans nc.c3
      have k4 := (hcl _).trans nc.c4
      have k5 := (hcl _).trans nc.c5
      have k6 := (hcl _).trans nc.c6
      have k7 := (hcl _).trans nc.c7
      have k8 := (hcl _).trans nc.c8
      have k9 := (hcl _).trans nc.c9
      have k10 := (hcl _).trans nc.c10
      have k11 := (hcl _).trans nc.c11
      have b1 := lamL_more hc
      have t1 := lamL_take l (j + 1)
      have b2 := lamC_eq c
      have hnn := HN.out
      have hse := HR.out.1
      have ba : Below wr.heap.size wr (wr.alloc (.cells #[.int .i64 c.kind, .int .i64 c.index, .int .i64 c.n, .string c.lib, .string c.own, .int .i64 c.quote.kind, .int .i64 c.quote.n, .string c.quote.name, .int .i64 c.quote.stamp, .int .i64 c.quote.lib, .slice qa c.quote.kids.length qc, .slice ka c.kids.length kc] 40)) := (Below.refl _ _).alloc (Nat.le_refl _) _
      have hb2 := HR.out.2.trans (ba.mono HR.out.2.size)
      have CALL := hidd (IH.out hne c.kids ka kc _ (hk.below (hb2.mono hB)) (Nat.le_trans hB hb2.size) ok.2.2.2.2 (by omega))
      have HB2 := hidd hb2
      by_cases h8 : c.kind = 8
      · rw [if_pos h8] at b2
        have hsum : s + 1 + lamL c.kids ≤ 1000000000 := by omega
        have NX : Hid (s + 1 + lamL c.kids = lamL (l.take (j + 1))) := by show _ = _; omega
        have h8' : (c.kind == 8) = true := by simpa using h8
        clear nc ok hqd hk hall hc hne hcl b1 t1 hnn hse ba hb2 HR b2 h8
        generalize lamL c.kids = S at CALL NX hsum
        go_wp2_with fail
        refine CALL.out.mono ?_
        rintro e w2 ⟨rfl, hb3⟩
        have HE : Hid (s + 1 + S = lamL (l.take (j + 1)) ∧ Below w.heap.size w w2) := ⟨NX.out, HB2.out.trans (hb3.mono HB2.out.size)⟩
        clear hb3 NX CALL k0 k1 k2 k3 k4 k5 k6 k7 k8 k9 k10 k11
        go_wp2_with fail
        go_roundw
        case rel => exact ⟨j + 1, s + 1 + S, by omega, by go_num, by simp, hsum, HE.out⟩
        case measure => simp [intOf]; omega
      · rw [if_neg h8] at b2
        have hsum : s + lamL c.kids ≤ 1000000000 := by omega
        have NX : Hid (s + lamL c.kids = lamL (l.take (j + 1))) := by show _ = _; omega
        have h8' : (c.kind == 8) = false := by simpa using h8
        clear nc ok hqd hk hall hc hne hcl b1 t1 hnn hse ba hb2 HR b2 h8
        generalize lamL c.kids = S at CALL NX hsum
        go_wp2_with fail
        refine CALL.out.mono ?_
        rintro e w2 ⟨rfl, hb3⟩
        have HE : Hid (s + S = lamL (l.take (j + 1)) ∧ Below w.heap.size w w2) := ⟨NX.out, HB2.out.trans (hb3.mono HB2.out.size)⟩
        clear hb3 NX CALL k0 k1 k2 k3 k4 k5 k6 k7 k8 k9 k10 k11
        go_wp2_with fail
        go_roundw
        case rel => exact ⟨j + 1, s + S, by omega, by go_num, by simp, hsum, HE.out⟩
        case measure => simp [intOf]; omega
    · obtain rfl : j = l.length := by omega
      rw [List.take_length] at HR
      clear IH HL
      have e1 := HN.out.1
      have e2 := HR.out.1
      clear HN
      go_wp2_with fail
      go_ret
      exact ⟨by rw [e1, e2]; rfl, HR.out.2⟩
theorem lambdas_any (B : Nat) : ∀ (f : Nat) (l : List Cor) (a : Option Addr) (cap : Nat) (w : World), Cc B w f a l → B ≤ w.heap.size → l.length ≤ cap → lamL l ≤ 1000000000 → Calls Try.prog 12 #[.slice a l.length cap] w fun e w' => e = .returned (.int .i64 (lamL l : Nat)) ∧ Below w.heap.size w w'
  | 0, l, a, cap, w, h, h1, h2, h3 => by
    have e : l = [] := h
    subst e
    exact lambdas_step B 0 [] (fun h => absurd rfl h) a cap w ⟨Nat.zero_le _, Or.inl rfl⟩ h1 h2 h3
  | f + 1, l, a, cap, w, h, h1, h2, h3 => lambdas_step B f l (fun _ => lambdas_any B f) a cap w h h1 h2 h3

/- The lambdas: numbers of parameters, in order. -/
mutual
def argC : Cor → List Int
  | ⟨k, i, n, lb, ow, q, ks⟩ => (if k = 8 then [i] else []) ++ argL ks
def argL : List Cor → List Int
  | [] => []
  | c :: r => argC c ++ argL r
end
theorem argC_eq (c : Cor) : argC c = (if c.kind = 8 then [c.index] else []) ++ argL c.kids := by
  obtain ⟨k, i, n, lb, ow, q, ks⟩ := c
  rw [argC]
theorem argL_append : ∀ (a b : List Cor), argL (a ++ b) = argL a ++ argL b
  | [], b => by simp [argL]
  | c :: a, b => by rw [List.cons_append, argL, argL, argL_append a b, List.append_assoc]
theorem argL_more {l : List Cor} {j : Nat} {c : Cor} (h : l[j]? = some c) : argL (l.take (j + 1)) = argL (l.take j) ++ argC c := by
  rw [take_more h, argL_append]; simp [argL]
def Arg (c : Cor) : Prop := ∀ at0 pr, (genC c at0 pr).2.map Pro.args = argC c
theorem genL_arg : ∀ (l : List Cor), (∀ c ∈ l, Arg c) → ∀ at0 pr, (genL l at0 pr).2.map Pro.args = argL l
  | [], _, at0, pr => by rw [genL, argL]; rfl
  | c :: r, h, at0, pr => by
    rw [genL, argL]
    simp only [List.map_append]
    rw [h c (by simp), genL_arg r (fun c hc => h c (List.mem_cons_of_mem _ hc))]
theorem genS_arg : ∀ (l : List Cor) (b : Bool), (∀ c ∈ l, Arg c) → ∀ at0 pr, (genS l b at0 pr).2.map Pro.args = argL l
  | [], b, _, at0, pr => by rw [genS, argL]; rfl
  | c :: r, b, h, at0, pr => by
    rw [genS, argL]
    simp only [List.map_append]
    rw [h c (by simp), genS_arg r false (fun c hc => h c (List.mem_cons_of_mem _ hc))]
theorem genB_arg : ∀ (l : List Cor), (∀ c ∈ l, Arg c) → ∀ at0 pr, (genB l at0 pr).2.map Pro.args = argL l
  | [], _, at0, pr => by rw [genB, argL]; rfl
  | c :: r, h, at0, pr => by
    rw [genB, argL]
    simp only [List.map_append]
    rw [h c (by simp), genB_arg r (fun c hc => h c (List.mem_cons_of_mem _ hc))]
mutual
theorem genC_arg : ∀ (c : Cor), okC c → Arg c
  | ⟨k, i, n, lb, ow, q, ks⟩, h => by
    rw [okC] at h
    have E := each_arg ks h.2
    have hw := h.1
    intro at0 pr
    by_cases h8 : k = 8
    · subst h8
      have := wk8 hw
      match ks, this, E with
      | [b], _, E =>
        rw [genC, argC]
        simp only [if_true, List.map_cons, argL, List.append_nil]
        rw [E b (by simp)]
        rfl
    · by_cases h7 : k = 7
      · subst h7
        have := wk7 hw
        match ks, this, E with
        | [a, b, c], _, E =>
          rw [genC, argC]
          simp only [Int.reduceEq, if_false, if_true, argL, List.map_append, List.nil_append, List.append_nil]
          rw [E a (by simp), E b (by simp), E c (by simp), List.append_assoc]
      · by_cases h12 : k = 12
        · subst h12
          rw [genC.eq_def, argC]
          simp only [Int.reduceEq, if_false, if_true, List.nil_append]
          exact genS_arg ks true E at0 pr
        · rw [genC_else i n lb ow q ks at0 pr h8 h7 h12, argC, if_neg h8, List.nil_append]
          exact genL_arg ks E at0 pr
theorem each_arg : ∀ (l : List Cor), okL l → ∀ c ∈ l, Arg c
  | [], _, c, hc => by cases hc
  | x :: r, h, c, hc => by
    rw [okL] at h
    rcases List.mem_cons.1 hc with e | hc
    · rw [e]; exact genC_arg x h.1
    · exact each_arg r h.2 c hc
end
theorem protos_arg (b : List Cor) (h : okL b) : (protosOf b).map Pro.args = 0 :: argL b := by
  unfold protosOf
  rw [List.map_cons, genB_arg b (each_arg b h)]
mutual
theorem argC_len : ∀ (c : Cor), (argC c).length = lamC c
  | ⟨k, i, n, lb, ow, q, ks⟩ => by
    rw [argC, lamC, List.length_append, argL_len ks]
    split <;> rfl
theorem argL_len : ∀ (l : List Cor), (argL l).length = lamL l
  | [] => rfl
  | c :: r => by rw [argL, lamL, List.length_append, argC_len c, argL_len r]
end
end Go.Proofs.Ytbbmdhkbndgdkaa
