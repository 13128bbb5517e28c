/- Chapter 8's laws: nodes counted; how long code is in all. -/
import Derived.Test.YtbbmdhkbndgdkaaEe
namespace Go.Proofs.Ytbbmdhkbndgdkaa
set_option linter.unusedVariables false
set_option linter.unusedSimpArgs false
open Go.RowKit

/-- The kids' nodes. -/
def kidN : List Cor → Nat
  | [] => 0
  | c :: r => nodL c.kids + kidN r
theorem nodL_kid : ∀ (l : List Cor), nodL l = l.length + kidN l
  | [] => rfl
  | ⟨k, i, n, lb, ow, q, ks⟩ :: r => by
    rw [nodL, nodC, kidN, nodL_kid r, List.length_cons]
    simp only
    omega
theorem kidN_append : ∀ (a b : List Cor), kidN (a ++ b) = kidN a + kidN b
  | [], b => by simp [kidN]
  | c :: a, b => by rw [List.cons_append, kidN, kidN, kidN_append a b]; omega
theorem kidN_more {l : List Cor} {j : Nat} {c : Cor} (h : l[j]? = some c) : kidN (l.take (j + 1)) = kidN (l.take j) + nodL c.kids := by
  rw [take_more h, kidN_append]; simp [kidN]
theorem kidN_take (l : List Cor) (j : Nat) : kidN (l.take j) ≤ kidN l := by
  have h := kidN_append (l.take j) (l.drop j)
  rw [List.take_append_drop] at h
  omega

set_option maxRecDepth 100000 in
set_option maxHeartbeats 3200000 in
theorem nodes_step (B f nb : Nat) (l : List Cor)
    (ih : l ≠ [] → ∀ (l : List Cor) (a : Option Addr) (cap : Nat) (w : World), Cc B w f a l → B ≤ w.heap.size → l.length ≤ cap → nodL l ≤ 1000000000 → w.heap[nb]? = some (.cells #[.func (.func 14) #[] #[.pointer (some ⟨nb, 0, none⟩)]] 41 (0, 0)) → Calls Try.prog 14 #[.slice a l.length cap, .pointer (some ⟨nb, 0, none⟩)] w fun e w' => e = .returned (.int .i64 (nodL l : Nat)) ∧ Below w.heap.size w w')
    (a : Option Addr) (cap : Nat) (w : World) (hc : Cc B w (f + 1) a l) (hB : B ≤ w.heap.size) (hcap : l.length ≤ cap) (hn : nodL l ≤ 1000000000) (hnb : w.heap[nb]? = some (.cells #[.func (.func 14) #[] #[.pointer (some ⟨nb, 0, none⟩)]] 41 (0, 0))) :
    Calls Try.prog 14 #[.slice a l.length cap, .pointer (some ⟨nb, 0, none⟩)] w fun e w' => e = .returned (.int .i64 (nodL l : Nat)) ∧ Below w.heap.size w w' := by
  have hlen := hc.len
  have HL := hidd hc
  have IH := hidd ih
  have HNB := hidd hnb
  have hkn := nodL_kid l
  clear hc ih hnb
  obtain ⟨N, hN⟩ : ∃ N, N = nodL l := ⟨_, rfl⟩
  rw [← hN]
  have HN : Hid (N = l.length + kidN l ∧ N ≤ 1000000000) := ⟨by omega, by omega⟩
  clear hN hn hkn
  go_enter Try.func14, Try.ntmps14
  go_wp2_with fail
  go_loopw [4, 11] (fun v ix wr => ∃ j s : Nat, j ≤ l.length ∧ ix = .int .i64 j ∧ v = .int .i64 s ∧ s ≤ 1000000000 ∧ Hid (s = l.length + kidN (l.take j) ∧ Below w.heap.size w wr)) (fun _ ix _ => l.length - (intOf ix).toNat)
  case atStart => exact ⟨0, l.length, Nat.zero_le _, rfl, rfl, by have := HN.out; omega, by simp [kidN], Below.refl _ _⟩
  case round =>
    obtain ⟨j, s, hj, rfl, rfl, hs9, HR⟩ := hrel
    by_cases hlt : j < l.length
    · obtain ⟨c, hc⟩ : ∃ c, l[j]? = some c := ⟨l[j], List.getElem?_eq_getElem hlt⟩
      have hne : l ≠ [] := by intro e; rw [e] at hlt; simp at hlt
      obtain ⟨g', b, o, hg, ha, hall⟩ := HL.out.at hne
      obtain rfl : f = g' := by omega
      subst ha
      obtain ⟨hbB, qa, qc, ka, kc, nc, ok, hqd, hk⟩ := hall j c hc
      have hcl : ∀ q, wr.cell? ⟨b, q, none⟩ = w.cell? ⟨b, q, none⟩ := fun q => HR.out.2.cell (p := ⟨b, q, none⟩) (Nat.lt_of_lt_of_le hbB hB)
      have k0 := (hcl _).trans nc.c0
      have k1 := (hcl _).trans nc.c1
      have k2 := (hcl _).trans nc.c2
      have k3 := (hcl _).trans nc.c3
      have k4 := (hcl _).trans nc.c4
      have k5 := (hcl _).trans nc.c5
      have k6 := (hcl _).trans nc.c6
      have k7 := (hcl _).trans nc.c7
      have k8 := (hcl _).trans nc.c8
      have k9 := (hcl _).trans nc.c9
      have k10 := (hcl _).trans nc.c10
      have k11 := (hcl _).trans nc.c11
      have b1 := kidN_more hc
      have t1 := kidN_take l (j + 1)
      have hnn := HN.out
      have hse := HR.out.1
      have ba : Below wr.heap.size wr (wr.alloc (.cells #[.int .i64 c.kind, .int .i64 c.index, .int .i64 c.n, .string c.lib, .string c.own, .int .i64 c.quote.kind, .int .i64 c.quote.n, .string c.quote.name, .int .i64 c.quote.stamp, .int .i64 c.quote.lib, .slice qa c.quote.kids.length qc, .slice ka c.kids.length kc] 40)) := (Below.refl _ _).alloc (Nat.le_refl _) _
      have hb2 := HR.out.2.trans (ba.mono HR.out.2.size)
      have hnb2 := (hb2.block nb (Array.getElem?_eq_some_iff.1 HNB.out).1).trans HNB.out
      have CALL := hidd (IH.out hne c.kids ka kc _ (hk.below (hb2.mono hB)) (Nat.le_trans hB hb2.size) ok.2.2.2.2 (by omega) hnb2)
      have fnb : wr.cell? ⟨nb, 0, none⟩ = some (.func (.func 14) #[] #[.pointer (some ⟨nb, 0, none⟩)]) := (cellOf ((HR.out.2.block nb (Array.getElem?_eq_some_iff.1 HNB.out).1).trans HNB.out)).trans rfl
      have hnbl : nb < wr.heap.size := Nat.lt_of_lt_of_le (Array.getElem?_eq_some_iff.1 HNB.out).1 HR.out.2.size
      have NX : Hid (s + nodL c.kids = l.length + kidN (l.take (j + 1)) ∧ Below w.heap.size w (wr.alloc (.cells #[.int .i64 c.kind, .int .i64 c.index, .int .i64 c.n, .string c.lib, .string c.own, .int .i64 c.quote.kind, .int .i64 c.quote.n, .string c.quote.name, .int .i64 c.quote.stamp, .int .i64 c.quote.lib, .slice qa c.quote.kids.length qc, .slice ka c.kids.length kc] 40))) := ⟨by omega, hb2⟩
      have hsum : s + nodL c.kids ≤ 1000000000 := by omega
      clear nc ok hqd hk hall hc hne hcl b1 t1 hnn hse ba hb2 hnb2 HR
      generalize nodL c.kids = S at CALL NX hsum
      go_wp2_with fail
      refine CALL.out.mono ?_
      rintro e w2 ⟨rfl, hb3⟩
      have HE : Hid (s + S = l.length + kidN (l.take (j + 1)) ∧ Below w.heap.size w w2) := ⟨NX.out.1, NX.out.2.trans (hb3.mono NX.out.2.size)⟩
      clear hb3 NX CALL k0 k1 k2 k3 k4 k5 k6 k7 k8 k9 k10 k11 fnb
      go_wp2_with fail
      go_roundw
      case rel => exact ⟨j + 1, s + S, by omega, by go_num, by simp, hsum, HE.out⟩
      case measure => simp [intOf]; omega
    · obtain rfl : j = l.length := by omega
      rw [List.take_length] at HR
      clear IH HL
      have e1 := HN.out.1
      have e2 := HR.out.1
      clear HN
      go_wp2_with fail
      go_ret
      exact ⟨by rw [e1, e2]; rfl, HR.out.2⟩
theorem nodes_any (B nb : Nat) : ∀ (f : Nat) (l : List Cor) (a : Option Addr) (cap : Nat) (w : World), Cc B w f a l → B ≤ w.heap.size → l.length ≤ cap → nodL l ≤ 1000000000 → w.heap[nb]? = some (.cells #[.func (.func 14) #[] #[.pointer (some ⟨nb, 0, none⟩)]] 41 (0, 0)) → Calls Try.prog 14 #[.slice a l.length cap, .pointer (some ⟨nb, 0, none⟩)] w fun e w' => e = .returned (.int .i64 (nodL l : Nat)) ∧ Below w.heap.size w w'
  | 0, l, a, cap, w, h, h1, h2, h3, h4 => by
    have e : l = [] := h
    subst e
    exact nodes_step B 0 nb [] (fun h => absurd rfl h) a cap w ⟨Nat.zero_le _, Or.inl rfl⟩ h1 h2 h3 h4
  | f + 1, l, a, cap, w, h, h1, h2, h3, h4 => nodes_step B f nb l (fun _ => nodes_any B nb f) a cap w h h1 h2 h3 h4

/-- How long procedures' code is in all. -/
def sumP : List Pro → Nat
  | [] => 0
  | p :: r => p.code.length + sumP r
theorem sumP_append : ∀ (a b : List Pro), sumP (a ++ b) = sumP a + sumP b
  | [], b => by simp [sumP]
  | p :: a, b => by rw [List.cons_append, sumP, sumP, sumP_append a b]; omega
def Tot (c : Cor) : Prop := ∀ at0 pr, (genC c at0 pr).1.length + sumP (genC c at0 pr).2 + 1 ≤ 3 * nodC c + lamC c
theorem genL_tot : ∀ (l : List Cor), (∀ c ∈ l, Tot c) → ∀ at0 pr, (genL l at0 pr).1.length + sumP (genL l at0 pr).2 + l.length ≤ 3 * nodL l + lamL l
  | [], _, at0, pr => by rw [genL, nodL, lamL]; simp [sumP]
  | c :: r, h, at0, pr => by
    have h1 := h c (by simp) at0 pr
    have h2 := genL_tot r (fun c hc => h c (List.mem_cons_of_mem _ hc)) (at0 + (genC c at0 pr).1.length) (pr + (genC c at0 pr).2.length)
    rw [genL, nodL, lamL]
    simp only [List.length_append, sumP_append, List.length_cons]
    omega
theorem genS_tot : ∀ (l : List Cor) (b : Bool), (∀ c ∈ l, Tot c) → ∀ at0 pr, (genS l b at0 pr).1.length + sumP (genS l b at0 pr).2 ≤ 3 * nodL l + lamL l
  | [], b, _, at0, pr => by rw [genS, nodL, lamL]; simp [sumP]
  | c :: r, b, h, at0, pr => by
    rw [genS, nodL, lamL]
    simp only [List.length_append, sumP_append]
    have hp : (if b = true then ([] : List In) else [insO 14]).length ≤ 1 := by split <;> simp
    have h1 := h c (by simp) (at0 + (if b = true then ([] : List In) else [insO 14]).length) pr
    have h2 := genS_tot r false (fun c hc => h c (List.mem_cons_of_mem _ hc)) (at0 + (if b = true then ([] : List In) else [insO 14]).length + (genC c (at0 + (if b = true then ([] : List In) else [insO 14]).length) pr).1.length) (pr + (genC c (at0 + (if b = true then ([] : List In) else [insO 14]).length) pr).2.length)
    omega
theorem genB_tot : ∀ (l : List Cor), (∀ c ∈ l, Tot c) → ∀ at0 pr, (genB l at0 pr).1.length + sumP (genB l at0 pr).2 ≤ 3 * nodL l + lamL l
  | [], _, at0, pr => by rw [genB, nodL, lamL]; simp [sumP]
  | c :: r, h, at0, pr => by
    have h1 := h c (by simp) at0 pr
    have h2 := genB_tot r (fun c hc => h c (List.mem_cons_of_mem _ hc)) (at0 + (genC c at0 pr).1.length + 1) (pr + (genC c at0 pr).2.length)
    rw [genB, nodL, lamL]
    simp only [List.length_append, sumP_append, List.length_cons]
    omega
mutual
theorem genC_tot : ∀ (c : Cor), okC c → Tot c
  | ⟨k, i, n, lb, ow, q, ks⟩, h => by
    rw [okC] at h
    have E := each_tot ks h.2
    have hw := h.1
    intro at0 pr
    by_cases h8 : k = 8
    · subst h8
      have := wk8 hw
      match ks, this, E with
      | [b], _, E =>
        have h1 := E b (by simp) 0 (pr + 1)
        rw [genC, nodC, lamC]
        simp [lamL, nodL, sumP]
        omega
    · by_cases h7 : k = 7
      · subst h7
        have := wk7 hw
        match ks, this, E with
        | [x, y, z], _, E =>
          have h1 := E x (by simp) at0 pr
          have h2 := E y (by simp) (at0 + (genC x at0 pr).1.length + 1) (pr + (genC x at0 pr).2.length)
          have h3 := E z (by simp) (at0 + (genC x at0 pr).1.length + 1 + (genC y (at0 + (genC x at0 pr).1.length + 1) (pr + (genC x at0 pr).2.length)).1.length + 1) (pr + (genC x at0 pr).2.length + (genC y (at0 + (genC x at0 pr).1.length + 1) (pr + (genC x at0 pr).2.length)).2.length)
          rw [genC, nodC, lamC]
          simp [lamL, nodL, sumP_append]
          omega
      · by_cases h12 : k = 12
        · subst h12
          have h1 := genS_tot ks true E at0 pr
          rw [genC.eq_def, nodC, lamC]
          simp
          omega
        · have h1 := genL_tot ks E at0 pr
          rw [genC_else i n lb ow q ks at0 pr h8 h7 h12, nodC, lamC, if_neg h8]
          simp only [List.length_append, List.length_singleton]
          omega
theorem each_tot : ∀ (l : List Cor), okL l → ∀ c ∈ l, Tot c
  | [], _, c, hc => by cases hc
  | x :: r, h, c, hc => by
    rw [okL] at h
    rcases List.mem_cons.1 hc with e | hc
    · rw [e]; exact genC_tot x h.1
    · exact each_tot r h.2 c hc
end
theorem sum_protos (b : List Cor) (h : okL b) : sumP (protosOf b) ≤ 3 * nodL b + b.length + (protosOf b).length := by
  have h1 := genB_tot b (each_tot b h) 0 1
  have h2 := genB_len b (each_len b h) 0 1
  unfold protosOf
  rw [sumP, List.length_cons]
  simp only [List.length_append, List.length_singleton]
  omega
end Go.Proofs.Ytbbmdhkbndgdkaa
