/- Chapter 9, plainly: what is unlike is written unlike. Chapter 9: ObjectUnlike, the walk. -/
import Derived.Test.YtdnbingddbakaaaGreatDoorK43
import Derived.Test.YtdnbingddbakaaaGreatDoorK46
import Derived.Test.YtdnbingddbakaaaGreatDoorK48
namespace Go.Proofs.YtdnbingddbakaaaGreatDoor
section
set_option linter.unusedVariables false
set_option linter.unusedSimpArgs false
open Go.RowKit

mutual
theorem sameD_bare : ∀ (d e : Dat), sameD (bareQ d) (bareQ e) = true → bareQ d = bareQ e
  | ⟨k, n, nm, st, lb, ks⟩, ⟨k', n', nm', st', lb', ks'⟩, h => by
    rw [bareQ, bareQ] at h ⊢
    rw [sameD] at h
    simp only at h
    by_cases hk : k = k'
    · subst hk
      rw [if_neg (by simp)] at h
      by_cases k1 : k = 1 ∨ k = 2
      · have k3 : ¬ k = 3 := by omega
        have k4 : ¬ k = 4 := by omega
        simp only [if_pos k1, decide_eq_true_eq] at h
        simp [k1, k3, k4, h]
      rw [if_neg k1] at h
      by_cases k3 : k = 3
      · subst k3
        simp at h
        simp [h]
      rw [if_neg k3] at h
      by_cases k4 : k = 4
      · subst k4
        simp only [if_true] at h
        rw [sameL_bare ks ks' h]
        simp
      · simp [k1, k3, k4]
    · rw [if_pos hk] at h
      simp at h
theorem sameL_bare : ∀ (l m : List Dat), sameL (bareQL l) (bareQL m) = true → bareQL l = bareQL m
  | [], [], _ => rfl
  | [], e :: s, h => by rw [bareQL, bareQL, sameL] at h; simp at h
  | d :: r, [], h => by rw [bareQL, bareQL, sameL] at h; simp at h
  | d :: r, e :: s, h => by
    rw [bareQL, bareQL, sameL_cons, Bool.and_eq_true] at h
    rw [bareQL, bareQL, sameD_bare d e h.1, sameL_bare r s h.2]
end
mutual
theorem sameD_refl : ∀ (d : Dat), sameD d d = true
  | ⟨k, n, nm, st, lb, ks⟩ => by
    rw [sameD]
    simp only
    rw [if_neg (by simp)]
    by_cases k1 : k = 1 ∨ k = 2
    · simp [k1]
    rw [if_neg k1]
    by_cases k3 : k = 3
    · simp [k3]
    rw [if_neg k3]
    by_cases k4 : k = 4
    · rw [if_pos k4]; exact sameL_refl ks
    · rw [if_neg k4]
theorem sameL_refl : ∀ (l : List Dat), sameL l l = true
  | [] => by rw [sameL]; rfl
  | d :: r => by rw [sameL_cons, sameD_refl d, sameL_refl r]; rfl
end
theorem sameG_refl {α : Type} {f : α → α → Bool} (hf : ∀ x, f x x = true) : ∀ (l : List α), sameG f l l = true
  | [] => by rw [sameG]; rfl
  | d :: r => by rw [sameG_cons, hf d, sameG_refl hf r]; rfl
theorem sameI_refl (x : In) : sameI x x = true := by unfold sameI; simp [sameD_refl]
theorem samePr_refl (p : Pro) : samePr p p = true := by unfold samePr; simp [sameG_refl sameI_refl]
theorem sameI_bare {x y : In} (h : sameI (bareI x) (bareI y) = true) : bareI x = bareI y := by
  unfold sameI at h
  simp only [Bool.and_eq_true, decide_eq_true_eq] at h
  obtain ⟨⟨⟨⟨⟨h0, h1⟩, h2⟩, h3⟩, h4⟩, h5⟩ := h
  have ho : x.op = y.op := by rw [← bare_op x, ← bare_op y]; exact h0
  have hq : (bareI x).quote = (bareI y).quote := by
    by_cases c : layW x.op = 3
    · have e1 : (bareI x).quote = bareQ x.quote := by unfold bareI; simp [c]
      have e2 : (bareI y).quote = bareQ y.quote := by unfold bareI; rw [← ho]; simp [c]
      rw [e1, e2] at h5 ⊢
      exact sameD_bare _ _ h5
    · have e : ∀ z : In, layW z.op ≠ 3 → (bareI z).quote = emD := fun z hz => by
        unfold bareI
        rw [if_neg hz]
        (repeat' split) <;> rfl
      rw [e x c, e y (by rw [← ho]; exact c)]
  cases hx : bareI x with
  | mk a1 a2 a3 a4 a5 a6 =>
    cases hy : bareI y with
    | mk b1 b2 b3 b4 b5 b6 =>
      rw [hx, hy] at h0 h1 h2 h3 h4 hq
      simp only at h0 h1 h2 h3 h4 hq
      rw [h0, h1, h2, h3, h4, hq]
theorem sameG_bare {α : Type} {f : α → α → Bool} {g : α → α} (hf : ∀ x y, f (g x) (g y) = true → g x = g y) : ∀ (l m : List α), sameG f (l.map g) (m.map g) = true → l.map g = m.map g
  | [], [], _ => rfl
  | [], e :: s, h => by rw [List.map_nil, List.map_cons, sameG] at h; simp at h
  | d :: r, [], h => by rw [List.map_nil, List.map_cons, sameG] at h; simp at h
  | d :: r, e :: s, h => by
    rw [List.map_cons, List.map_cons, sameG_cons, Bool.and_eq_true] at h
    rw [List.map_cons, List.map_cons, hf d e h.1, sameG_bare hf r s h.2]
theorem samePr_bare {p q : Pro} (h : samePr (bareP p) (bareP q) = true) : bareP p = bareP q := by
  unfold samePr at h
  rw [Bool.and_eq_true, decide_eq_true_eq] at h
  have h1 : p.args = q.args := h.1
  have h2 := sameG_bare (fun x y hh => sameI_bare hh) p.code q.code h.2
  unfold bareP
  rw [h1, h2]
theorem insB_bare {x : In} (h : layW x.op = 3 → (wrong [x.quote]).1 = 0) : insB qtP (bareI x) = insB qtP x := by
  unfold insB
  rw [bare_op]
  by_cases c2 : layW x.op = 2
  · have e : (bareI x).n = x.n := by unfold bareI; simp [c2, insN]
    rw [e]; simp [c2]
  by_cases c3 : layW x.op = 3
  · have e : (bareI x).quote = bareQ x.quote := by unfold bareI; simp [c3]
    have e2 : qtP (bareQ x.quote) = qtP x.quote := by unfold qtP; rw [printed_bare (h c3)]
    rw [e, e2]; simp [c3]
  by_cases c4 : layW x.op = 4
  · have e : (bareI x).lib = x.lib ∧ (bareI x).own = x.own := by unfold bareI; simp [c4, insG]
    rw [e.1, e.2]; simp [c4]
  by_cases c5 : layW x.op = 5
  · have e : (bareI x).own = x.own := by unfold bareI; simp [c5, insG]
    rw [e]; simp [c5]
  by_cases c6 : layW x.op = 6
  · rw [bare_a c6]; simp [c6]
  simp [c2, c3, c4, c5, c6]
theorem flat_congr {α : Type} {f g : α → List UInt8} : ∀ {l : List α}, (∀ x ∈ l, f x = g x) → l.flatMap f = l.flatMap g
  | [], _ => rfl
  | x :: r, h => by rw [List.flatMap_cons, List.flatMap_cons, h x List.mem_cons_self, flat_congr (fun y hy => h y (List.mem_cons_of_mem _ hy))]
theorem unitB_bare {nm : ByteArray} {PP : List Pro} (h : wrongU nm PP = 0) : unitB qtP nm (PP.map bareP) = unitB qtP nm PP := by
  have hr := rightU_of h
  unfold unitB
  rw [List.length_map, List.flatMap_map]
  congr 1
  refine flat_congr (fun P hP => ?_)
  show protoB qtP (bareP P) = protoB qtP P
  unfold protoB bareP
  simp only [List.length_map]
  congr 1
  rw [List.flatMap_map]
  refine flat_congr (fun x hx => ?_)
  obtain ⟨ho, hq⟩ := hr.isok hP hx
  refine insB_bare (fun c => hq ?_)
  have := ho.1
  unfold layW at c
  (repeat' split at c) <;> omega
/-- WHAT IS UNLIKE IS WRITTEN UNLIKE. -/
theorem unlike {nm nm2 : ByteArray} {PP QQ : List Pro} {a b : List UInt8} (ha : bytesU qtP nm PP = (0, a)) (hb : bytesU qtP nm2 QQ = (0, b)) : decide (a = b) = (decide (nm = nm2) && sameG samePr (PP.map bareP) (QQ.map bareP)) := by
  have ba : ∀ {nm : ByteArray} {PP : List Pro} {a : List UInt8}, bytesU qtP nm PP = (0, a) → a = unitB qtP nm PP := fun {nm PP a} h => by
    unfold bytesU at h
    by_cases h0 : wrongU nm PP = 0
    · rw [if_pos h0] at h
      split at h
      · simp only [Prod.mk.injEq, true_and] at h; exact h.symm
      · simp at h
    · rw [if_neg h0] at h
      simp only [Prod.mk.injEq] at h
      exact absurd h.1 h0
  obtain ⟨w1, t1⟩ := turn_there ha
  obtain ⟨w2, t2⟩ := turn_there hb
  by_cases e : a = b
  · subst e
    rw [t1] at t2
    simp only [Option.some.injEq, Prod.mk.injEq, true_and] at t2
    rw [t2.1, t2.2, sameG_refl samePr_refl]
    simp
  · rw [decide_eq_false e]
    by_cases hn : nm = nm2
    · subst hn
      by_cases hs : sameG samePr (PP.map bareP) (QQ.map bareP) = true
      · exfalso
        have := sameG_bare (fun p q h => samePr_bare h) PP QQ hs
        exact e (by rw [ba ha, ba hb, ← unitB_bare w1, ← unitB_bare w2, this])
      · simp [hs]
    · simp [hn]
set_option maxRecDepth 100000 in
set_option maxHeartbeats 3200000 in
theorem SameUnitB_any (nm nm2 : ByteArray) (ps qs : List Pro) (pa qa : Option Addr) (n m pc qc : Nat) (w : World) (hn0 : n = ps.length) (hm0 : m = qs.length) (hp : PL w.heap.size w pa ps) (hq : PL w.heap.size w qa qs) (hn : n ≤ 1000000000) (hm : ∀ p ∈ ps, p.code.length ≤ 1000000000) (hm2 : ∀ p ∈ qs, p.code.length ≤ 1000000000) (hpc : n ≤ pc) (hqc : m ≤ qc) :
    Calls Tryz.prog 14 #[.agg #[.string nm, .slice pa n pc], .agg #[.string nm2, .slice qa m qc]] w (Ans (decide (nm = nm2) && sameG samePr ps qs) w) := by
  have b1 := (Below.refl w.heap.size w).alloc (Nat.le_refl _) (.cells #[.string nm, .slice pa n pc] 24)
  have b2 := b1.alloc (by simp) (.cells #[.string nm2, .slice qa m qc] 24)
  have SP : Hid (Calls Tryz.prog 37 #[.slice pa n pc, .slice qa m qc] ((w.alloc (.cells #[.string nm, .slice pa n pc] 24)).alloc (.cells #[.string nm2, .slice qa m qc] 24)) (Ans (sameG samePr ps qs) ((w.alloc (.cells #[.string nm, .slice pa n pc] 24)).alloc (.cells #[.string nm2, .slice qa m qc] 24)))) := by
    unfold Hid
    by_cases hl : ps.length = qs.length
    · have := SamePB_any pa qa pc qc ps qs _ ((hp.below b2).mono (by simp; omega)) ((hq.below b2).mono (by simp; omega)) hl (by rw [← hn0]; exact hn) hm hm2 (by rw [← hn0]; exact hpc) (by rw [hl, ← hm0]; exact hqc)
      rw [← hn0] at this
      have hmn : m = n := by omega
      have e2 : (Value.slice qa m qc) = Value.slice qa n qc := by rw [hmn]
      show Calls Tryz.prog 37 #[.slice pa n pc, .slice qa m qc] _ _
      rw [show (#[Value.slice pa n pc, Value.slice qa m qc] : Array Value) = #[Value.slice pa n pc, Value.slice qa n qc] by rw [hmn]]
      exact this
    · rw [sameG_len samePr ps qs hl]
      exact SamePN_len pa qa n m pc qc _ (by omega)
  have HB := hidd b2
  obtain ⟨q, hq0⟩ : ∃ q, q = sameG samePr ps qs := ⟨_, rfl⟩
  rw [← hq0] at SP ⊢
  clear hp hq hm hm2 b1 b2 hq0 hn0 hm0
  by_cases e : nm = nm2
  · subst e
    rw [decide_eq_true rfl, Bool.true_and]
    have hs : (nm.toList == nm.toList) = true := by simp
    go_enter Tryz.func14, Tryz.ntmps14
    go_wp2_with fail
    refine SP.out.mono ?_
    rintro e w1 ⟨rfl, hb1⟩
    have HB1 := hidd (HB.out.trans (hb1.mono HB.out.size))
    clear hb1
    go_wp2_with fail
    go_ret
    exact ⟨rfl, HB1.out⟩
  · rw [decide_eq_false e, Bool.false_and]
    have hs := beqS_ne e
    clear e
    go_enter Tryz.func14, Tryz.ntmps14
    go_wp2_with fail
    go_ret
    exact ⟨rfl, HB.out⟩
theorem same_dec (l1 l2 : List UInt8) (a1 a2 : Option Addr) (n m c1 c2 : Nat) (w : World) (hn : n = l1.length) (hm : m = l2.length) (h1 : ByL w a1 l1) (h2 : ByL w a2 l2) (hne1 : l1 ≠ []) (hne2 : l2 ≠ []) :
    Calls Tryz.prog 11 #[.slice a1 n c1, .slice a2 m c2] w (Ans (decide (l1 = l2)) w) := by
  obtain ⟨g1, o1, rfl, hg1, k1⟩ : ∃ g o, a1 = some ⟨g, o, none⟩ ∧ g < w.heap.size ∧ ∀ (i : Nat) (c : UInt8), l1[i]? = some c → w.cell? ⟨g, o + i, none⟩ = some (.int .u8 ((c.toNat : Nat) : Int)) := by
    rcases h1 with h | h
    · exact absurd h hne1
    · exact h
  obtain ⟨g2, o2, rfl, hg2, k2⟩ : ∃ g o, a2 = some ⟨g, o, none⟩ ∧ g < w.heap.size ∧ ∀ (i : Nat) (c : UInt8), l2[i]? = some c → w.cell? ⟨g, o + i, none⟩ = some (.int .u8 ((c.toNat : Nat) : Int)) := by
    rcases h2 with h | h
    · exact absurd h hne2
    · exact h
  have cv : ∀ (bs : List UInt8) (g o n c : Nat), n = bs.length → (∀ (i : Nat) (c : UInt8), bs[i]? = some c → w.cell? ⟨g, o + i, none⟩ = some (.int .u8 ((c.toNat : Nat) : Int))) → (convert 25 9 (.slice (some ⟨g, o, none⟩) n c)).run Tryz.prog w = .ok (.string ⟨bs.toArray⟩) w := fun bs g o n c hn hk => by
    have := run_convert_bytes_back (P := Tryz.prog) w 25 9 5 ⟨g, o, none⟩ c bs Tryz.underlying25 Tryz.underlying5 Tryz.underlying9 (fun j hj => by
      rw [addr_plus]
      exact hk j bs[j] (List.getElem?_eq_getElem hj))
    rw [hn]
    exact this
  have v1 := cv l1 g1 o1 n c1 hn k1
  have v2 := cv l2 g2 o2 m c2 hm k2
  have hd : ((⟨l1.toArray⟩ : ByteArray).toList == (⟨l2.toArray⟩ : ByteArray).toList) = decide (l1 = l2) := by
    by_cases e : l1 = l2
    · subst e; simp
    · rw [decide_eq_false e]
      refine beqS_ne (fun h => e ?_)
      have := congrArg ByteArray.data h
      simpa using this
  obtain ⟨q, hq⟩ : ∃ q, q = decide (l1 = l2) := ⟨_, rfl⟩
  rw [← hq] at hd ⊢
  clear k1 k2 cv h1 h2 hn hm hq
  generalize (⟨l1.toArray⟩ : ByteArray) = s1 at v1 hd
  generalize (⟨l2.toArray⟩ : ByteArray) = s2 at v2 hd
  go_enter Tryz.func11, Tryz.ntmps11
  go_wp2_with fail
  go_ret
  exact ⟨by simp [hd], Below.refl _ _⟩
end
section
set_option linter.unusedVariables false
set_option linter.unusedSimpArgs false
open Go.RowKit

theorem bytes_some {nm : ByteArray} {PP : List Pro} {a : List UInt8} (h : bytesU qtP nm PP = (0, a)) : a ≠ [] := by
  intro e
  rw [e] at h
  exact (turn_back (turn_there h).2).2.2 rfl
set_option maxRecDepth 100000 in
set_option maxHeartbeats 12800000 in
theorem ObjectUnlike_walk (nm nm2 : ByteArray) (PP QQ : List Pro) (pa qa : Option Addr) (n m pc qc : Nat) (w : World) (hn : n = PP.length) (hm : m = QQ.length) (hnm : nm.size ≤ maxLen) (hnm2 : nm2.size ≤ maxLen) (hl : PL w.heap.size w pa PP) (hl2 : PL w.heap.size w qa QQ) (hpc : n ≤ pc) (hqc : m ≤ qc) (hmax : n ≤ 9223372036854775807) (hmax2 : m ≤ 9223372036854775807) (ht : TB2 w) :
    Calls Tryz.prog 6 #[.agg #[.string nm, .slice pa n pc], .agg #[.string nm2, .slice qa m qc]] w (Yes w) := by
  have b1 := (Below.refl w.heap.size w).alloc (Nat.le_refl _) (.cells #[.string nm, .slice pa n pc] 24)
  have b2 := b1.alloc (by simp) (.cells #[.string nm2, .slice qa m qc] 24)
  have HU0 := hidd ((Below.heap_alloc (w.alloc (.cells #[.string nm, .slice pa n pc] 24)) (.cells #[.string nm2, .slice qa m qc] 24) w.heap.size (by simp)).trans (World.alloc_heap_new w (.cells #[.string nm, .slice pa n pc] 24)))
  have hv0 := World.alloc_heap_new (w.alloc (.cells #[.string nm, .slice pa n pc] 24)) (.cells #[.string nm2, .slice qa m qc] 24)
  rw [show (w.alloc (.cells #[.string nm, .slice pa n pc] 24)).heap.size = w.heap.size + 1 by simp] at hv0
  have HV0 := hidd hv0
  have HB1 := hidd b2
  have HN := hidd hn
  have HM := hidd hm
  have AL : Hid (∀ W, Below w.heap.size w W → Calls Tryz.prog 15 #[] W (Yes W)) := fun W hW => alive9_any W (ht.below hW)
  have BY1 : Hid (∀ W, Below w.heap.size w W → Calls Tryz.prog 9 #[.agg #[.string nm, .slice pa n pc]] W (ToldBy (bytesU qtP nm PP) W)) := fun W hW => by
    have := Bytes_any qtP nm PP pa pc W hnm ((hl.below hW).mono hW.size) (by rw [← hn]; exact hpc) (by rw [← hn]; exact hmax) (ht.below hW).1 (ht.below hW).2 (fun h B b => wi_ok h B b)
    rw [← hn] at this
    exact this
  have BA1 : Hid (wrongU nm PP = 0 → ∀ W, Below w.heap.size w W → Calls Tryz.prog 16 #[.agg #[.string nm, .slice pa n pc]] W (ToldBr nm PP W)) := fun h0 W hW => by
    have hr := rightU_of h0
    exact refBareU_any nm PP pa n pc W hn ((hl.below hW).mono hW.size) hpc (by rw [hn]; exact hr.n500) (fun P hP => (hr.size P hP).2) (fun P hP x hx => ⟨(hr.isok hP hx).1.1, fun h3 => ⟨wrong_right ((hr.isok hP hx).2 h3), wrong_st ((hr.isok hP hx).2 h3)⟩⟩)
  have BY2 : Hid (∀ W, Below w.heap.size w W → Calls Tryz.prog 9 #[.agg #[.string nm2, .slice qa m qc]] W (ToldBy (bytesU qtP nm2 QQ) W)) := fun W hW => by
    have := Bytes_any qtP nm2 QQ qa qc W hnm2 ((hl2.below hW).mono hW.size) (by rw [← hm]; exact hqc) (by rw [← hm]; exact hmax2) (ht.below hW).1 (ht.below hW).2 (fun h B b => wi_ok h B b)
    rw [← hm] at this
    exact this
  have BA2 : Hid (wrongU nm2 QQ = 0 → ∀ W, Below w.heap.size w W → Calls Tryz.prog 16 #[.agg #[.string nm2, .slice qa m qc]] W (ToldBr nm2 QQ W)) := fun h0 W hW => by
    have hr := rightU_of h0
    exact refBareU_any nm2 QQ qa m qc W hm ((hl2.below hW).mono hW.size) hqc (by rw [hm]; exact hr.n500) (fun P hP => (hr.size P hP).2) (fun P hP x hx => ⟨(hr.isok hP hx).1.1, fun h3 => ⟨wrong_right ((hr.isok hP hx).2 h3), wrong_st ((hr.isok hP hx).2 h3)⟩⟩)
  clear hl hl2 ht hn hm hnm hnm2 b1 b2 hv0
  go_enter Tryz.func6, Tryz.ntmps6
  go_upto_region 1 with fail
  generalize (w.alloc (.cells #[.string nm, .slice pa n pc] 24)).alloc (.cells #[.string nm2, .slice qa m qc] 24) = V0 at HU0 HV0 HB1 ⊢
  obtain ⟨N, hN⟩ : ∃ N, N = w.heap.size := ⟨_, rfl⟩
  rw [← hN] at HU0 HV0 ⊢
  obtain ⟨M, hM⟩ : ∃ M, M = N + 1 := ⟨_, rfl⟩
  rw [← hM] at HV0 ⊢
  clear hN hM
  go_wp2_with fail
  refine (AL.out _ HB1.out).mono ?_
  rintro e V1 ⟨rfl, hb1⟩
  have HB2 := hidd (HB1.out.trans (hb1.mono HB1.out.size))
  have HU1 := hidd ((hb1.block _ (Array.getElem?_eq_some_iff.1 HU0.out).1).trans HU0.out)
  have HV1 := hidd ((hb1.block _ (Array.getElem?_eq_some_iff.1 HV0.out).1).trans HV0.out)
  clear hb1 HU0 HV0 HB1
  have u0 : V1.cell? ⟨N, 0, none⟩ = some (.string nm) := (cellO HU1.out).trans rfl
  have u1 : V1.cell? ⟨N, 1, none⟩ = some (.slice pa n pc) := (cellO HU1.out).trans rfl
  go_wp2_with fail
  refine (BY1.out _ HB2.out).mono ?_
  rintro e V2 ⟨xa, xc, rfl, hxc, hxm, hxb, hb2⟩
  have HBA := hidd (HB2.out.trans (hb2.mono HB2.out.size))
  have HU2 := hidd ((hb2.block _ (Array.getElem?_eq_some_iff.1 HU1.out).1).trans HU1.out)
  have HV2 := hidd ((hb2.block _ (Array.getElem?_eq_some_iff.1 HV1.out).1).trans HV1.out)
  clear hb2 HB2 HU1 HV1 u0 u1
  obtain ⟨y, hy⟩ : ∃ y, y = bytesU qtP nm PP := ⟨_, rfl⟩
  rw [← hy] at hxc hxb ⊢
  obtain ⟨ye, ab⟩ := y
  simp only at hxc hxb ⊢
  have HYA := hidd hy.symm
  clear hy
  obtain ⟨xl, hxl⟩ : ∃ m, m = ab.length := ⟨_, rfl⟩
  rw [← hxl] at hxc ⊢
  have HXL := hidd hxl
  have HXB0 := hidd hxb
  clear hxl hxb
  have u0 : V2.cell? ⟨M, 0, none⟩ = some (.string nm2) := (cellO HV2.out).trans rfl
  have u1 : V2.cell? ⟨M, 1, none⟩ = some (.slice qa m qc) := (cellO HV2.out).trans rfl
  go_wp2_with fail
  refine (BY2.out _ HBA.out).mono ?_
  rintro e V ⟨za, zc, rfl, hzc, hzm, hzb, hb3⟩
  have HB3 := hidd (HBA.out.trans (hb3.mono HBA.out.size))
  have HU := hidd ((hb3.block _ (Array.getElem?_eq_some_iff.1 HU2.out).1).trans HU2.out)
  have HV := hidd ((hb3.block _ (Array.getElem?_eq_some_iff.1 HV2.out).1).trans HV2.out)
  have HXB := hidd (HXB0.out.keep hb3)
  clear hb3 HBA HU2 HV2 u0 u1 HXB0
  obtain ⟨y, hy⟩ : ∃ y, y = bytesU qtP nm2 QQ := ⟨_, rfl⟩
  rw [← hy] at hzc hzb ⊢
  obtain ⟨ze, bb⟩ := y
  simp only at hzc hzb ⊢
  have HYB := hidd hy.symm
  clear hy
  obtain ⟨zl, hzl⟩ : ∃ m, m = bb.length := ⟨_, rfl⟩
  rw [← hzl] at hzc ⊢
  have HZL := hidd hzl
  have HZB := hidd hzb
  clear hzl hzb
  go_upto_region 5 with fail
  by_cases hy0 : ye = 0
  case neg =>
    have hq : (ye != 0) = true := by simpa using hy0
    clear hy0 HYA HYB
    go_quiet (fail)
    go_wp2_with fail
    go_ret
    exact ⟨rfl, below_drewN HB3.out _⟩
  subst hy0
  by_cases hz0 : ze = 0
  case neg =>
    have hq : (ze != 0) = true := by simpa using hz0
    clear hz0 HYA HYB
    go_quiet (fail)
    go_wp2_with fail
    go_ret
    exact ⟨rfl, below_drewN HB3.out _⟩
  subst hz0
  have UN := hidd (unlike HYA.out HYB.out)
  have wa := (turn_there HYA.out).1
  have wb := (turn_there HYB.out).1
  have HNA := hidd (bytes_some HYA.out)
  have HNB := hidd (bytes_some HYB.out)
  have BA1 := hidd (BA1.out wa)
  have BA2 := hidd (BA2.out wb)
  have hra := rightU_of wa
  have hrb := rightU_of wb
  have hn5 : n ≤ 500 := by rw [HN.out]; exact hra.n500
  have hm5 : m ≤ 500 := by rw [HM.out]; exact hrb.n500
  have HC1 : Hid (∀ p ∈ PP.map bareP, p.code.length ≤ 1000000000) := fun p hp => by
    obtain ⟨P, hP, rfl⟩ := List.mem_map.1 hp
    have := (hra.size P hP).2
    unfold bareP
    simp only [List.length_map]
    omega
  have HC2 : Hid (∀ p ∈ QQ.map bareP, p.code.length ≤ 1000000000) := fun p hp => by
    obtain ⟨P, hP, rfl⟩ := List.mem_map.1 hp
    have := (hrb.size P hP).2
    unfold bareP
    simp only [List.length_map]
    omega
  obtain ⟨qv, hqv⟩ : ∃ q, q = (decide (nm = nm2) && sameG samePr (PP.map bareP) (QQ.map bareP)) := ⟨_, rfl⟩
  have HE : Hid ((qv == qv) = true) := by unfold Hid; simp
  clear wa wb hra hrb HYA HYB
  refine wp_region_held_drew (S := fun u => Below V.heap.size V u) (by kernel_rfl) (Below.drew (Below.refl _ _)) (fun hS => ?_)
  refine wpAnyH_take (i := 0) (oi := { dst := some 21, op := Op.move (Operand.tmp 6), type := 26, pos := _, after := _, guard := none }) (v := .int .i64 0) rfl (by kernel_rfl) (by kernel_rfl) (by kernel_rfl) (fun _ _ _ h => h) (Or.inl ⟨by rfl, fun u hu => by go_simp⟩) hS ?_
  simp only [Act.put, List.setIfInBounds_toArray, List.set_cons_zero, List.set_cons_succ]
  refine wpAnyH_take (i := 1) (oi := { dst := some 22, op := Op.binOp BinOp.neq 26 (Operand.tmp 21) (Operand.const (Value.int IntKind.i64 0)) 26, type := 4, pos := _, after := _, guard := none }) (v := .bool false) rfl (by kernel_rfl) (by kernel_rfl) (by kernel_rfl) (fun _ _ _ h => h) (Or.inl ⟨by rfl, fun u hu => by go_simp⟩) hS ?_
  simp only [Act.put, List.setIfInBounds_toArray, List.set_cons_zero, List.set_cons_succ]
  refine wpAnyH_take (i := 2) (oi := { dst := some 23, op := Op.move (Operand.tmp 22), type := 4, pos := _, after := _, guard := none }) (v := .bool false) rfl (by kernel_rfl) (by kernel_rfl) (by kernel_rfl) (fun _ _ _ h => h) (Or.inl ⟨by rfl, fun u hu => by go_simp⟩) hS ?_
  simp only [Act.put, List.setIfInBounds_toArray, List.set_cons_zero, List.set_cons_succ]
  refine wpAnyH_take (i := 3) (oi := { dst := some 24, op := Op.move (Operand.tmp 8), type := 26, pos := _, after := _, guard := some (2, false) }) (v := .int .i64 0) rfl (by kernel_rfl) (by kernel_rfl) (by kernel_rfl) (fun _ _ _ h => h) (Or.inl ⟨by rfl, fun u hu => by go_simp⟩) hS ?_
  simp only [Act.put, List.setIfInBounds_toArray, List.set_cons_zero, List.set_cons_succ]
  refine wpAnyH_take (i := 4) (oi := { dst := some 25, op := Op.binOp BinOp.neq 26 (Operand.tmp 24) (Operand.const (Value.int IntKind.i64 0)) 26, type := 4, pos := _, after := _, guard := some (2, false) }) (v := .bool false) rfl (by kernel_rfl) (by kernel_rfl) (by kernel_rfl) (fun _ _ _ h => h) (Or.inl ⟨by rfl, fun u hu => by go_simp⟩) hS ?_
  simp only [Act.put, List.setIfInBounds_toArray, List.set_cons_zero, List.set_cons_succ]
  refine wpAnyH_take (i := 5) (oi := { dst := some 26, op := Op.pick (Operand.tmp 23) (Operand.const (Value.bool true)) (Operand.tmp 25), type := 4, pos := _, after := _, guard := none }) (v := .bool false) rfl (by kernel_rfl) (by kernel_rfl) (by kernel_rfl) (fun _ _ _ h => h) (Or.inl ⟨by rfl, fun u hu => by go_simp⟩) hS ?_
  simp only [Act.put, List.setIfInBounds_toArray, List.set_cons_zero, List.set_cons_succ]
  refine wpAnyH_take (i := 6) (oi := { dst := some 27, op := Op.move (Operand.tmp 26), type := 4, pos := _, after := _, guard := none }) (v := .bool false) rfl (by kernel_rfl) (by kernel_rfl) (by kernel_rfl) (fun _ _ _ h => h) (Or.inl ⟨by rfl, fun u hu => by go_simp⟩) hS ?_
  simp only [Act.put, List.setIfInBounds_toArray, List.set_cons_zero, List.set_cons_succ]
  refine wpAnyH_take (i := 7) (oi := { dst := some 28, op := Op.move (Operand.tmp 5), type := 25, pos := _, after := _, guard := some (6, false) }) (v := .slice xa xl xc) rfl (by kernel_rfl) (by kernel_rfl) (by kernel_rfl) (fun _ _ _ h => h) (Or.inl ⟨by rfl, fun u hu => by go_simp⟩) hS ?_
  simp only [Act.put, List.setIfInBounds_toArray, List.set_cons_zero, List.set_cons_succ]
  refine wpAnyH_take (i := 8) (oi := { dst := some 29, op := Op.move (Operand.tmp 7), type := 25, pos := _, after := _, guard := some (6, false) }) (v := .slice za zl zc) rfl (by kernel_rfl) (by kernel_rfl) (by kernel_rfl) (fun _ _ _ h => h) (Or.inl ⟨by rfl, fun u hu => by go_simp⟩) hS ?_
  simp only [Act.put, List.setIfInBounds_toArray, List.set_cons_zero, List.set_cons_succ]
  refine wpAnyH_take (i := 10) (oi := { dst := some 31, op := Op.load 24 (Operand.tmp 2), type := 24, pos := _, after := _, guard := some (6, false) }) (v := .agg #[.string nm, .slice pa n pc]) rfl (by kernel_rfl) (by kernel_rfl) (by kernel_rfl) (fun _ _ _ h => h) (Or.inl ⟨by rfl, fun u hu => by (have z0 : u.cell? ⟨N, 0, none⟩ = some (.string nm) := (cellO ((hu.block _ (Array.getElem?_eq_some_iff.1 HU.out).1).trans HU.out)).trans rfl; have z1 : u.cell? ⟨N, 1, none⟩ = some (.slice pa n pc) := (cellO ((hu.block _ (Array.getElem?_eq_some_iff.1 HU.out).1).trans HU.out)).trans rfl; go_simp)⟩) hS ?_
  simp only [Act.put, List.setIfInBounds_toArray, List.set_cons_zero, List.set_cons_succ]
  refine wpAnyH_take (i := 12) (oi := { dst := some 33, op := Op.load 24 (Operand.tmp 3), type := 24, pos := _, after := _, guard := some (6, false) }) (v := .agg #[.string nm2, .slice qa m qc]) rfl (by kernel_rfl) (by kernel_rfl) (by kernel_rfl) (fun _ _ _ h => h) (Or.inl ⟨by rfl, fun u hu => by (have z0 : u.cell? ⟨M, 0, none⟩ = some (.string nm2) := (cellO ((hu.block _ (Array.getElem?_eq_some_iff.1 HV.out).1).trans HV.out)).trans rfl; have z1 : u.cell? ⟨M, 1, none⟩ = some (.slice qa m qc) := (cellO ((hu.block _ (Array.getElem?_eq_some_iff.1 HV.out).1).trans HV.out)).trans rfl; go_simp)⟩) hS ?_
  simp only [Act.put, List.setIfInBounds_toArray, List.set_cons_zero, List.set_cons_succ]
  refine wpAnyH_ready (rs := [9]) (by kernel_rfl) (by simp) (AllReadyH.cons (o := { dst := some 30, op := Op.call { callee := Callee.value (Operand.func 11), args := #[Operand.tmp 28, Operand.tmp 29], argTypes := #[25, 25] }, type := 4, pos := _, after := _, guard := some (6, false) }) rfl (fun K hK => ?_) AllReadyH.nil)
  go_simp
  refine (same_dec ab bb xa za xl zl xc zc _ HXL.out HZL.out (HXB.out.keep hS) (HZB.out.keep hS) HNA.out HNB.out).mono ?_
  rintro e W1 ⟨rfl, hb1⟩
  have hS1 := hS.trans (hb1.mono hS.size)
  clear hb1
  rw [UN.out]
  show K _ W1
  refine hK.out _ _ hS1 (fun hS => ?_)
  clear hK K
  refine wpAnyH_ready (rs := [11]) (by kernel_rfl) (by simp) (AllReadyH.cons (o := { dst := some 32, op := Op.call { callee := Callee.value (Operand.func 16), args := #[Operand.tmp 31], argTypes := #[24] }, type := 24, pos := _, after := _, guard := some (6, false) }) rfl (fun K hK => ?_) AllReadyH.nil)
  go_simp
  refine (BA1.out _ (HB3.out.trans (hS.mono HB3.out.size))).mono ?_
  rintro e W2 ⟨us, ua, uc, rfl, hqs, hb1, hqe⟩
  have hS1 := hS.trans (hb1.mono hS.size)
  have HQS1 := hidd hqs
  have HQE1 := hidd hqe
  have HQL1 : Hid (us.length = n) := by have := congrArg List.length hqs; simp at this; unfold Hid; rw [this]; exact HN.out.symm
  rw [HQL1.out]
  clear hqs hqe hb1
  show K _ W2
  refine hK.out _ _ hS1 (fun hS => ?_)
  clear hK K
  refine wpAnyH_ready (rs := [13]) (by kernel_rfl) (by simp) (AllReadyH.cons (o := { dst := some 34, op := Op.call { callee := Callee.value (Operand.func 16), args := #[Operand.tmp 33], argTypes := #[24] }, type := 24, pos := _, after := _, guard := some (6, false) }) rfl (fun K hK => ?_) AllReadyH.nil)
  go_simp
  refine (BA2.out _ (HB3.out.trans (hS.mono HB3.out.size))).mono ?_
  rintro e W3 ⟨vs, va, vc, rfl, hqs, hb1, hqe⟩
  have hS23 := hidd hb1
  have hS1 := hS.trans (hb1.mono hS.size)
  have HQS2 := hidd hqs
  have HQE2 := hidd hqe
  have HQL2 : Hid (vs.length = m) := by have := congrArg List.length hqs; simp at this; unfold Hid; rw [this]; exact HM.out.symm
  rw [HQL2.out]
  clear hqs hqe hb1
  show K _ W3
  refine hK.out _ _ hS1 (fun hS => ?_)
  clear hK K
  refine wpAnyH_ready (rs := [14]) (by kernel_rfl) (by simp) (AllReadyH.cons (o := { dst := some 35, op := Op.call { callee := Callee.value (Operand.func 14), args := #[Operand.tmp 32, Operand.tmp 34], argTypes := #[24, 24] }, type := 4, pos := _, after := _, guard := some (6, false) }) rfl (fun K hK => ?_) AllReadyH.nil)
  go_simp
  have p1 := PEs.pl (B := W2.heap.size) (fun k hk => hk) HQE1.out
  rw [HQS1.out] at p1
  have p2 := PEs.pl (B := W3.heap.size) (fun k hk => hk) HQE2.out
  rw [HQS2.out] at p2
  have hW23 := hS23.out
  refine (SameUnitB_any nm nm2 (PP.map bareP) (QQ.map bareP) ua va n m uc vc W3 (by rw [List.length_map]; exact HN.out) (by rw [List.length_map]; exact HM.out) ((p1.below hW23).mono hW23.size) p2 (by omega) HC1.out HC2.out (by have := HQE1.out.1; rw [HQL1.out] at this; exact this) (by have := HQE2.out.1; rw [HQL2.out] at this; exact this)).mono ?_
  rintro e W4 ⟨rfl, hb2⟩
  have hS2 := hS.trans (hb2.mono hS.size)
  clear hb2 p1 p2
  show K _ W4
  refine hK.out _ _ hS2 (fun hS => ?_)
  clear hK K
  refine wpAnyH_take (i := 15) (oi := { dst := some 36, op := Op.binOp BinOp.eql 4 (Operand.tmp 30) (Operand.tmp 35) 4, type := 4, pos := _, after := _, guard := some (6, false) }) (v := .bool true) rfl (by kernel_rfl) (by kernel_rfl) (by kernel_rfl) (fun _ _ _ h => h) (Or.inl ⟨by rfl, fun u hu => by (go_simp; try simp [HE.out])⟩) hS ?_
  simp only [Act.put, List.setIfInBounds_toArray, List.set_cons_zero, List.set_cons_succ]
  refine wpAnyH_take (i := 16) (oi := { dst := some 37, op := Op.pick (Operand.tmp 27) (Operand.const (Value.bool true)) (Operand.tmp 36), type := 4, pos := _, after := _, guard := none }) (v := .bool true) rfl (by kernel_rfl) (by kernel_rfl) (by kernel_rfl) (fun _ _ _ h => h) (Or.inl ⟨by rfl, fun u hu => by go_simp⟩) hS ?_
  simp only [Act.put, List.setIfInBounds_toArray, List.set_cons_zero, List.set_cons_succ]
  refine wpAnyH_take (i := 17) (oi := { dst := some 4, op := Op.assign (Operand.tmp 37), type := 4, pos := _, after := _, guard := none }) (v := .bool true) rfl (by kernel_rfl) (by kernel_rfl) (by kernel_rfl) (fun _ _ _ h => h) (Or.inl ⟨by rfl, fun u hu => by go_simp⟩) hS ?_
  simp only [Act.put, List.setIfInBounds_toArray, List.set_cons_zero, List.set_cons_succ]
  refine wpAnyH_done (by kernel_rfl) ?_ _
  have HBX := hidd (HB3.out.trans (hS.mono HB3.out.size))
  clear hS
  go_wp2_with fail
  go_ret
  exact ⟨rfl, HBX.out⟩
end
end Go.Proofs.YtdnbingddbakaaaGreatDoor
