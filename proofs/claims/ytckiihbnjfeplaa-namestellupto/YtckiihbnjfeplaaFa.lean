/- The document's own answer: Form, place. -/
import Derived.Test.YtckiihbnjfeplaaWb
import Derived.Test.YtckiihbnjfeplaaTc
namespace Go.Proofs.Ytckiihbnjfeplaa
set_option linter.unusedVariables false
set_option linter.unusedSimpArgs false
open Go.RowKit

set_option maxRecDepth 100000 in
set_option maxHeartbeats 800000 in
theorem Form_over (vs : List Value) (w : World) (hv : ∃ l a0 a1 a2 c0 c1 c2 n, vs = setV l a0 a1 a2 c0 c1 c2 n) :
    Calls Try.prog 18 #[aggOf vs, .int .i64 13] w fun e w' => e = .returned (.int .i64 4) ∧ Below w.heap.size w w' := by
  obtain ⟨l, a0, a1, a2, c0, c1, c2, n, rfl⟩ := hv
  show Calls Try.prog 18 #[setA l a0 a1 a2 c0 c1 c2 n, .int .i64 13] w _
  unfold setA
  go_enter Try.func18, Try.ntmps18
  go_wp2_with fail
  go_ret
  exact ⟨rfl, (Below.refl _ _).alloc (Nat.le_refl _) _⟩

set_option maxRecDepth 100000 in
set_option maxHeartbeats 800000 in
theorem Form_lib (l : Ly) (a0 a1 a2 : Option Addr) (c0 c1 c2 n : Nat) (dp : Int) (hd0 : 1 ≤ dp) (hd : dp ≤ 12) (hk : l.kind = 1) (w : World) :
    Calls Try.prog 18 #[setA l a0 a1 a2 c0 c1 c2 n, .int .i64 dp] w fun e w' => e = .returned (.int .i64 0) ∧ Below w.heap.size w w' := by
  unfold setA
  rw [hk]
  have g : ¬ 12 < dp := by omega
  go_enter Try.func18, Try.ntmps18
  go_wp2_with fail
  go_ret
  exact ⟨rfl, (Below.refl _ _).alloc (Nat.le_refl _) _⟩

set_option maxRecDepth 100000 in
set_option maxHeartbeats 800000 in
theorem Form_kind (l : Ly) (a0 a1 a2 : Option Addr) (c0 c1 c2 n : Nat) (dp : Int) (hd0 : 1 ≤ dp) (hd : dp ≤ 12) (hk : l.kind ≠ 1) (hk' : l.kind < 2 ∨ 5 < l.kind) (w : World) :
    Calls Try.prog 18 #[setA l a0 a1 a2 c0 c1 c2 n, .int .i64 dp] w fun e w' => e = .returned (.int .i64 1) ∧ Below w.heap.size w w' := by
  unfold setA
  have g : ¬ 12 < dp := by omega
  rcases hk' with q | q
  · have q1 : l.kind < 1 := by omega
    generalize l.kind = kd at *
    go_enter Try.func18, Try.ntmps18
    go_wp2_with fail
    go_ret
    exact ⟨rfl, (Below.refl _ _).alloc (Nat.le_refl _) _⟩
  · have q1 : ¬ l.kind < 1 := by omega
    generalize l.kind = kd at *
    go_enter Try.func18, Try.ntmps18
    go_wp2_with fail
    go_ret
    exact ⟨rfl, (Below.refl _ _).alloc (Nat.le_refl _) _⟩

set_option maxRecDepth 100000 in
set_option maxHeartbeats 3200000 in
theorem Form_alone (kd : Int) (na : ByteArray) (nn nas : List ByteArray) (pr : ByteArray) (B : Nat) (a0 a1 a2 : Option Addr) (c0 c1 c2 n : Nat) (dp : Int) (hd0 : 1 ≤ dp) (hd : dp ≤ 12) (hk : 2 ≤ kd ∧ kd ≤ 5) (w : World)
    (h : LiesL B w ⟨kd, na, nn, nas, pr⟩ a0 a1) (hn : n ≤ 9223372036854775807) (hB : B ≤ w.heap.size) (r : Int) (hr : aloneS ⟨kd, na, nn, nas, pr⟩ n = r) (h0 : r ≠ 0) :
    Calls Try.prog 18 #[.agg #[.int .i64 kd, .string na, .slice a0 nn.length c0, .slice a1 nas.length c1, .string pr, .slice a2 n c2], .int .i64 dp] w fun e w' => e = .returned (.int .i64 r) ∧ Below w.heap.size w w' := by
  have g : ¬ 12 < dp := by omega
  have hnl := h.names.1
  have hal := h.asn.1
  have HL : Hid (LiesL B w ⟨kd, na, nn, nas, pr⟩ a0 a1) := h
  have HR : Hid (aloneS ⟨kd, na, nn, nas, pr⟩ n = r ∧ r ≠ 0) := ⟨hr, h0⟩
  have NP := fun (w' : World) => refNamed_any pr h.pre w'
  have HNP : Hid (∀ w', Calls Try.prog 19 #[.string pr] w' fun e w'' => e = .returned (.bool (namedB pr)) ∧ Below w'.heap.size w' w'') := NP
  clear h hr h0 NP
  by_cases hn1 : n = 1
  · subst hn1
    obtain ⟨k1, k2⟩ := hk
    have hcase : kd = 2 ∨ kd = 3 ∨ kd = 4 ∨ kd = 5 := by omega
    clear k1 k2
    rcases hcase with rfl | rfl | rfl | rfl
    · exact absurd HR.out.1.symm (by simpa [aloneS] using HR.out.2)
    · exact absurd HR.out.1.symm (by simpa [aloneS] using HR.out.2)
    · have hnp : namedB pr = false ∧ r = 7 := by
        have h1 := HR.out.1
        have h2 := HR.out.2
        simp only [aloneS] at h1
        cases hq : namedB pr with
        | true => simp [hq] at h1; exact absurd h1.symm h2
        | false => simp [hq] at h1; exact ⟨rfl, h1.symm⟩
      obtain ⟨hnp, rfl⟩ := hnp
      rw [hnp] at HNP
      go_enter Try.func18, Try.ntmps18
      go_wp2_with fail
      refine (HNP.out _).mono ?_
      rintro e w3 ⟨rfl, hb3⟩
      have HB3 : Hid (Below w.heap.size w w3) := ((Below.refl _ _).alloc (Nat.le_refl _) _).trans (hb3.mono (by simp))
      clear hb3
      go_wp2_with fail
      go_ret
      exact ⟨rfl, HB3.out⟩
    · by_cases hle : nn.length = nas.length
      · have hnp : nas.all namedB = false ∧ r = 7 := by
          have h1 := HR.out.1
          have h2 := HR.out.2
          simp only [aloneS] at h1
          cases hq : nas.all namedB with
          | true => simp [hq, hle] at h1; exact absurd h1.symm h2
          | false => simp [hq, hle] at h1; exact ⟨rfl, h1.symm⟩
        have HNA : Hid (nas.all namedB = false) := hnp.1
        obtain rfl := hnp.2
        clear hnp
        rw [hle]
        clear hle
        go_enter Try.func18, Try.ntmps18
        go_wp2_with fail
        go_loopw [53] (fun iv wr => ∃ (j : Nat), j ≤ nas.length ∧ iv = .int .i64 j ∧ Hid ((nas.take j).all namedB = true) ∧ Hid (Below w.heap.size w wr ∧ wr.heap[w.heap.size]? = some (.cells #[.int .i64 5, .string na, .slice a0 nas.length c0, .slice a1 nas.length c1, .string pr, .slice a2 1 c2] 25 (0, 0)))) (fun iv _ => nas.length - (intOf iv).toNat)
        case atStart => exact ⟨0, Nat.zero_le _, rfl, (rfl : (nas.take 0).all namedB = true), (Below.refl _ _).alloc (Nat.le_refl _) _, heap_alloc_new w _⟩
        case round =>
          obtain ⟨j, hj, rfl, HA, HR2⟩ := hrel
          by_cases hlt : j < nas.length
          · obtain ⟨bs, os, s, rfl, hbs, hs, hcs, hsz⟩ := HL.out.asn.at hlt
            have cc1 := (HR2.out.1.cell (p := ⟨bs, os + j, none⟩) (Nat.lt_of_lt_of_le hbs hB)).trans hcs
            have HX : Hid (nas[j]? = some s) := hs
            have NC : Hid (Calls Try.prog 19 #[.string s] wr fun e w' => e = .returned (.bool (namedB s)) ∧ Below wr.heap.size wr w') := refNamed_any s hsz wr
            clear hs hcs
            go_wp2_with fail
            refine NC.out.mono ?_
            rintro e w3 ⟨rfl, hb3⟩
            have HR3 : Hid (Below w.heap.size w w3 ∧ w3.heap[w.heap.size]? = some (.cells #[.int .i64 5, .string na, .slice a0 nas.length c0, .slice (some ⟨bs, os, none⟩) nas.length c1, .string pr, .slice a2 1 c2] 25 (0, 0))) := ⟨HR2.out.1.trans (hb3.mono HR2.out.1.size), (hb3.block _ (Array.getElem?_eq_some_iff.1 HR2.out.2).1).trans HR2.out.2⟩
            obtain ⟨d, HD⟩ : ∃ d, Hid (namedB s = d) := ⟨namedB s, (rfl : namedB s = namedB s)⟩
            rw [HD.out]
            clear hb3 cc1
            cases d with
            | false =>
              go_wp2_with fail
              go_ret
              exact ⟨rfl, HR3.out.1⟩
            | true =>
              go_wp2_with fail
              exact ⟨⟨j + 1, by omega, by go_num, take_all_succ HX.out HA.out HD.out, HR3.out⟩, by simp [intOf]; omega⟩
          · obtain rfl : j = nas.length := by omega
            have HALL : Hid (nas.all namedB = true) := by
              have := HA.out
              rwa [List.take_length] at this
            have := HNA.out
            rw [HALL.out] at this
            cases this
      · have hr5 : r = 5 := by
          have := HR.out.1
          unfold aloneS at this
          rw [if_pos (Or.inr ⟨rfl, fun e => hle e.symm⟩)] at this
          exact this.symm
        subst hr5
        go_enter Try.func18, Try.ntmps18
        go_wp2_with fail
        go_ret
        exact ⟨rfl, (Below.refl _ _).alloc (Nat.le_refl _) _⟩
  · have hr5 : r = 5 := by
      have := HR.out.1
      unfold aloneS at this
      rw [if_pos (Or.inl hn1)] at this
      exact this.symm
    subst hr5
    obtain ⟨k1, k2⟩ := hk
    have hcase : kd = 2 ∨ kd = 3 ∨ kd = 4 ∨ kd = 5 := by omega
    clear k1 k2
    rcases hcase with rfl | rfl | rfl | rfl
    all_goals
      go_enter Try.func18, Try.ntmps18
      go_wp2_with fail
      go_ret
      exact ⟨rfl, (Below.refl _ _).alloc (Nat.le_refl _) _⟩

set_option maxRecDepth 100000 in
set_option maxHeartbeats 3200000 in
theorem Form_kid (kd : Int) (na : ByteArray) (nn nas : List ByteArray) (pr : ByteArray) (B : Nat) (a0 a1 : Option Addr) (b o c0 c1 c2 : Nat) (dp : Int) (hd0 : 1 ≤ dp) (hd : dp ≤ 12) (hk : 2 ≤ kd ∧ kd ≤ 5) (w : World)
    (h : LiesL B w ⟨kd, na, nn, nas, pr⟩ a0 a1) (hB : B ≤ w.heap.size) (hb : b < B) (hr : aloneS ⟨kd, na, nn, nas, pr⟩ 1 = 0) (r : Int)
    (l : Ly) (e0 e1 e2 : Option Addr) (f0 f1 f2 m : Nat) (hc : ∀ (i : Nat) (v : Value), (setV l e0 e1 e2 f0 f1 f2 m)[i]? = some v → w.cell? ⟨b, o + i, none⟩ = some v)
    (hcall : ∀ w', Below w.heap.size w w' → Calls Try.prog 18 #[setA l e0 e1 e2 f0 f1 f2 m, .int .i64 (dp + 1)] w' fun e w'' => e = .returned (.int .i64 r) ∧ Below w'.heap.size w' w'') :
    Calls Try.prog 18 #[.agg #[.int .i64 kd, .string na, .slice a0 nn.length c0, .slice a1 nas.length c1, .string pr, .slice (some ⟨b, o, none⟩) 1 c2], .int .i64 dp] w fun e w' => e = .returned (.int .i64 r) ∧ Below w.heap.size w w' := by
  have g : ¬ 12 < dp := by omega
  have hnl := h.names.1
  have hal := h.asn.1
  have HL : Hid (LiesL B w ⟨kd, na, nn, nas, pr⟩ a0 a1) := h
  have HR : Hid (aloneS ⟨kd, na, nn, nas, pr⟩ 1 = 0) := hr
  have HNP : Hid (∀ w', Calls Try.prog 19 #[.string pr] w' fun e w'' => e = .returned (.bool (namedB pr)) ∧ Below w'.heap.size w' w'') := fun w' => refNamed_any pr h.pre w'
  have HC : Hid (∀ w', Below w.heap.size w w' → Calls Try.prog 18 #[setA l e0 e1 e2 f0 f1 f2 m, .int .i64 (dp + 1)] w' fun e w'' => e = .returned (.int .i64 r) ∧ Below w'.heap.size w' w'') := hcall
  have k0 := hc 0 _ rfl
  have k1 := hc 1 _ rfl
  have k2 := hc 2 _ rfl
  have k3 := hc 3 _ rfl
  have k4 := hc 4 _ rfl
  have k5 := hc 5 _ rfl
  have HK : Hid (∀ w', Below w.heap.size w w' → w'.cell? ⟨b, o, none⟩ = some (.int .i64 l.kind) ∧ w'.cell? ⟨b, o + 1, none⟩ = some (.string l.name) ∧ w'.cell? ⟨b, o + 2, none⟩ = some (.slice e0 l.names.length f0) ∧ w'.cell? ⟨b, o + 3, none⟩ = some (.slice e1 l.asn.length f1) ∧ w'.cell? ⟨b, o + 4, none⟩ = some (.string l.pre) ∧ w'.cell? ⟨b, o + 5, none⟩ = some (.slice e2 m f2)) := fun w' hb' => by
    have e : ∀ q, w'.cell? ⟨b, q, none⟩ = w.cell? ⟨b, q, none⟩ := fun q => hb'.cell (p := ⟨b, q, none⟩) (Nat.lt_of_lt_of_le hb hB)
    exact ⟨(e _).trans k0, (e _).trans k1, (e _).trans k2, (e _).trans k3, (e _).trans k4, (e _).trans k5⟩
  clear h hr hc hcall k0 k1 k2 k3 k4 k5
  obtain ⟨q1, q2⟩ := hk
  have hcase : kd = 2 ∨ kd = 3 ∨ kd = 4 ∨ kd = 5 := by omega
  clear q1 q2
  rcases hcase with rfl | rfl | rfl | rfl
  · have HBW : Hid (Below w.heap.size w (w.alloc (.cells #[.int .i64 2, .string na, .slice a0 nn.length c0, .slice a1 nas.length c1, .string pr, .slice (some ⟨b, o, none⟩) 1 c2] 25))) := (Below.refl _ _).alloc (Nat.le_refl _) _
    obtain ⟨k0, k1, k2, k3, k4, k5⟩ := HK.out _ HBW.out
    go_enter Try.func18, Try.ntmps18
    go_wp2_with fail
    refine (HC.out _ HBW.out).mono ?_
    rintro e w9 ⟨rfl, hb9⟩
    have HB9 : Hid (Below w.heap.size w w9) := HBW.out.trans (hb9.mono HBW.out.size)
    clear hb9 k0 k1 k2 k3 k4 k5
    go_wp2_with fail
    go_ret
    exact ⟨rfl, HB9.out⟩
  · have HBW : Hid (Below w.heap.size w (w.alloc (.cells #[.int .i64 3, .string na, .slice a0 nn.length c0, .slice a1 nas.length c1, .string pr, .slice (some ⟨b, o, none⟩) 1 c2] 25))) := (Below.refl _ _).alloc (Nat.le_refl _) _
    obtain ⟨k0, k1, k2, k3, k4, k5⟩ := HK.out _ HBW.out
    go_enter Try.func18, Try.ntmps18
    go_wp2_with fail
    refine (HC.out _ HBW.out).mono ?_
    rintro e w9 ⟨rfl, hb9⟩
    have HB9 : Hid (Below w.heap.size w w9) := HBW.out.trans (hb9.mono HBW.out.size)
    clear hb9 k0 k1 k2 k3 k4 k5
    go_wp2_with fail
    go_ret
    exact ⟨rfl, HB9.out⟩
  · have hnp : namedB pr = true := by
      have h1 := HR.out
      simp only [aloneS] at h1
      cases hq : namedB pr with
      | true => rfl
      | false => simp [hq] at h1
    rw [hnp] at HNP
    go_enter Try.func18, Try.ntmps18
    go_wp2_with fail
    refine (HNP.out _).mono ?_
    rintro e w3 ⟨rfl, hb3⟩
    have HBW : Hid (Below w.heap.size w w3) := ((Below.refl _ _).alloc (Nat.le_refl _) _).trans (hb3.mono (by simp))
    have HBX : Hid (w3.heap[w.heap.size]? = some (.cells #[.int .i64 4, .string na, .slice a0 nn.length c0, .slice a1 nas.length c1, .string pr, .slice (some ⟨b, o, none⟩) 1 c2] 25 (0, 0))) := (hb3.block _ (by simp)).trans (heap_alloc_new w _)
    have c0' : w3.cell? ⟨w.heap.size, 0, none⟩ = some (.int .i64 4) := by simp only [World.cell?, HBX.out]; rfl
    clear hb3
    obtain ⟨k0, k1, k2, k3, k4, k5⟩ := HK.out w3 HBW.out
    have c5 : (w3).cell? ⟨w.heap.size, 5, none⟩ = some (.slice (some ⟨b, o, none⟩) 1 c2) := by simp only [World.cell?, HBX.out]; rfl
    go_wp2_with fail
    refine (HC.out _ HBW.out).mono ?_
    rintro e w9 ⟨rfl, hb9⟩
    have HB9 : Hid (Below w.heap.size w w9) := HBW.out.trans (hb9.mono HBW.out.size)
    clear hb9 k0 k1 k2 k3 k4 k5 c5
    go_wp2_with fail
    go_ret
    exact ⟨rfl, HB9.out⟩
  · have hle : nn.length = nas.length := by
      have h1 := HR.out
      unfold aloneS at h1
      refine Classical.byContradiction fun c => ?_
      rw [if_pos (Or.inr ⟨rfl, fun e => c e.symm⟩)] at h1
      cases h1
    rw [hle]
    clear hle
    go_enter Try.func18, Try.ntmps18
    go_wp2_with fail
    go_loopw [53] (fun iv wr => ∃ (j : Nat), j ≤ nas.length ∧ iv = .int .i64 j ∧ Hid ((nas.take j).all namedB = true) ∧ Hid (Below w.heap.size w wr ∧ wr.heap[w.heap.size]? = some (.cells #[.int .i64 5, .string na, .slice a0 nas.length c0, .slice a1 nas.length c1, .string pr, .slice (some ⟨b, o, none⟩) 1 c2] 25 (0, 0)))) (fun iv _ => nas.length - (intOf iv).toNat)
    case atStart => exact ⟨0, Nat.zero_le _, rfl, (rfl : (nas.take 0).all namedB = true), (Below.refl _ _).alloc (Nat.le_refl _) _, heap_alloc_new w _⟩
    case round =>
      obtain ⟨j, hj, rfl, HA, HR2⟩ := hrel
      by_cases hlt : j < nas.length
      · obtain ⟨bs, os, s, rfl, hbs, hs, hcs, hsz⟩ := HL.out.asn.at hlt
        have cc1 := (HR2.out.1.cell (p := ⟨bs, os + j, none⟩) (Nat.lt_of_lt_of_le hbs hB)).trans hcs
        have HX : Hid (nas[j]? = some s) := hs
        have NC : Hid (Calls Try.prog 19 #[.string s] wr fun e w' => e = .returned (.bool (namedB s)) ∧ Below wr.heap.size wr w') := refNamed_any s hsz wr
        clear hs hcs
        go_wp2_with fail
        refine NC.out.mono ?_
        rintro e w3 ⟨rfl, hb3⟩
        have HR3 : Hid (Below w.heap.size w w3 ∧ w3.heap[w.heap.size]? = some (.cells #[.int .i64 5, .string na, .slice a0 nas.length c0, .slice (some ⟨bs, os, none⟩) nas.length c1, .string pr, .slice (some ⟨b, o, none⟩) 1 c2] 25 (0, 0))) := ⟨HR2.out.1.trans (hb3.mono HR2.out.1.size), (hb3.block _ (Array.getElem?_eq_some_iff.1 HR2.out.2).1).trans HR2.out.2⟩
        obtain ⟨d, HD⟩ : ∃ d, Hid (namedB s = d) := ⟨namedB s, (rfl : namedB s = namedB s)⟩
        rw [HD.out]
        clear hb3 cc1
        cases d with
        | false =>
          have h1 := HR.out
          simp only [aloneS] at h1
          have h2 := take_all_stop HX.out HD.out
          rw [h2] at h1
          exfalso
          revert h1
          split <;> simp
        | true =>
          go_wp2_with fail
          exact ⟨⟨j + 1, by omega, by go_num, take_all_succ HX.out HA.out HD.out, HR3.out⟩, by simp [intOf]; omega⟩
      · obtain rfl : j = nas.length := by omega
        have HALL : Hid (nas.all namedB = true) := by
          have := HA.out
          rwa [List.take_length] at this
        have HBW : Hid (Below w.heap.size w wr) := HR2.out.1
        have HBX : Hid (wr.heap[w.heap.size]? = some (.cells #[.int .i64 5, .string na, .slice a0 nas.length c0, .slice a1 nas.length c1, .string pr, .slice (some ⟨b, o, none⟩) 1 c2] 25 (0, 0))) := HR2.out.2
        obtain ⟨k0, k1, k2, k3, k4, k5⟩ := HK.out wr HBW.out
        have c5 : (wr).cell? ⟨w.heap.size, 5, none⟩ = some (.slice (some ⟨b, o, none⟩) 1 c2) := by simp only [World.cell?, HBX.out]; rfl
        go_wp2_with fail
        refine (HC.out _ HBW.out).mono ?_
        rintro e w9 ⟨rfl, hb9⟩
        have HB9 : Hid (Below w.heap.size w w9) := HBW.out.trans (hb9.mono HBW.out.size)
        clear hb9 k0 k1 k2 k3 k4 k5 c5
        go_wp2_with fail
        go_ret
        exact ⟨rfl, HB9.out⟩

theorem Form_any (B : Nat) : ∀ (f : Nat) (s : St) (vs : List Value) (w : World), f ≤ 12 → LiesS B w s vs → B ≤ w.heap.size →
    Calls Try.prog 18 #[aggOf vs, .int .i64 (13 - (f : Int))] w fun e w' => e = .returned (.int .i64 (form f s)) ∧ Below w.heap.size w w'
  | 0, s, vs, w, _, h, hB => by
    obtain ⟨a0, a1, a2, c0, c1, c2, rfl, hL, hn⟩ := h.cells
    exact Form_over _ w ⟨_, a0, a1, a2, c0, c1, c2, _, rfl⟩
  | f + 1, s, vs, w, hf, h, hB => by
    obtain ⟨a0, a1, a2, c0, c1, c2, hvs, hL, hn⟩ := h.cells
    by_cases h1 : s.ly.kind = 1
    · rw [form_lib h1, hvs]
      exact Form_lib s.ly a0 a1 a2 c0 c1 c2 s.nk _ (by omega) (by omega) h1 w
    · by_cases h2 : s.ly.kind < 2 ∨ 5 < s.ly.kind
      · rw [form_kind h1 h2, hvs]
        exact Form_kind s.ly a0 a1 a2 c0 c1 c2 s.nk _ (by omega) (by omega) h1 h2 w
      · by_cases h3 : aloneS s.ly s.nk = 0
        · cases s with
          | last l => exact absurd h3 alone_last
          | more l n k =>
            obtain ⟨a0, a1, b, o, c0, c1, c2, ws, rfl, hL, hn, hb, hk, hc⟩ := h
            obtain ⟨e0, e1, e2, f0, f1, f2, rfl, _, _⟩ := hk.cells
            simp only [St.ly, St.nk] at *
            have hn0 : n = 0 := by
              refine Classical.byContradiction fun c => ?_
              unfold aloneS at h3
              rw [if_pos (Or.inl (by omega))] at h3
              cases h3
            subst hn0
            rw [form_kid (by omega) h3]
            refine Form_kid l.kind l.name l.names l.asn l.pre B a0 a1 b o c0 c1 c2 _ (by omega) (by omega) (by omega) w hL hB hb h3 _ k.ly e0 e1 e2 f0 f1 f2 k.nk hc ?_
            intro w' hb'
            have := Form_any B f k _ w' (by omega) (hk.old hB hb') (Nat.le_trans hB hb'.size)
            rw [show (13 - ((f + 1 : Nat) : Int) + 1) = 13 - (f : Int) by omega]
            exact this
        · rw [form_alone (by omega) h3, hvs]
          exact Form_alone s.ly.kind s.ly.name s.ly.names s.ly.asn s.ly.pre B a0 a1 a2 c0 c1 c2 s.nk _ (by omega) (by omega) (by omega) w hL hn hB _ rfl h3
end Go.Proofs.Ytckiihbnjfeplaa
