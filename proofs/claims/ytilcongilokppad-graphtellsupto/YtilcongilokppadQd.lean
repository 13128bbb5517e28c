/- The law GraphCycle, walked. -/
import Derived.Test.YtilcongilokppadQc
import Derived.Test.YtilcongilokppadNe
namespace Go.Proofs.Ytilcongilokppad
set_option linter.unusedVariables false
set_option linter.unusedSimpArgs false
open Go.RowKit Go.Maps Go.WideMaps

set_option maxRecDepth 100000 in
set_option maxHeartbeats 6400000 in
theorem GraphCycle_walk (B : Nat) (l : List Nd) (a : Option Addr) (c : Nat) (w : World) (h : Nds B w a l) (hB : B ≤ w.heap.size) (hc : cost l ≤ 1048576) :
    Calls Try.prog 5 #[.slice a l.length c] w fun e w' => e = .returned (.bool true) ∧ Below w.heap.size w w' := by
  have hl := h.1
  have HH : Hid (Nds B w a l ∧ B ≤ w.heap.size ∧ cost l ≤ 1048576) := ⟨h, hB, hc⟩
  have AL := alive_any w
  clear h hB hc
  go_enter Try.func5, Try.ntmps5
  go_wp2_with fail
  refine AL.mono ?_
  clear AL
  rintro e w1 ⟨rfl, hb1⟩
  have OR := Order_any B l a c w1 (HH.out.1.stay (old_of hb1 HH.out.2.1) (Nat.le_refl _)) (Nat.le_trans HH.out.2.1 hb1.size) HH.out.2.2
  have HB1 : Hid (Below w.heap.size w w1) := hb1
  clear hb1
  go_wp2_with fail
  refine OR.mono ?_
  clear OR
  rintro e w2 ⟨hb2, out, who, er, v, rfl, hr, ht, hz⟩
  have HB2 : Hid (Below w.heap.size w w2) := HB1.out.trans (hb2.mono HB1.out.size)
  have her : er = 0 ∨ er = 8 ∨ er = 6 ∨ er = 9 := by
    rcases ht.cases3 with ⟨q, _, _⟩ | ⟨q, _⟩
    · exact Or.inl q
    · exact Or.inr q
  have REA := fun (W : World) (hb : Below w.heap.size w W) (fr to : ByteArray) => Reaches_any B l fr to a c W (HH.out.1.stay (fun k hk => hb.block k (Nat.lt_of_lt_of_le hk HH.out.2.1)) (Nat.le_refl _)) (Nat.le_trans HH.out.2.1 hb.size) HH.out.2.2
  rcases her with rfl | rfl | rfl | rfl
  · clear hr ht hb2 REA
    go_wp2_with fail
    go_ret
    exact ⟨rfl, HB2.out⟩
  · clear hr ht hb2 REA
    go_wp2_with fail
    go_ret
    exact ⟨rfl, HB2.out⟩
  · clear hr ht hb2 REA
    go_wp2_with fail
    go_ret
    exact ⟨rfl, HB2.out⟩
  · have HT : Hid (RchB l who who ∧ ∀ nd ∈ l, ltB nd.name who = true → ¬ RchB l nd.name nd.name) := ⟨ht.ring.1, ht.ring.2.2⟩
    have HREA : Hid (∀ (W : World), Below w.heap.size w W → ∀ (fr to : ByteArray), Calls Try.prog 12 #[.slice a l.length c, .string fr, .string to] W fun e w' => Below W.heap.size W w' ∧ ∃ r : Bool, e = .returned (.bool r) ∧ (r = true ↔ RchB l fr to)) := REA
    clear hr ht hb2 REA
    go_wp2_with fail
    go_loopw [20] (fun iv wr => ∃ (j : Nat), j ≤ l.length ∧ iv = .int .i64 j ∧ Hid (Below w.heap.size w wr)) (fun iv _ => l.length - (intOf iv).toNat)
    case atStart => exact ⟨0, Nat.zero_le _, rfl, HB2.out⟩
    case round =>
      obtain ⟨j, hj, rfl, HR⟩ := hrel
      by_cases hlt : j < l.length
      · obtain ⟨b, o, nd, na, nc, hab, hbB, hnd, hc1, hc2, hst, hz1, hz2⟩ := HH.out.1.at hlt
        subst hab
        have hbw : b < w.heap.size := Nat.lt_of_lt_of_le hbB HH.out.2.1
        have k1 := (HR.out.cell (p := ⟨b, o + j * 2, none⟩) hbw).trans hc1
        have k2 := (HR.out.cell (p := ⟨b, o + j * 2 + 1, none⟩) hbw).trans hc2
        have HX : Hid (nd ∈ l) := List.mem_of_getElem? hnd
        have HB3 : Hid (Below w.heap.size w (wr.alloc (.cells #[.string nd.name, .slice na nd.needs.length nc] 32))) := HR.out.alloc HR.out.size _
        clear hnd hc1 hc2 hst
        cases hbl : ltB nd.name who with
        | false =>
          have l1 := (bytesLess_ltB nd.name who).trans hbl
          go_wp2_with fail
          exact ⟨⟨j + 1, by omega, by go_num, HB3.out⟩, by simp [intOf]; omega⟩
        | true =>
          have l1 := (bytesLess_ltB nd.name who).trans hbl
          have HNO : Hid (¬ RchB l nd.name nd.name) := HT.out.2 nd HX.out hbl
          have RE := HREA.out _ HB3.out nd.name nd.name
          clear hbl
          go_wp2_with fail
          refine RE.mono ?_
          clear RE
          rintro e w4 ⟨hb4, r, rfl, hrr⟩
          have hrf : r = false := by
            cases r with
            | false => rfl
            | true => exact absurd (hrr.1 rfl) HNO.out
          subst hrf
          have HB4 : Hid (Below w.heap.size w w4) := HB3.out.trans (hb4.mono HB3.out.size)
          clear hb4 hrr
          go_wp2_with fail
          exact ⟨⟨j + 1, by omega, by go_num, HB4.out⟩, by simp [intOf]; omega⟩
      · have RE := HREA.out _ HR.out who who
        go_wp2_with fail
        refine RE.mono ?_
        clear RE
        rintro e w4 ⟨hb4, r, rfl, hrr⟩
        have hrt : r = true := hrr.2 HT.out.1
        subst hrt
        have HB4 : Hid (Below w.heap.size w w4) := HR.out.trans (hb4.mono HR.out.size)
        clear hb4 hrr
        go_wp2_with fail
        go_ret
        exact ⟨rfl, HB4.out⟩
end Go.Proofs.Ytilcongilokppad
