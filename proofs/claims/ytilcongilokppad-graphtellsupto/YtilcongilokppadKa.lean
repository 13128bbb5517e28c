/- Package graph: what gatherer makes, and what it gathers. -/
import Derived.Test.YtilcongilokppadJc
import Derived.Test.YtilcongilokppadGd
namespace Go.Proofs.Ytilcongilokppad
set_option linter.unusedVariables false
set_option linter.unusedSimpArgs false
open Go.RowKit

/-- What a gatherer keeps: what was met, and the ways. -/
structure GM (mb mr wb n : Nat) (ms : List Bool) (ua : Option Addr) (uc : Nat) (w : World) : Prop where
  mbox : w.heap[mb]? = some (.cells #[.slice (some ⟨mr, 0, none⟩) n n] 79 (0, 0))
  mrow : w.heap[mr]? = some (.cells (ms.map Value.bool).toArray 4 (0, 0))
  mlen : ms.length = n
  wbox : w.heap[wb]? = some (.cells #[.slice ua n uc] 38 (0, 0))

section
variable {mb mr wb n : Nat} {ms : List Bool} {ua : Option Addr} {uc : Nat} {w w' : World}
theorem GM.small (H : GM mb mr wb n ms ua uc w) : mb < w.heap.size ∧ mr < w.heap.size ∧ wb < w.heap.size := ⟨(Array.getElem?_eq_some_iff.1 H.mbox).1, (Array.getElem?_eq_some_iff.1 H.mrow).1, (Array.getElem?_eq_some_iff.1 H.wbox).1⟩
theorem GM.ne (H : GM mb mr wb n ms ua uc w) : mb ≠ mr ∧ wb ≠ mr := by
  refine ⟨fun e => ?_, fun e => ?_⟩
  · have := H.mbox
    rw [e, H.mrow] at this
    simp at this
  · have := H.wbox
    rw [e, H.mrow] at this
    simp at this
theorem GM.kept (H : GM mb mr wb n ms ua uc w) (h : ∀ k, k < w.heap.size → (k = mb ∨ k = mr ∨ k = wb) → w'.heap[k]? = w.heap[k]?) : GM mb mr wb n ms ua uc w' :=
  ⟨(h mb H.small.1 (Or.inl rfl)).trans H.mbox, (h mr H.small.2.1 (Or.inr (Or.inl rfl))).trans H.mrow, H.mlen, (h wb H.small.2.2 (Or.inr (Or.inr rfl))).trans H.wbox⟩
theorem GM.start (H : GM mb mr wb n ms ua uc w) : ES (w.heap.size + 1) mb mr w.heap.size n ms (.slice none 0 0) [] (w.alloc (.cells #[.slice none 0 0] 43)) := by
  obtain ⟨h1, h2, h3⟩ := H.small
  exact ⟨(Below.heap_alloc _ _ _ h1).trans H.mbox, (Below.heap_alloc _ _ _ h2).trans H.mrow, H.mlen, heap_alloc_new w _, RowI.nil _ _, by omega⟩
end

/-- What gathering has come to. -/
structure GS (w : World) (mb mr n : Nat) (ms : List Bool) (v : Value) (out : List Nat) (wr : World) : Prop where
  es : ES (w.heap.size + 1) mb mr w.heap.size n ms v out wr
  tc : Tc (fun k => k = mr) w wr

section
variable {w wr w' : World} {mb mr n : Nat} {ms ms' : List Bool} {v v' : Value} {out out' : List Nat}
theorem GS.size (H : GS w mb mr n ms v out wr) : w.heap.size + 1 ≤ wr.heap.size := H.es.small.2.2
theorem GS.enter (H : GS w mb mr n ms v out wr) (he : ES (w.heap.size + 1) mb mr w.heap.size n ms' v' out' w') (ht : Tc (ET mr w.heap.size v) wr w') : GS w mb mr n ms' v' out' w' := by
  refine ⟨he, H.tc.trans (fun k hk hT => ?_) ht⟩
  rcases hT with q | q | q
  · exact q
  · omega
  · have := (H.es.row.lt q).1
    omega
theorem GS.below (H : GS w mb mr n ms v out wr) (hb : Below wr.heap.size wr w') : GS w mb mr n ms v out w' := ⟨H.es.below hb, H.tc.trans (fun k _ h => h) (Tc.of_below hb)⟩
end

section
variable {n : Nat} {N U : Nat → List Nat} {ms0 ms ms' : List Bool} {fr j t : Nat} {out out' : List Nat} {v v' : Value}
theorem gat_begin (hl : ms0.length = n) (hf : fr < n) (he : Entered ms0 [] v fr ms' out' v') : Gat n N U (metF ms0) fr out' 0 0 (metF ms') ∧ metF ms' fr = true := by
  rcases he with ⟨h1, rfl, rfl, rfl⟩ | ⟨h1, rfl, rfl⟩
  · exact ⟨Gat.old h1, h1⟩
  · rw [metF_set (by omega)]
    exact ⟨Gat.new' hf h1, by simp⟩
theorem gat_on (h : Gat n N U (metF ms0) fr out j t (metF ms)) (hl : ms.length = n) (w : Web n N U) {a k : Nat} (ha : out[j]? = some a) (hk : (U a)[t]? = some k) (he : Entered ms out v k ms' out' v') :
    Gat n N U (metF ms0) fr out' j (t + 1) (metF ms') ∧ (metF ms fr = true → metF ms' fr = true) ∧ out'[j]? = some a := by
  rcases he with ⟨h1, rfl, rfl, rfl⟩ | ⟨h1, rfl, rfl⟩
  · exact ⟨h.known ha hk h1, fun h => h, ha⟩
  · have hkn := h.met_lt w ha hk
    rw [metF_set (by omega)]
    refine ⟨h.enter w ha hk h1, fun h => by simp [h], ?_⟩
    rw [List.getElem?_append_left (List.getElem?_eq_some_iff.1 ha).1]
    exact ha
theorem Gat.small (h : Gat n N U (metF ms0) fr out j t (metF ms)) : out.length ≤ n := by
  have := nodup_len out (List.range n) h.nd fun x hx => List.mem_range.2 (h.lt x hx)
  simpa using this
end

set_option maxRecDepth 100000 in
set_option maxHeartbeats 6400000 in
theorem gather_any (B mb mr wb n i : Nat) (ms : List Bool) (ua : Option Addr) (uc : Nat) (Nn Uu : List (List Nat)) (w : World) (H : GM mb mr wb n ms ua uc w) (two : Two n Nn Uu) (hU : Mat B w ua Uu) (hB : B ≤ w.heap.size) (hBm : B ≤ mr) (hi : i < n) (hn : n ≤ 1048576) :
    Calls Try.prog 36 #[.int .i64 i, .pointer (some ⟨mb, 0, none⟩), .pointer (some ⟨wb, 0, none⟩)] w fun e w' => Tc (fun k => k = mr) w w' ∧ ∃ R ms' v, e = .returned v ∧ RowI w.heap.size v R w' ∧ GM mb mr wb n ms' ua uc w' ∧ Ring n (row Nn) (row Uu) (metF ms) i R (metF ms') := by
  have HM : Hid (GM mb mr wb n ms ua uc w ∧ Two n Nn Uu ∧ Mat B w ua Uu ∧ B ≤ w.heap.size ∧ B ≤ mr) := ⟨H, two, hU, hB, hBm⟩
  have lu := two.lu
  have H0 : Hid (GS w mb mr n ms (.slice none 0 0) [] (w.alloc (.cells #[.slice none 0 0] 43))) := ⟨H.start, Tc.of_below ((Below.refl _ _).alloc (Nat.le_refl _) _)⟩
  have EN : Hid (Calls Try.prog 37 #[.int .i64 i, .pointer (some ⟨mb, 0, none⟩), .pointer (some ⟨w.heap.size, 0, none⟩)] (w.alloc (.cells #[.slice none 0 0] 43)) fun e w' => e = .returned (.tuple #[]) ∧ ∃ ms' xs' v', Entered ms [] (.slice none 0 0) i ms' xs' v' ∧ ES (w.heap.size + 1) mb mr w.heap.size n ms' v' xs' w' ∧ Tc (ET mr w.heap.size (.slice none 0 0)) (w.alloc (.cells #[.slice none 0 0] 43)) w' ∧ Lies (w.alloc (.cells #[.slice none 0 0] 43)) (.slice none 0 0) v') :=
    enterG_any _ _ _ _ n i ms _ [] _ H0.out.es (by simp) hi hn (by simp)
  clear H two hU hB hBm
  go_enter Try.func36, Try.ntmps36
  go_wp2_with fail
  refine EN.out.mono ?_
  rintro e w1 ⟨rfl, ms1, out1, v1, hen, hes, htc, hly⟩
  have H1 : Hid (GS w mb mr n ms1 v1 out1 w1 ∧ Gat n (row Nn) (row Uu) (metF ms) i out1 0 0 (metF ms1) ∧ metF ms1 i = true) := ⟨H0.out.enter hes htc, gat_begin HM.out.1.mlen hi hen⟩
  clear hen hes htc hly EN H0
  go_wp2_with fail
  go_loopg [7] n (fun g jv wr => ∃ (j : Nat) (out : List Nat) (ms' : List Bool) (v : Value), j ≤ out.length ∧ g = n - j ∧ jv = .int .i64 j ∧ Hid (GS w mb mr n ms' v out wr ∧ Gat n (row Nn) (row Uu) (metF ms) i out j 0 (metF ms') ∧ metF ms' i = true))
  case atStart => exact ⟨0, out1, ms1, v1, Nat.zero_le _, rfl, rfl, H1.out⟩
  case round =>
    clear H1
    obtain ⟨j, out, ms2, v, hjl, rfl, rfl, HR⟩ := hrel
    have hsm := HR.out.2.1.small
    have hcp := HR.out.1.es.pcell
    by_cases hlt : j < out.length
    · obtain ⟨g, cap, hv, hg1, hg2, hcap⟩ := HR.out.1.es.row.is (by omega)
      subst hv
      have hcj := HR.out.1.es.row.cell hlt
      obtain ⟨a, HA⟩ : ∃ a, Hid (out[j]? = some a) := ⟨out[j], List.getElem?_eq_getElem hlt⟩
      rw [show out.getD j 0 = a by rw [List.getD_eq_getElem?_getD, HA.out]; rfl] at hcj
      have han : a < n := HR.out.2.1.lt a (List.mem_of_getElem? HA.out)
      obtain ⟨b, o, ia, ic, rfl, hbB, hc, hI⟩ := HM.out.2.2.1.at (j := a) (by omega)
      have keep : ∀ k, k < B → wr.heap[k]? = w.heap[k]? := fun k hk => HR.out.1.tc.block k (Nat.lt_of_lt_of_le hk HM.out.2.2.2.1) (by have := HM.out.2.2.2.2; omega)
      have hcr : wr.cell? ⟨b, o + a, none⟩ = some (.slice ia (row Uu a).length ic) := (World.cell?_of_block (a := ⟨b, o + a, none⟩) (keep b hbB)).trans hc
      have hwb : wr.cell? ⟨wb, 0, none⟩ = some (.slice (some ⟨b, o, none⟩) n uc) := by
        have h1 := HR.out.1.tc.block wb HM.out.1.small.2.2 HM.out.1.ne.2
        simp [World.cell?, h1, HM.out.1.wbox]
      have hrl := hI.1
      have HI : Hid (Ints B w ia (row Uu a)) := hI
      clear hc hI keep hg2
      go_wp2_with fail
      go_quiet (fail)
      have H2 : Hid (GS w mb mr n ms2 (.slice (some ⟨g, 0, none⟩) out.length cap) out (wr.drewN nq)) := HR.out.1.below ⟨rfl, rfl, rfl, Nat.le_refl _, fun _ _ => rfl⟩
      go_wp2_with fail
      go_loopg [28] (row Uu a).length (fun g tv wr => ∃ (t : Nat) (out : List Nat) (ms' : List Bool) (v : Value), t ≤ (row Uu a).length ∧ g = (row Uu a).length - t ∧ tv = .int .i64 t ∧ Hid (GS w mb mr n ms' v out wr ∧ Gat n (row Nn) (row Uu) (metF ms) i out j t (metF ms') ∧ metF ms' i = true ∧ out[j]? = some a))
      case atStart => exact ⟨0, out, ms2, _, Nat.zero_le _, rfl, rfl, H2.out, HR.out.2.1, HR.out.2.2, HA.out⟩
      case round =>
        clear H2 HA hcp hcap hcj hcr hwb hsm
        obtain ⟨t, out2, ms3, v3, htl, rfl, rfl, HQ⟩ := hrel
        have hsm := HQ.out.2.1.small
        have hj2 := (List.getElem?_eq_some_iff.1 HQ.out.2.2.2).1
        by_cases hlt2 : t < (row Uu a).length
        · obtain ⟨b2, o2, k, rfl, hb2, hk, hck⟩ := HI.out.at hlt2
          have hck2 := (World.cell?_of_block (w := w) (w' := wr) (a := ⟨b2, o2 + t, none⟩) (HQ.out.1.tc.block b2 (Nat.lt_of_lt_of_le hb2 HM.out.2.2.2.1) (by have := HM.out.2.2.2.2; omega))).trans hck
          have hkn := HQ.out.2.1.met_lt HM.out.2.1.web HQ.out.2.2.2 hk
          have HK : Hid ((row Uu a)[t]? = some k) := hk
          have EN : Hid (Calls Try.prog 37 #[.int .i64 k, .pointer (some ⟨mb, 0, none⟩), .pointer (some ⟨w.heap.size, 0, none⟩)] wr fun e w' => e = .returned (.tuple #[]) ∧ ∃ ms' xs' v', Entered ms3 out2 v3 k ms' xs' v' ∧ ES (w.heap.size + 1) mb mr w.heap.size n ms' v' xs' w' ∧ Tc (ET mr w.heap.size v3) wr w' ∧ Lies wr v3 v') :=
            enterG_any _ _ _ _ n k ms3 _ out2 _ HQ.out.1.es HQ.out.1.size hkn hn (by omega)
          clear hk hck
          go_wp2_with fail
          refine EN.out.mono ?_
          rintro e w4 ⟨rfl, ms4, out4, v4, hen, hes, htc, hly⟩
          have H4 : Hid (GS w mb mr n ms4 v4 out4 w4 ∧ Gat n (row Nn) (row Uu) (metF ms) i out4 j (t + 1) (metF ms4) ∧ metF ms4 i = true ∧ out4[j]? = some a) := by
            obtain ⟨h1, h2, h3⟩ := gat_on HQ.out.2.1 HQ.out.1.es.mlen HM.out.2.1.web HQ.out.2.2.2 HK.out hen
            exact ⟨HQ.out.1.enter hes htc, h1, h2 HQ.out.2.2.1, h3⟩
          clear hen hes htc hly EN
          go_wp2_with fail
          go_roundg ((row Uu a).length - (t + 1))
          case rel => exact ⟨t + 1, out4, ms4, v4, by omega, rfl, by go_num, H4.out⟩
          case measure => omega
        · obtain rfl : t = (row Uu a).length := by omega
          have H4 : Hid (Gat n (row Nn) (row Uu) (metF ms) i out2 (j + 1) 0 (metF ms3)) := HQ.out.2.1.next HQ.out.2.2.2 (Nat.le_refl _)
          go_wp2_with fail
          go_roundg (n - (j + 1))
          case rel => exact ⟨j + 1, out2, ms3, v3, by omega, rfl, by go_num, HQ.out.1, H4.out, HQ.out.2.2.1⟩
          case measure => omega
    · obtain rfl : j = out.length := by omega
      obtain ⟨va, vc, hv, _, _⟩ := HR.out.1.es.row.form
      subst hv
      have H4 : Hid (RowI w.heap.size (.slice va out.length vc) out wr ∧ Tc (fun k => k = mr) w wr ∧ GM mb mr wb n ms2 ua uc wr ∧ Ring n (row Nn) (row Uu) (metF ms) i out (metF ms2)) :=
        ⟨HR.out.1.es.row.mono (by omega), HR.out.1.tc, ⟨HR.out.1.es.mbox, HR.out.1.es.mrow, HR.out.1.es.mlen, (HR.out.1.tc.block wb HM.out.1.small.2.2 HM.out.1.ne.2).trans HM.out.1.wbox⟩, HR.out.2.1.ring HR.out.2.2⟩
      go_wp2_with fail
      go_ret
      exact ⟨H4.out.2.1, out, ms2, _, rfl, H4.out.1, H4.out.2.2.1, H4.out.2.2.2⟩
end Go.Proofs.Ytilcongilokppad
