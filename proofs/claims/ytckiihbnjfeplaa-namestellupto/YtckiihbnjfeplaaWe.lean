/- Package names: what a library brings as itself. -/
import Derived.Test.YtckiihbnjfeplaaWd
import Derived.Test.YtckiihbnjfeplaaWp
namespace Go.Proofs.Ytckiihbnjfeplaa
set_option linter.unusedVariables false
set_option linter.unusedSimpArgs false
open Go.RowKit Go.Maps Go.WideMaps

set_option maxRecDepth 100000 in
set_option maxHeartbeats 1600000 in
theorem asThemselves_any (B : Nat) (l : List ByteArray) (a : Option Addr) (cap : Nat) (w : World) (h : Strs B w a l) (hB : B ≤ w.heap.size) (hl : l.length ≤ 200) (hsz : ∀ s ∈ l, s.size ≤ 20) :
    Calls Try.prog 30 #[.slice a l.length cap] w fun e w' => ∃ v, e = .returned v ∧ Below w.heap.size w w' ∧ RowP w.heap.size v (l.map fun x => (x, x)) w' := by
  have HS : Hid (Strs B w a l ∧ B ≤ w.heap.size ∧ ∀ s ∈ l, s.size ≤ 20) := ⟨h, hB, hsz⟩
  clear h hB hsz
  go_enter Try.func30, Try.ntmps30
  go_wp2_with fail
  go_loopw [3, 8] (fun v i wr => ∃ (j : Nat) (qs : List Pr), j ≤ l.length ∧ i = .int .i64 j ∧ Hid (qs = (l.take j).map fun x => (x, x)) ∧ Below w.heap.size w wr ∧ RowP w.heap.size v qs wr) (fun _ i _ => l.length - (intOf i).toNat)
  case atStart => exact ⟨0, [], Nat.zero_le _, rfl, rfl, Below.refl _ _, RowP.nil _ _⟩
  case round =>
    obtain ⟨j, qs, hj, rfl, HQ, hb, hr⟩ := hrel
    have HR : Hid (Below w.heap.size w wr ∧ RowP w.heap.size u3 qs wr) := ⟨hb, hr⟩
    have hql : qs.length ≤ 200 := by rw [HQ.out, List.length_map, List.length_take]; omega
    by_cases hlt : j < l.length
    · obtain ⟨b, o, s, rfl, hbB, hs, hc, hz⟩ := HS.out.1.at hlt
      have hc' := (hb.cell (p := ⟨b, o + j, none⟩) (Nat.lt_of_lt_of_le hbB HS.out.2.1)).trans hc
      have HX : Hid (l[j]? = some s) := hs
      have hz20 : s.size ≤ 20 := HS.out.2.2 s (List.mem_of_getElem? hs)
      have CL : Hid (∀ w, Calls Try.prog 23 #[.string s] w fun e w' => e = .returned (.string s) ∧ Below w.heap.size w w') := fun w => Clone_any s (by omega) w
      clear hc hs hz hb hr
      go_wp2_with fail
      refine (CL.out _).mono ?_
      rintro e w1 ⟨rfl, hb1⟩
      have H1 : Hid (Below w.heap.size w w1 ∧ RowP w.heap.size u3 qs w1) := ⟨HR.out.1.trans (hb1.mono HR.out.1.size), HR.out.2.below hb1⟩
      clear hb1 HR hc'
      go_wp2_with fail
      refine (CL.out _).mono ?_
      rintro e w2 ⟨rfl, hb2⟩
      have H2 : Hid (Below w.heap.size w w2 ∧ RowP w.heap.size u3 qs w2) := ⟨H1.out.1.trans (hb2.mono H1.out.1.size), H1.out.2.below hb2⟩
      clear hb2 H1
      go_wp2_with (at_builtin; refine wpList_pushP s s _ rfl _ _ rfl w.heap.size u3 qs rfl H2.out.2 rfl (by simp) H2.out.1.size (by omega) ?_)
      intro at' cap' w3 hr3 hb3
      have H3 : Hid (Below w.heap.size w w3 ∧ RowP w.heap.size (.slice at' (qs.length + 1) cap') (qs ++ [(s, s)]) w3 ∧ qs ++ [(s, s)] = (l.take (j + 1)).map fun x => (x, x)) := ⟨H2.out.1.trans hb3, hr3, by rw [take_put HX.out, List.map_append, HQ.out]; rfl⟩
      clear hr3 hb3 H2
      go_wp2_with fail
      go_roundw
      case rel => exact ⟨j + 1, _, by omega, by go_num, H3.out.2.2, H3.out.1, H3.out.2.1⟩
      case measure => simp [intOf]; omega
    · obtain rfl : j = l.length := by omega
      clear hb hr
      go_wp2_with fail
      go_ret
      refine ⟨_, rfl, HR.out.1, ?_⟩
      have := HR.out.2
      rw [HQ.out, List.take_length] at this
      exact this
end Go.Proofs.Ytckiihbnjfeplaa
