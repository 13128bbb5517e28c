/- The law GraphTells, walked. -/
import Derived.Test.YtilcongilokppadQg
import Derived.Test.YtilcongilokppadNg
namespace Go.Proofs.Ytilcongilokppad
set_option linter.unusedVariables false
set_option linter.unusedSimpArgs false
open Go.RowKit Go.Maps Go.WideMaps

set_option maxRecDepth 100000 in
set_option maxHeartbeats 6400000 in
theorem GraphTells_walk (B : Nat) (l : List Nd) (a : Option Addr) (c : Nat) (w : World) (h : Nds B w a l) (hB : B ≤ w.heap.size) (hc : cost l ≤ 1048576) :
    Calls Try.prog 3 #[.slice a l.length c] w fun e w' => e = .returned (.bool true) ∧ Below w.heap.size w w' := by
  have hl := h.1
  have HH : Hid (Nds B w a l ∧ B ≤ w.heap.size ∧ cost l ≤ 1048576) := ⟨h, hB, hc⟩
  have OR := Order_any B l a c w h hB hc
  clear h hB hc
  go_enter Try.func3, Try.ntmps3
  go_wp2_with fail
  refine OR.mono ?_
  clear OR
  rintro e w2 ⟨hb2, out, who, er, v, rfl, hr2, ht2, hz2'⟩
  have H2 : Hid (Below w.heap.size w w2 ∧ RowS w.heap.size v out w2 ∧ Tells l out who er) := ⟨hb2, hr2, ht2⟩
  clear hb2 hr2 ht2
  have OR := refOrder_any B l a c w2 (HH.out.1.stay (fun k hk => H2.out.1.block k (Nat.lt_of_lt_of_le hk HH.out.2.1)) (Nat.le_refl _)) (Nat.le_trans HH.out.2.1 H2.out.1.size) HH.out.2.2
  go_wp2_with fail
  refine OR.mono ?_
  clear OR
  rintro e w3 ⟨hb3, out', who', er', v', rfl, hr3, ht3⟩
  obtain ⟨rfl, rfl, rfl⟩ := H2.out.2.2.who ht3
  have hsz : out.length ≤ 1048576 ∧ ∀ s ∈ out, s.size ≤ maxLen := by
    rcases H2.out.2.2.cases3 with ⟨_, _, hd⟩ | ⟨_, rfl⟩
    · refine ⟨by rw [hd.len]; exact hl, fun s hs => ?_⟩
      obtain ⟨nd, hn, rfl⟩ := (hd.perm s).1 hs
      have := (HH.out.1.2.1 nd hn).1
      unfold maxLen
      omega
    · simp
  obtain ⟨ra, rc, rfl, hs1⟩ := (H2.out.2.1.below hb3).lie hsz.1 hsz.2
  obtain ⟨rb, rd, rfl, hs2⟩ := hr3.lie hsz.1 hsz.2
  have SA := same_any out ra rb rc rd w3 hs1 hs2
  have H3 : Hid (Below w.heap.size w w3) := H2.out.1.trans (hb3.mono H2.out.1.size)
  clear hb3 hr3 ht3 hs1 hs2 hsz
  go_wp2_with fail
  refine SA.mono ?_
  clear SA
  rintro e w4 ⟨rfl, hb4⟩
  have H4 : Hid (Below w.heap.size w w4) := H3.out.trans (hb4.mono H3.out.size)
  clear hb4
  go_wp2_with fail
  all_goals
    go_ret
    exact ⟨rfl, H4.out⟩
end Go.Proofs.Ytilcongilokppad
