/- Chapter 7: evaluation: the walk, kind by kind. -/
import Derived.Test.YthooljlikllnpaaDoorK43
namespace Go.Proofs.YthooljlikllnpaaDoor
set_option linter.unusedVariables false
set_option linter.unusedSimpArgs false
open Go.RowKit

set_option maxRecDepth 100000 in
set_option maxHeartbeats 1600000 in
theorem ev_stop (rb cb co fp : Nat) (Q : Ending → World → Prop) (w : World) (c1 : w.cell? ⟨rb, 1, none⟩ = some (.int .i64 0)) (HQ : Q (.panicked (endP 2)) w) :
    Calls Tryd.prog 28 #[.pointer (some ⟨rb, 0, none⟩), .pointer (some ⟨cb, co, none⟩), .pointer (some ⟨fp, 0, none⟩)] w (Thru Q) := by
  have HT : Hid (Thru Q (.panicked (endP 2)) w) := HQ
  clear HQ
  go_enter Tryd.func28, Tryd.ntmps28
  go_wp2_with fail
  refine (Must_no 2 _).mono ?_
  rintro en w1 ⟨rfl, rfl⟩
  go_wp2_with fail
  exact ⟨rfl, HT.out⟩
set_option maxRecDepth 100000 in
set_option maxHeartbeats 1600000 in
theorem ev_num (rb cb co fp : Nat) (left : Int) (n : Int) (Q : Ending → World → Prop) (w W1 : World) (hl : 0 < left) (hl9 : left ≤ 1000000) (hc : rb ≠ cb) (c1 : w.cell? ⟨rb, 1, none⟩ = some (.int .i64 left)) (z1 : w.frozen? ⟨rb, 1, none⟩ = false) (hw1 : w.setCell ⟨rb, 1, none⟩ (.int .i64 (left - 1)) = W1)
    (k0 : W1.cell? ⟨cb, co, none⟩ = some (.int .i64 1)) (k2 : W1.cell? ⟨cb, co + 2, none⟩ = some (.int .i64 n)) (HQ : Q (.returned (.iface 104 (.int .i64 n))) W1) :
    Calls Tryd.prog 28 #[.pointer (some ⟨rb, 0, none⟩), .pointer (some ⟨cb, co, none⟩), .pointer (some ⟨fp, 0, none⟩)] w (Thru Q) := by
  have hg : decide (left > 0) = true := by simp; omega
  have hg' : decide (0 < left) = true := by simp; omega
  have HT : Hid (Thru Q (.returned (.iface 104 (.int .i64 n))) W1) := HQ
  clear HQ
  go_enter Tryd.func28, Tryd.ntmps28
  go_wp2_with fail
  refine (Must_yes 2 _).mono ?_
  rintro en w1 ⟨rfl, rfl⟩
  go_wp2_with fail
  go_ret
  exact HT.out
set_option maxRecDepth 100000 in
set_option maxHeartbeats 1600000 in
theorem ev_tru (rb cb co fp : Nat) (left : Int) (n : Int) (Q : Ending → World → Prop) (w W1 : World) (hl : 0 < left) (hl9 : left ≤ 1000000) (hc : rb ≠ cb) (c1 : w.cell? ⟨rb, 1, none⟩ = some (.int .i64 left)) (z1 : w.frozen? ⟨rb, 1, none⟩ = false) (hw1 : w.setCell ⟨rb, 1, none⟩ (.int .i64 (left - 1)) = W1)
    (k0 : W1.cell? ⟨cb, co, none⟩ = some (.int .i64 2)) (k2 : W1.cell? ⟨cb, co + 2, none⟩ = some (.int .i64 n)) (HQ : Q (.returned (.iface 105 (.bool (n == 1)))) W1) :
    Calls Tryd.prog 28 #[.pointer (some ⟨rb, 0, none⟩), .pointer (some ⟨cb, co, none⟩), .pointer (some ⟨fp, 0, none⟩)] w (Thru Q) := by
  have hg : decide (left > 0) = true := by simp; omega
  have hg' : decide (0 < left) = true := by simp; omega
  have HT : Hid (Thru Q (.returned (.iface 105 (.bool (n == 1)))) W1) := HQ
  clear HQ
  go_enter Tryd.func28, Tryd.ntmps28
  go_wp2_with fail
  refine (Must_yes 2 _).mono ?_
  rintro en w1 ⟨rfl, rfl⟩
  go_wp2_with fail
  go_ret
  exact HT.out
set_option maxRecDepth 100000 in
set_option maxHeartbeats 1600000 in
theorem ev_prim (rb cb co fp : Nat) (left : Int) (s : ByteArray) (Q : Ending → World → Prop) (w W1 : World) (hl : 0 < left) (hl9 : left ≤ 1000000) (hc : rb ≠ cb) (c1 : w.cell? ⟨rb, 1, none⟩ = some (.int .i64 left)) (z1 : w.frozen? ⟨rb, 1, none⟩ = false) (hw1 : w.setCell ⟨rb, 1, none⟩ (.int .i64 (left - 1)) = W1)
    (k0 : W1.cell? ⟨cb, co, none⟩ = some (.int .i64 6)) (k4 : W1.cell? ⟨cb, co + 4, none⟩ = some (.string s)) (HQ : Q (.returned (.iface 114 (.string s))) W1) :
    Calls Tryd.prog 28 #[.pointer (some ⟨rb, 0, none⟩), .pointer (some ⟨cb, co, none⟩), .pointer (some ⟨fp, 0, none⟩)] w (Thru Q) := by
  have hg : decide (left > 0) = true := by simp; omega
  have hg' : decide (0 < left) = true := by simp; omega
  have HT : Hid (Thru Q (.returned (.iface 114 (.string s))) W1) := HQ
  clear HQ
  go_enter Tryd.func28, Tryd.ntmps28
  go_wp2_with fail
  refine (Must_yes 2 _).mono ?_
  rintro en w1 ⟨rfl, rfl⟩
  go_wp2_with fail
  go_ret
  exact HT.out
set_option maxRecDepth 100000 in
set_option maxHeartbeats 1600000 in
theorem ev_quote (rb cb co fp : Nat) (left : Int) (Q : Ending → World → Prop) (w W1 : World) (hl : 0 < left) (hl9 : left ≤ 1000000) (hc : rb ≠ cb) (c1 : w.cell? ⟨rb, 1, none⟩ = some (.int .i64 left)) (z1 : w.frozen? ⟨rb, 1, none⟩ = false) (hw1 : w.setCell ⟨rb, 1, none⟩ (.int .i64 (left - 1)) = W1)
    (k0 : W1.cell? ⟨cb, co, none⟩ = some (.int .i64 3)) (HC : Calls Tryd.prog 40 #[.pointer (some ⟨cb, co + 5, none⟩)] W1 fun e w' => ((∃ t x, e = .returned (.iface t x)) ∨ ∃ q, e = .panicked q) ∧ Q e w') :
    Calls Tryd.prog 28 #[.pointer (some ⟨rb, 0, none⟩), .pointer (some ⟨cb, co, none⟩), .pointer (some ⟨fp, 0, none⟩)] w (Thru Q) := by
  have hg : decide (left > 0) = true := by simp; omega
  have hg' : decide (0 < left) = true := by simp; omega
  have HCC := hidd HC
  clear HC
  go_enter Tryd.func28, Tryd.ntmps28
  go_wp2_with fail
  refine (Must_yes 2 _).mono ?_
  rintro en w1 ⟨rfl, rfl⟩
  go_wp2_with fail
  refine HCC.out.mono ?_
  rintro en w3 ⟨h2, ht⟩
  have HT : Hid (Thru Q en w3) := ht
  clear ht
  rcases h2 with ⟨t, x, rfl⟩ | ⟨q, rfl⟩
  · go_wp2_with fail
    go_ret
    exact HT.out
  · go_wp2_with fail
    exact ⟨rfl, HT.out⟩
set_option maxRecDepth 100000 in
set_option maxHeartbeats 1600000 in
theorem ev_if (rb cb co fp : Nat) (left : Int) (Q : Ending → World → Prop) (w W1 : World) (hl : 0 < left) (hl9 : left ≤ 1000000) (hc : rb ≠ cb) (c1 : w.cell? ⟨rb, 1, none⟩ = some (.int .i64 left)) (z1 : w.frozen? ⟨rb, 1, none⟩ = false) (hw1 : w.setCell ⟨rb, 1, none⟩ (.int .i64 (left - 1)) = W1)
    (k0 : W1.cell? ⟨cb, co, none⟩ = some (.int .i64 7)) (HC : Calls Tryd.prog 43 #[.pointer (some ⟨rb, 0, none⟩), .pointer (some ⟨cb, co, none⟩), .pointer (some ⟨fp, 0, none⟩)] W1 fun e w' => ((∃ t x, e = .returned (.iface t x)) ∨ ∃ q, e = .panicked q) ∧ Q e w') :
    Calls Tryd.prog 28 #[.pointer (some ⟨rb, 0, none⟩), .pointer (some ⟨cb, co, none⟩), .pointer (some ⟨fp, 0, none⟩)] w (Thru Q) := by
  have hg : decide (left > 0) = true := by simp; omega
  have hg' : decide (0 < left) = true := by simp; omega
  have HCC := hidd HC
  clear HC
  go_enter Tryd.func28, Tryd.ntmps28
  go_wp2_with fail
  refine (Must_yes 2 _).mono ?_
  rintro en w1 ⟨rfl, rfl⟩
  go_wp2_with fail
  refine HCC.out.mono ?_
  rintro en w3 ⟨h2, ht⟩
  have HT : Hid (Thru Q en w3) := ht
  clear ht
  rcases h2 with ⟨t, x, rfl⟩ | ⟨q, rfl⟩
  · go_wp2_with fail
    go_ret
    exact HT.out
  · go_wp2_with fail
    exact ⟨rfl, HT.out⟩
set_option maxRecDepth 100000 in
set_option maxHeartbeats 1600000 in
theorem ev_seq (rb cb co fp : Nat) (left : Int) (lb lo n cap : Nat) (Q : Ending → World → Prop) (w W1 : World) (hl : 0 < left) (hl9 : left ≤ 1000000) (hc : rb ≠ cb) (c1 : w.cell? ⟨rb, 1, none⟩ = some (.int .i64 left)) (z1 : w.frozen? ⟨rb, 1, none⟩ = false) (hw1 : w.setCell ⟨rb, 1, none⟩ (.int .i64 (left - 1)) = W1)
    (k0 : W1.cell? ⟨cb, co, none⟩ = some (.int .i64 12)) (k11 : W1.cell? ⟨cb, co + 11, none⟩ = some (.slice (some ⟨lb, lo, none⟩) n cap)) (HC : Calls Tryd.prog 46 #[.pointer (some ⟨rb, 0, none⟩), .slice (some ⟨lb, lo, none⟩) n cap, .pointer (some ⟨fp, 0, none⟩)] W1 fun e w' => ((∃ t x, e = .returned (.iface t x)) ∨ ∃ q, e = .panicked q) ∧ Q e w') :
    Calls Tryd.prog 28 #[.pointer (some ⟨rb, 0, none⟩), .pointer (some ⟨cb, co, none⟩), .pointer (some ⟨fp, 0, none⟩)] w (Thru Q) := by
  have hg : decide (left > 0) = true := by simp; omega
  have hg' : decide (0 < left) = true := by simp; omega
  have HCC := hidd HC
  clear HC
  go_enter Tryd.func28, Tryd.ntmps28
  go_wp2_with fail
  refine (Must_yes 2 _).mono ?_
  rintro en w1 ⟨rfl, rfl⟩
  go_wp2_with fail
  refine HCC.out.mono ?_
  rintro en w3 ⟨h2, ht⟩
  have HT : Hid (Thru Q en w3) := ht
  clear ht
  rcases h2 with ⟨t, x, rfl⟩ | ⟨q, rfl⟩
  · go_wp2_with fail
    go_ret
    exact HT.out
  · go_wp2_with fail
    exact ⟨rfl, HT.out⟩
set_option maxRecDepth 100000 in
set_option maxHeartbeats 1600000 in
theorem ev_local (rb cb co fp : Nat) (left : Int) (i : Int) (Q : Ending → World → Prop) (w W1 : World) (hl : 0 < left) (hl9 : left ≤ 1000000) (hc : rb ≠ cb) (c1 : w.cell? ⟨rb, 1, none⟩ = some (.int .i64 left)) (z1 : w.frozen? ⟨rb, 1, none⟩ = false) (hw1 : w.setCell ⟨rb, 1, none⟩ (.int .i64 (left - 1)) = W1)
    (k0 : W1.cell? ⟨cb, co, none⟩ = some (.int .i64 4)) (k1 : W1.cell? ⟨cb, co + 1, none⟩ = some (.int .i64 i)) (HC : Calls Tryd.prog 41 #[.pointer (some ⟨fp, 0, none⟩), .int .i64 i] W1 fun e w' => ∃ K q t x, e = .returned (.pointer (some ⟨K, q, none⟩)) ∧ w'.cell? ⟨K, q, none⟩ = some (.iface t x) ∧ Q (.returned (.iface t x)) w') :
    Calls Tryd.prog 28 #[.pointer (some ⟨rb, 0, none⟩), .pointer (some ⟨cb, co, none⟩), .pointer (some ⟨fp, 0, none⟩)] w (Thru Q) := by
  have hg : decide (left > 0) = true := by simp; omega
  have hg' : decide (0 < left) = true := by simp; omega
  have HCC := hidd HC
  clear HC
  go_enter Tryd.func28, Tryd.ntmps28
  go_wp2_with fail
  refine (Must_yes 2 _).mono ?_
  rintro en w1 ⟨rfl, rfl⟩
  go_wp2_with fail
  refine HCC.out.mono ?_
  rintro en w3 ⟨K, q, t, x, rfl, d1, ht⟩
  have HT : Hid (Thru Q (.returned (.iface t x)) w3) := ht
  clear ht
  go_wp2_with fail
  go_ret
  exact HT.out
set_option maxRecDepth 100000 in
set_option maxHeartbeats 1600000 in
theorem ev_call (rb cb co fp : Nat) (left : Int) (lb lo n cap : Nat) (Q : Ending → World → Prop) (w W1 : World) (hl : 0 < left) (hl9 : left ≤ 1000000) (hc : rb ≠ cb) (c1 : w.cell? ⟨rb, 1, none⟩ = some (.int .i64 left)) (z1 : w.frozen? ⟨rb, 1, none⟩ = false) (hw1 : w.setCell ⟨rb, 1, none⟩ (.int .i64 (left - 1)) = W1)
    (k0 : W1.cell? ⟨cb, co, none⟩ = some (.int .i64 9)) (k11 : W1.cell? ⟨cb, co + 11, none⟩ = some (.slice (some ⟨lb, lo, none⟩) n cap)) (HC : Calls Tryd.prog 45 #[.pointer (some ⟨rb, 0, none⟩), .slice (some ⟨lb, lo, none⟩) n cap, .pointer (some ⟨fp, 0, none⟩)] W1 fun e w' => (∃ N k, e = .returned (.slice (some ⟨N, 0, none⟩) k k) ∧ Calls Tryd.prog 44 #[.pointer (some ⟨rb, 0, none⟩), .slice (some ⟨N, 0, none⟩) k k] w' fun e w' => ((∃ t x, e = .returned (.iface t x)) ∨ ∃ q, e = .panicked q) ∧ Q e w') ∨ ∃ q, e = .panicked q ∧ Q (.panicked q) w') :
    Calls Tryd.prog 28 #[.pointer (some ⟨rb, 0, none⟩), .pointer (some ⟨cb, co, none⟩), .pointer (some ⟨fp, 0, none⟩)] w (Thru Q) := by
  have hg : decide (left > 0) = true := by simp; omega
  have hg' : decide (0 < left) = true := by simp; omega
  have HCC := hidd HC
  clear HC
  go_enter Tryd.func28, Tryd.ntmps28
  go_wp2_with fail
  refine (Must_yes 2 _).mono ?_
  rintro en w1 ⟨rfl, rfl⟩
  go_wp2_with fail
  refine HCC.out.mono ?_
  intro en w3 hq
  rcases hq with ⟨N, k, rfl, hx⟩ | ⟨q, rfl, ht⟩
  · have HX := hidd hx
    clear hx HCC
    go_wp2_with fail
    refine HX.out.mono ?_
    rintro en w3 ⟨h2, ht⟩
    have HT : Hid (Thru Q en w3) := ht
    clear ht
    rcases h2 with ⟨t, x, rfl⟩ | ⟨q, rfl⟩
    · go_wp2_with fail
      go_ret
      exact HT.out
    · go_wp2_with fail
      exact ⟨rfl, HT.out⟩
  · have HT : Hid (Thru Q (.panicked q) w3) := ht
    clear ht
    go_wp2_with fail
    exact ⟨rfl, HT.out⟩
set_option maxRecDepth 100000 in
set_option maxHeartbeats 1600000 in
theorem ev_setl (rb cb co fp : Nat) (left : Int) (lb lo n cap : Nat) (Q : Ending → World → Prop) (w W1 : World) (hl : 0 < left) (hl9 : left ≤ 1000000) (hc : rb ≠ cb) (c1 : w.cell? ⟨rb, 1, none⟩ = some (.int .i64 left)) (z1 : w.frozen? ⟨rb, 1, none⟩ = false) (hw1 : w.setCell ⟨rb, 1, none⟩ (.int .i64 (left - 1)) = W1)
    (k0 : W1.cell? ⟨cb, co, none⟩ = some (.int .i64 10)) (hn : 0 < n) (hn9 : n ≤ 3000) (k11 : W1.cell? ⟨cb, co + 11, none⟩ = some (.slice (some ⟨lb, lo, none⟩) n cap)) (HC : Calls Tryd.prog 28 #[.pointer (some ⟨rb, 0, none⟩), .pointer (some ⟨lb, lo, none⟩), .pointer (some ⟨fp, 0, none⟩)] W1 fun e w' => (∃ t x, e = .returned (.iface t x) ∧ Calls Tryd.prog 47 #[.pointer (some ⟨rb, 0, none⟩), .pointer (some ⟨cb, co, none⟩), .iface t x, .pointer (some ⟨fp, 0, none⟩)] w' fun e w' => ((∃ t x, e = .returned (.iface t x)) ∨ ∃ q, e = .panicked q) ∧ Q e w') ∨ ∃ q, e = .panicked q ∧ Q (.panicked q) w') :
    Calls Tryd.prog 28 #[.pointer (some ⟨rb, 0, none⟩), .pointer (some ⟨cb, co, none⟩), .pointer (some ⟨fp, 0, none⟩)] w (Thru Q) := by
  have hg : decide (left > 0) = true := by simp; omega
  have hg' : decide (0 < left) = true := by simp; omega
  have HCC := hidd HC
  clear HC
  have hn' : (0 : Int) < n := by omega
  go_enter Tryd.func28, Tryd.ntmps28
  go_wp2_with fail
  refine (Must_yes 2 _).mono ?_
  rintro en w1 ⟨rfl, rfl⟩
  go_wp2_with fail
  refine HCC.out.mono ?_
  intro en w3 hq
  rcases hq with ⟨t0, x0, rfl, hx⟩ | ⟨q, rfl, ht⟩
  · have HX := hidd hx
    clear hx HCC
    go_wp2_with fail
    refine HX.out.mono ?_
    rintro en w3 ⟨h2, ht⟩
    have HT : Hid (Thru Q en w3) := ht
    clear ht
    rcases h2 with ⟨t, x, rfl⟩ | ⟨q, rfl⟩
    · go_wp2_with fail
      go_ret
      exact HT.out
    · go_wp2_with fail
      exact ⟨rfl, HT.out⟩
  · have HT : Hid (Thru Q (.panicked q) w3) := ht
    clear ht
    go_wp2_with fail
    exact ⟨rfl, HT.out⟩
set_option maxRecDepth 100000 in
set_option maxHeartbeats 1600000 in
theorem ev_setg (rb cb co fp : Nat) (left : Int) (lb lo n cap : Nat) (Q : Ending → World → Prop) (w W1 : World) (hl : 0 < left) (hl9 : left ≤ 1000000) (hc : rb ≠ cb) (c1 : w.cell? ⟨rb, 1, none⟩ = some (.int .i64 left)) (z1 : w.frozen? ⟨rb, 1, none⟩ = false) (hw1 : w.setCell ⟨rb, 1, none⟩ (.int .i64 (left - 1)) = W1)
    (k0 : W1.cell? ⟨cb, co, none⟩ = some (.int .i64 11)) (hn : 0 < n) (hn9 : n ≤ 3000) (k11 : W1.cell? ⟨cb, co + 11, none⟩ = some (.slice (some ⟨lb, lo, none⟩) n cap)) (HC : Calls Tryd.prog 28 #[.pointer (some ⟨rb, 0, none⟩), .pointer (some ⟨lb, lo, none⟩), .pointer (some ⟨fp, 0, none⟩)] W1 fun e w' => (∃ t x, e = .returned (.iface t x) ∧ Calls Tryd.prog 47 #[.pointer (some ⟨rb, 0, none⟩), .pointer (some ⟨cb, co, none⟩), .iface t x, .pointer (some ⟨fp, 0, none⟩)] w' fun e w' => ((∃ t x, e = .returned (.iface t x)) ∨ ∃ q, e = .panicked q) ∧ Q e w') ∨ ∃ q, e = .panicked q ∧ Q (.panicked q) w') :
    Calls Tryd.prog 28 #[.pointer (some ⟨rb, 0, none⟩), .pointer (some ⟨cb, co, none⟩), .pointer (some ⟨fp, 0, none⟩)] w (Thru Q) := by
  have hg : decide (left > 0) = true := by simp; omega
  have hg' : decide (0 < left) = true := by simp; omega
  have HCC := hidd HC
  clear HC
  have hn' : (0 : Int) < n := by omega
  go_enter Tryd.func28, Tryd.ntmps28
  go_wp2_with fail
  refine (Must_yes 2 _).mono ?_
  rintro en w1 ⟨rfl, rfl⟩
  go_wp2_with fail
  refine HCC.out.mono ?_
  intro en w3 hq
  rcases hq with ⟨t0, x0, rfl, hx⟩ | ⟨q, rfl, ht⟩
  · have HX := hidd hx
    clear hx HCC
    go_wp2_with fail
    refine HX.out.mono ?_
    rintro en w3 ⟨h2, ht⟩
    have HT : Hid (Thru Q en w3) := ht
    clear ht
    rcases h2 with ⟨t, x, rfl⟩ | ⟨q, rfl⟩
    · go_wp2_with fail
      go_ret
      exact HT.out
    · go_wp2_with fail
      exact ⟨rfl, HT.out⟩
  · have HT : Hid (Thru Q (.panicked q) w3) := ht
    clear ht
    go_wp2_with fail
    exact ⟨rfl, HT.out⟩
set_option maxRecDepth 100000 in
set_option maxHeartbeats 1600000 in
theorem ev_def (rb cb co fp : Nat) (left : Int) (lb lo n cap : Nat) (Q : Ending → World → Prop) (w W1 : World) (hl : 0 < left) (hl9 : left ≤ 1000000) (hc : rb ≠ cb) (c1 : w.cell? ⟨rb, 1, none⟩ = some (.int .i64 left)) (z1 : w.frozen? ⟨rb, 1, none⟩ = false) (hw1 : w.setCell ⟨rb, 1, none⟩ (.int .i64 (left - 1)) = W1)
    (k0 : W1.cell? ⟨cb, co, none⟩ = some (.int .i64 13)) (hn : 0 < n) (hn9 : n ≤ 3000) (k11 : W1.cell? ⟨cb, co + 11, none⟩ = some (.slice (some ⟨lb, lo, none⟩) n cap)) (HC : Calls Tryd.prog 28 #[.pointer (some ⟨rb, 0, none⟩), .pointer (some ⟨lb, lo, none⟩), .pointer (some ⟨fp, 0, none⟩)] W1 fun e w' => (∃ t x, e = .returned (.iface t x) ∧ Calls Tryd.prog 47 #[.pointer (some ⟨rb, 0, none⟩), .pointer (some ⟨cb, co, none⟩), .iface t x, .pointer (some ⟨fp, 0, none⟩)] w' fun e w' => ((∃ t x, e = .returned (.iface t x)) ∨ ∃ q, e = .panicked q) ∧ Q e w') ∨ ∃ q, e = .panicked q ∧ Q (.panicked q) w') :
    Calls Tryd.prog 28 #[.pointer (some ⟨rb, 0, none⟩), .pointer (some ⟨cb, co, none⟩), .pointer (some ⟨fp, 0, none⟩)] w (Thru Q) := by
  have hg : decide (left > 0) = true := by simp; omega
  have hg' : decide (0 < left) = true := by simp; omega
  have HCC := hidd HC
  clear HC
  have hn' : (0 : Int) < n := by omega
  go_enter Tryd.func28, Tryd.ntmps28
  go_wp2_with fail
  refine (Must_yes 2 _).mono ?_
  rintro en w1 ⟨rfl, rfl⟩
  go_wp2_with fail
  refine HCC.out.mono ?_
  intro en w3 hq
  rcases hq with ⟨t0, x0, rfl, hx⟩ | ⟨q, rfl, ht⟩
  · have HX := hidd hx
    clear hx HCC
    go_wp2_with fail
    refine HX.out.mono ?_
    rintro en w3 ⟨h2, ht⟩
    have HT : Hid (Thru Q en w3) := ht
    clear ht
    rcases h2 with ⟨t, x, rfl⟩ | ⟨q, rfl⟩
    · go_wp2_with fail
      go_ret
      exact HT.out
    · go_wp2_with fail
      exact ⟨rfl, HT.out⟩
  · have HT : Hid (Thru Q (.panicked q) w3) := ht
    clear ht
    go_wp2_with fail
    exact ⟨rfl, HT.out⟩
set_option maxRecDepth 100000 in
set_option maxHeartbeats 1600000 in
theorem ev_lam (rb cb co fp : Nat) (left : Int) (i : Int) (lb lo n cap : Nat) (Q : Ending → World → Prop) (w W1 : World) (hl : 0 < left) (hl9 : left ≤ 1000000) (hc : rb ≠ cb) (c1 : w.cell? ⟨rb, 1, none⟩ = some (.int .i64 left)) (z1 : w.frozen? ⟨rb, 1, none⟩ = false) (hw1 : w.setCell ⟨rb, 1, none⟩ (.int .i64 (left - 1)) = W1)
    (k0 : W1.cell? ⟨cb, co, none⟩ = some (.int .i64 8)) (hn : 0 < n) (hn9 : n ≤ 3000) (k1 : W1.cell? ⟨cb, co + 1, none⟩ = some (.int .i64 i)) (k11 : W1.cell? ⟨cb, co + 11, none⟩ = some (.slice (some ⟨lb, lo, none⟩) n cap)) (HQ : Q (.returned (.iface 115 (.pointer (some ⟨W1.heap.size, 0, none⟩)))) (W1.drew.alloc (.cells #[.int .i64 i, .pointer (some ⟨lb, lo, none⟩), .pointer (some ⟨fp, 0, none⟩)] 117))) :
    Calls Tryd.prog 28 #[.pointer (some ⟨rb, 0, none⟩), .pointer (some ⟨cb, co, none⟩), .pointer (some ⟨fp, 0, none⟩)] w (Thru Q) := by
  have hg : decide (left > 0) = true := by simp; omega
  have hg' : decide (0 < left) = true := by simp; omega
  have HT : Hid (Thru Q (.returned (.iface 115 (.pointer (some ⟨W1.heap.size, 0, none⟩)))) (W1.drew.alloc (.cells #[.int .i64 i, .pointer (some ⟨lb, lo, none⟩), .pointer (some ⟨fp, 0, none⟩)] 117))) := HQ
  clear HQ
  have hn' : (0 : Int) < n := by omega
  go_enter Tryd.func28, Tryd.ntmps28
  go_wp2_with fail
  refine (Must_yes 2 _).mono ?_
  rintro en w1 ⟨rfl, rfl⟩
  go_wp2_with fail
  go_region
  all_goals
    go_wp2_with fail
    go_ret
    exact HT.out
set_option maxRecDepth 100000 in
set_option maxHeartbeats 1600000 in
theorem ev_glob (rb cb co fp : Nat) (left : Int) (gb : Nat) (lib own : ByteArray) (t : TypeId) (x : Value) (Q : Ending → World → Prop) (w W1 : World) (hl : 0 < left) (hl9 : left ≤ 1000000) (hc : rb ≠ cb) (c1 : w.cell? ⟨rb, 1, none⟩ = some (.int .i64 left)) (z1 : w.frozen? ⟨rb, 1, none⟩ = false) (hw1 : w.setCell ⟨rb, 1, none⟩ (.int .i64 (left - 1)) = W1)
    (k0 : W1.cell? ⟨cb, co, none⟩ = some (.int .i64 5)) (k3 : ∀ W, Below W1.heap.size W1 W → W.cell? ⟨rb, 3, none⟩ = some (.map (some gb))) (HG : ∀ W, Below W1.heap.size W1 W → Calls Tryd.prog 42 #[.pointer (some ⟨cb, co, none⟩)] W fun e w' => e = .returned (.agg #[.string lib, .string own]) ∧ Below W.heap.size W w') (HK : ∀ W, Below W1.heap.size W1 W → (Instr.lookup 55 (.map (some gb)) (.agg #[.string lib, .string own]) true).run Tryd.prog W = .ok (.tuple #[.iface t x, .bool true]) W) (HQ : ∀ W, Below W1.heap.size W1 W → Q (.returned (.iface t x)) W) :
    Calls Tryd.prog 28 #[.pointer (some ⟨rb, 0, none⟩), .pointer (some ⟨cb, co, none⟩), .pointer (some ⟨fp, 0, none⟩)] w (Thru Q) := by
  have hg : decide (left > 0) = true := by simp; omega
  have hg' : decide (0 < left) = true := by simp; omega
  have HGG := hidd HG
  have HKK := hidd HK
  have HKM := hidd k3
  have HT : Hid (∀ W, Below W1.heap.size W1 W → Thru Q (.returned (.iface t x)) W) := HQ
  clear HQ HG HK k3
  have r3 := HKM.out _ (Below.refl _ _)
  go_enter Tryd.func28, Tryd.ntmps28
  go_wp2_with fail
  refine (Must_yes 2 _).mono ?_
  rintro en w1 ⟨rfl, rfl⟩
  go_wp2_with fail
  go_region_with (go_at_call 42; refine (HGG.out _ (Below.drew (Below.refl _ _))).mono ?_; rintro en w3 ⟨rfl, hb3⟩; have HB3 : Hid (Below W1.heap.size W1 w3) := (Below.drew (Below.refl _ _)).trans hb3; have d3 := HKM.out w3 HB3.out; have hlk := HKK.out w3 HB3.out; clear hb3)
  all_goals
    go_wp2_with fail
    refine (Must_yes _ _).mono ?_
    rintro en w4 ⟨rfl, rfl⟩
    go_wp2_with fail
    go_ret
    exact HT.out _ HB3.out
set_option maxRecDepth 100000 in
set_option maxHeartbeats 1600000 in
theorem ev_globn (rb cb co fp : Nat) (left : Int) (gb : Nat) (lib own : ByteArray) (Q : Ending → World → Prop) (w W1 : World) (hl : 0 < left) (hl9 : left ≤ 1000000) (hc : rb ≠ cb) (c1 : w.cell? ⟨rb, 1, none⟩ = some (.int .i64 left)) (z1 : w.frozen? ⟨rb, 1, none⟩ = false) (hw1 : w.setCell ⟨rb, 1, none⟩ (.int .i64 (left - 1)) = W1)
    (k0 : W1.cell? ⟨cb, co, none⟩ = some (.int .i64 5)) (k3 : ∀ W, Below W1.heap.size W1 W → W.cell? ⟨rb, 3, none⟩ = some (.map (some gb))) (HG : ∀ W, Below W1.heap.size W1 W → Calls Tryd.prog 42 #[.pointer (some ⟨cb, co, none⟩)] W fun e w' => e = .returned (.agg #[.string lib, .string own]) ∧ Below W.heap.size W w') (HK : ∀ W, Below W1.heap.size W1 W → (Instr.lookup 55 (.map (some gb)) (.agg #[.string lib, .string own]) true).run Tryd.prog W = .ok (.tuple #[.nilIface, .bool false]) W) (HQ : ∀ W, Below W1.heap.size W1 W → Q (.panicked (endP 3)) W) :
    Calls Tryd.prog 28 #[.pointer (some ⟨rb, 0, none⟩), .pointer (some ⟨cb, co, none⟩), .pointer (some ⟨fp, 0, none⟩)] w (Thru Q) := by
  have hg : decide (left > 0) = true := by simp; omega
  have hg' : decide (0 < left) = true := by simp; omega
  have HGG := hidd HG
  have HKK := hidd HK
  have HKM := hidd k3
  have HT : Hid (∀ W, Below W1.heap.size W1 W → Thru Q (.panicked (endP 3)) W) := HQ
  clear HQ HG HK k3
  have r3 := HKM.out _ (Below.refl _ _)
  go_enter Tryd.func28, Tryd.ntmps28
  go_wp2_with fail
  refine (Must_yes 2 _).mono ?_
  rintro en w1 ⟨rfl, rfl⟩
  go_wp2_with fail
  go_region_with (go_at_call 42; refine (HGG.out _ (Below.drew (Below.refl _ _))).mono ?_; rintro en w3 ⟨rfl, hb3⟩; have HB3 : Hid (Below W1.heap.size W1 w3) := (Below.drew (Below.refl _ _)).trans hb3; have d3 := HKM.out w3 HB3.out; have hlk := HKK.out w3 HB3.out; clear hb3)
  all_goals
    go_wp2_with fail
    refine (Must_no _ _).mono ?_
    rintro en w4 ⟨rfl, rfl⟩
    go_wp2_with fail
    exact ⟨rfl, HT.out _ HB3.out⟩
end Go.Proofs.YthooljlikllnpaaDoor
