/- Chapter 11: what throws; numbers; what is kept -/
import Derived.Test.YthikdpclifeonaaGreatDoorK07
import Derived.Test.YthikdpclifeonaaGreatDoorK23
namespace Go.Proofs.YthikdpclifeonaaGreatDoor.V
set_option linter.unusedVariables false
set_option linter.unusedSimpArgs false
open Go.RowKit
open Go.Proofs.YthikdpclifeonaaGreatDoor

theorem cellO {w : World} {N q : Nat} {cs : Array Value} {t : TypeId} (h : w.heap[N]? = some (.cells cs t (0, 0))) : w.cell? ⟨N, q, none⟩ = cs[q]? := by simp [World.cell?, h]
theorem looseO {w : World} {N q : Nat} {cs : Array Value} {t : TypeId} (h : w.heap[N]? = some (.cells cs t (0, 0))) : w.frozen? ⟨N, q, none⟩ = false := by simp [World.frozen?, h]
/-- How a run ends, thrown. -/
def endP (how : Int) : List PanicEntry := [{ v := .iface 158 (.agg #[.int .i64 how]), recovered := false }]
set_option maxHeartbeats 800000 in
theorem Must_yes (how : Int) (w : World) : Calls Tryz.prog 65 #[.bool true, .int .i64 how] w fun e w' => e = .returned (.tuple #[]) ∧ w' = w := by
  go_enter Tryz.func65, Tryz.ntmps65
  go_wp2_with fail
  go_end0
  exact ⟨rfl, rfl⟩
set_option maxHeartbeats 800000 in
theorem Must_no (how : Int) (w : World) : Calls Tryz.prog 65 #[.bool false, .int .i64 how] w fun e w' => e = .panicked (endP how) ∧ w' = w := by
  go_enter Tryz.func65, Tryz.ntmps65
  go_wp2_with fail
  exact ⟨rfl, rfl, rfl⟩
theorem assertN (v : Value) (w : World) : (Instr.typeAssert (.iface 162 v) 155 162 true).run Tryz.prog w = .ok (.tuple #[v, .bool true]) w := by
  simp [Instr.typeAssert, run_underlying Tryz.underlying162]
theorem assertP (v : Value) (w : World) : (Instr.typeAssert (.iface 168 v) 155 168 true).run Tryz.prog w = .ok (.tuple #[v, .bool true]) w := by
  simp [Instr.typeAssert, run_underlying Tryz.underlying168]
set_option maxRecDepth 100000 in
set_option maxHeartbeats 800000 in
theorem numberOf_any (n : Int) (w : World) : Calls Tryz.prog 145 #[.iface 162 (.int .i64 n)] w fun e w' => e = .returned (.int .i64 n) ∧ w' = w := by
  have hta := assertN (.int .i64 n)
  go_enter Tryz.func145, Tryz.ntmps145
  go_wp2_with fail
  refine (Must_yes _ _).mono ?_
  rintro e w1 ⟨rfl, rfl⟩
  go_wp2_with fail
  go_ret
  exact ⟨rfl, rfl⟩
def rangeN (n : Int) : Bool := decide (-1000000000000000 ≤ n) && decide (n ≤ 1000000000000000)
set_option maxHeartbeats 800000 in
theorem InRange_any (n : Int) (w : World) : Calls Tryz.prog 137 #[.int .i64 n] w fun e w' => e = .returned (.bool (rangeN n)) ∧ w' = w := by
  by_cases h1 : -1000000000000000 ≤ n
  · have d1 : decide (-1000000000000000 ≤ n) = true := decide_eq_true h1
    have e : rangeN n = decide (n ≤ 1000000000000000) := by unfold rangeN; rw [d1, Bool.true_and]
    rw [e]
    go_enter Tryz.func137, Tryz.ntmps137
    go_wp2_with fail
    go_ret
    exact ⟨by simp, rfl⟩
  · have d1 : decide (-1000000000000000 ≤ n) = false := decide_eq_false h1
    have e : rangeN n = false := by unfold rangeN; rw [d1, Bool.false_and]
    rw [e]
    go_enter Tryz.func137, Tryz.ntmps137
    go_wp2_with fail
    go_ret
    exact ⟨by simp, rfl⟩
/-- A value, or an end. -/
def ValOr (b : Bool) (v : Value) (how : Int) (w : World) (e : Ending) (w' : World) : Prop := w' = w ∧ e = if b then .returned v else .panicked (endP how)
set_option maxHeartbeats 1600000 in
theorem counted_any (n : Int) (w : World) : Calls Tryz.prog 162 #[.int .i64 n] w (ValOr (rangeN n) (.iface 162 (.int .i64 n)) 6 w) := by
  have IR := hidd (fun w => InRange_any n w)
  cases hq : rangeN n
  · rw [hq] at IR
    clear hq
    go_enter Tryz.func162, Tryz.ntmps162
    go_wp2_with fail
    refine (IR.out _).mono ?_
    rintro e w1 ⟨rfl, rfl⟩
    go_wp2_with fail
    refine (Must_no _ _).mono ?_
    rintro e w1 ⟨rfl, rfl⟩
    go_wp2_with fail
    exact ⟨rfl, rfl, rfl⟩
  · rw [hq] at IR
    clear hq
    go_enter Tryz.func162, Tryz.ntmps162
    go_wp2_with fail
    refine (IR.out _).mono ?_
    rintro e w1 ⟨rfl, rfl⟩
    go_wp2_with fail
    refine (Must_yes _ _).mono ?_
    rintro e w1 ⟨rfl, rfl⟩
    go_wp2_with fail
    go_ret
    exact ⟨rfl, rfl⟩
set_option maxHeartbeats 800000 in
theorem size_any (n : Int) (w : World) (h1 : -1000000000000000 ≤ n) (h2 : n ≤ 1000000000000000) : Calls Tryz.prog 178 #[.int .i64 n] w fun e w' => e = .returned (.int .i64 (n.natAbs : Int)) ∧ w' = w := by
  by_cases h0 : 0 ≤ n
  · have e : ((n.natAbs : Nat) : Int) = n := by omega
    rw [e]
    go_enter Tryz.func178, Tryz.ntmps178
    go_wp2_with fail
    go_ret
    exact ⟨by simp; omega, rfl⟩
  · have e : ((n.natAbs : Nat) : Int) = -n := by omega
    rw [e]
    go_enter Tryz.func178, Tryz.ntmps178
    go_wp2_with fail
    go_ret
    exact ⟨by simp; omega, rfl⟩

/-- The runner's cells behind its texts; where the procedures lie. -/
structure Rc where
  stack : Value
  code : Value
  next : Value
  around : Value
  calls : Value
  protos : Value
  globals : Value
  left : Value
  pb : Nat
  po : Nat
/-- The runner. -/
def RN (rb : Nat) (tv : Value) (gb : Rc) (w : World) : Prop := w.heap[rb]? = some (.cells #[tv, gb.stack, gb.code, gb.next, gb.around, gb.calls, gb.protos, gb.globals, gb.left] 65 (0, 0))
theorem natAbs_mul_le {a b : Int} (h0 : a ≠ 0) : ((b.natAbs : Nat) : Int) ≤ 1000000000000000 / ((a.natAbs : Nat) : Int) ↔ -1000000000000000 ≤ a * b ∧ a * b ≤ 1000000000000000 := by
  have hp : (0 : Int) < ((a.natAbs : Nat) : Int) := by omega
  rw [Int.le_ediv_iff_mul_le hp]
  have e : ((b.natAbs : Nat) : Int) * ((a.natAbs : Nat) : Int) = (((a * b).natAbs : Nat) : Int) := by
    rw [Int.natAbs_mul, Int.natCast_mul, Int.mul_comm]
  rw [e]
  omega
set_option maxRecDepth 100000 in
set_option maxHeartbeats 3200000 in
theorem product_any (a b : Int) (w : World) (h1 : rangeN a = true) (h2 : rangeN b = true) : Calls Tryz.prog 163 #[.int .i64 a, .int .i64 b] w (ValOr (rangeN (a * b)) (.iface 162 (.int .i64 (a * b))) 6 w) := by
  unfold rangeN at h1 h2
  simp only [Bool.and_eq_true, decide_eq_true_eq] at h1 h2
  have SA := hidd (fun w => size_any a w h1.1 h1.2)
  have SB := hidd (fun w => size_any b w h2.1 h2.2)
  by_cases h0 : a = 0
  · subst h0
    have e : rangeN (0 * b) = true := by unfold rangeN; simp
    rw [e]
    clear h1 h2
    go_enter Tryz.func163, Tryz.ntmps163
    go_wp2_with fail
    refine (Must_yes _ _).mono ?_
    rintro e w1 ⟨rfl, rfl⟩
    go_wp2_with fail
    go_ret
    exact ⟨rfl, by simp⟩
  · have hz : (a == 0) = false := by simpa using h0
    have hk := natAbs_mul_le (b := b) h0
    have hna : ((a.natAbs : Nat) : Int) ≠ 0 := by omega
    generalize hx : ((a.natAbs : Nat) : Int) = x at SA hk hna
    generalize hy : ((b.natAbs : Nat) : Int) = y at SB hk
    have hxr : 0 < x ∧ x ≤ 1000000000000000 := by omega
    have hyr : 0 ≤ y ∧ y ≤ 1000000000000000 := by omega
    obtain ⟨d, hd⟩ : ∃ d, d = 1000000000000000 / x := ⟨_, rfl⟩
    have hdv : Int.tdiv 1000000000000000 x = d := by rw [hd]; exact Int.tdiv_eq_ediv_of_nonneg (by omega)
    have hdr : 0 ≤ d ∧ d ≤ 1000000000000000 := by
      rw [hd]
      refine ⟨Int.ediv_nonneg (by omega) (by omega), ?_⟩
      exact Int.ediv_le_self _ (by omega)
    rw [← hd] at hk
    have hx0 : (x == 0) = false := by simp; omega
    clear hx hy h0 hd
    by_cases hr : y ≤ d
    · have hm := hk.1 hr
      have e : rangeN (a * b) = true := by unfold rangeN; simp; exact hm
      rw [e]
      have hr' : decide (y ≤ d) = true := decide_eq_true hr
      clear hk hr
      go_enter Tryz.func163, Tryz.ntmps163
      go_wp2_with fail
      refine (SB.out _).mono ?_
      rintro e w1 ⟨rfl, rfl⟩
      go_wp2_with fail
      refine (SA.out _).mono ?_
      rintro e w1 ⟨rfl, rfl⟩
      go_wp2_with fail
      refine (Must_yes _ _).mono ?_
      rintro e w1 ⟨rfl, rfl⟩
      go_wp2_with fail
      go_ret
      exact ⟨rfl, by simp⟩
    · have e : rangeN (a * b) = false := by
        unfold rangeN
        simp only [Bool.and_eq_false_iff, decide_eq_false_iff_not]
        by_cases h : -1000000000000000 ≤ a * b
        · exact Or.inr (fun h' => hr (hk.2 ⟨h, h'⟩))
        · exact Or.inl h
      rw [e]
      have hr' : decide (y ≤ d) = false := decide_eq_false hr
      clear hk hr
      go_enter Tryz.func163, Tryz.ntmps163
      go_wp2_with fail
      refine (SB.out _).mono ?_
      rintro e w1 ⟨rfl, rfl⟩
      go_wp2_with fail
      refine (SA.out _).mono ?_
      rintro e w1 ⟨rfl, rfl⟩
      go_wp2_with fail
      refine (Must_no _ _).mono ?_
      rintro e w1 ⟨rfl, rfl⟩
      go_wp2_with fail
      exact ⟨rfl, rfl, rfl⟩
/-- Which of the four: sums, differences, products, what is less. -/
def opB : Fin 4 → ByteArray
  | 0 => ⟨#[43]⟩
  | 1 => ⟨#[45]⟩
  | 2 => ⟨#[42]⟩
  | 3 => ⟨#[60]⟩
def opOk (f : Fin 4) (a b : Int) : Bool := match f with | 0 => rangeN (a + b) | 1 => rangeN (a - b) | 2 => rangeN (a * b) | 3 => true
def opV (f : Fin 4) (a b : Int) : Value := match f with | 0 => .iface 162 (.int .i64 (a + b)) | 1 => .iface 162 (.int .i64 (a - b)) | 2 => .iface 162 (.int .i64 (a * b)) | 3 => .iface 163 (.bool (decide (a < b)))
set_option maxRecDepth 100000 in
set_option maxHeartbeats 3200000 in
theorem ofNumbers_any (f : Fin 4) (a b : Int) (w : World) (h1 : rangeN a = true) (h2 : rangeN b = true) : Calls Tryz.prog 144 #[.string (opB f), .int .i64 a, .int .i64 b] w (ValOr (opOk f a b) (opV f a b) 6 w) := by
  have hp := product_any a b w h1 h2
  unfold rangeN at h1 h2
  simp only [Bool.and_eq_true, decide_eq_true_eq] at h1 h2
  have PR := hidd hp
  clear hp
  match f with
  | 0 =>
    have CA := hidd (counted_any (a + b) w)
    show Calls Tryz.prog 144 #[.string ⟨#[43]⟩, .int .i64 a, .int .i64 b] w (ValOr (rangeN (a + b)) (.iface 162 (.int .i64 (a + b))) 6 w)
    generalize rangeN (a + b) = q at CA
    go_enter Tryz.func144, Tryz.ntmps144
    go_wp2_with fail
    refine CA.out.mono ?_
    rintro e w1 ⟨rfl, rfl⟩
    cases q
    · go_wp2_with fail
      exact ⟨rfl, rfl, rfl⟩
    · go_wp2_with fail
      go_ret
      exact ⟨rfl, rfl⟩
  | 1 =>
    have CA := hidd (counted_any (a - b) w)
    show Calls Tryz.prog 144 #[.string ⟨#[45]⟩, .int .i64 a, .int .i64 b] w (ValOr (rangeN (a - b)) (.iface 162 (.int .i64 (a - b))) 6 w)
    generalize rangeN (a - b) = q at CA
    go_enter Tryz.func144, Tryz.ntmps144
    go_wp2_with fail
    refine CA.out.mono ?_
    rintro e w1 ⟨rfl, rfl⟩
    cases q
    · go_wp2_with fail
      exact ⟨rfl, rfl, rfl⟩
    · go_wp2_with fail
      go_ret
      exact ⟨rfl, rfl⟩
  | 2 =>
    show Calls Tryz.prog 144 #[.string ⟨#[42]⟩, .int .i64 a, .int .i64 b] w (ValOr (rangeN (a * b)) (.iface 162 (.int .i64 (a * b))) 6 w)
    generalize rangeN (a * b) = q at PR
    go_enter Tryz.func144, Tryz.ntmps144
    go_wp2_with fail
    refine PR.out.mono ?_
    rintro e w1 ⟨rfl, rfl⟩
    cases q
    · go_wp2_with fail
      exact ⟨rfl, rfl, rfl⟩
    · go_wp2_with fail
      go_ret
      exact ⟨rfl, rfl⟩
  | 3 =>
    show Calls Tryz.prog 144 #[.string ⟨#[60]⟩, .int .i64 a, .int .i64 b] w (ValOr true (.iface 163 (.bool (decide (a < b)))) 6 w)
    go_enter Tryz.func144, Tryz.ntmps144
    go_wp2_with fail
    go_ret
    exact ⟨rfl, rfl⟩

theorem infoVal : (Tryz.prog.info? 155).map (fun i => (i.zero, i.size, i.bytes)) = some (some .nilIface, 1, 16) := by kernel_rfl
theorem made_oneV (n : Nat) (x : Value) : madeCells #[x] n = (List.replicate n x).toArray := by
  unfold madeCells
  apply Array.ext
  · simp
  · intro i h1 h2
    simp [Nat.mod_one]
theorem make_vals (n : Nat) (hn : n ≤ 1000) (w : World) : (Instr.makeSlice 55 (.int .i64 n) (.int .i64 n)).run Tryz.prog w = .ok (.slice (some ⟨w.heap.size, 0, none⟩) n n) (w.alloc (.cells (List.replicate n Value.nilIface).toArray 155)) := by
  obtain ⟨i0, hinf, hz0, hz1, hz2⟩ := info_parts infoVal
  have := run_makeSlice (P := Tryz.prog) w 55 155 i0 .nilIface Tryz.underlying55 hinf hz0 .i64 .i64 n n (by omega) (Int.le_refl _) (by rw [hz1]; simp; omega) (by rw [hz2]; omega) (by omega)
  rw [hz1] at this
  simpa [Value.cells, made_oneV, Value.nilIface] using this
theorem cell_setV {W : World} {N q : Nat} {cs : Array Value} {t : TypeId} (h : W.heap[N]? = some (.cells cs t (0, 0))) (v : Value) : (W.setCell ⟨N, q, none⟩ v).heap[N]? = some (.cells (cs.setIfInBounds q v) t (0, 0)) := heap_setCell_same W N q cs t v h
theorem alloc_lt (w : World) (o : Obj) : w.heap.size < (w.alloc o).heap.size := by
  have h := World.alloc_heap_new w o
  exact (Array.getElem?_eq_some_iff.mp h).1
theorem RN.stay {rb : Nat} {tv : Value} {gb : Rc} {w w' : World} (e : w'.heap[rb]? = w.heap[rb]?) (h : RN rb tv gb w) : RN rb tv gb w' := e.trans h
theorem keepBelow {rb : Nat} {w w' : World} (h : Below w.heap.size w w') : Keep rb w w' := (Keep.refl rb w).below h
set_option maxRecDepth 100000 in
set_option maxHeartbeats 1600000 in
theorem argsOf_any (o : ByteArray) (w : World) : Calls Tryz.prog 124 #[.string o] w fun e w' => e = .returned (.int .i64 (argsB o)) ∧ w' = w := by
  unfold argsB primTab
  simp only [argsTab]
  by_cases h0 : o = ⟨#[99, 97, 114]⟩
  · have e0 : (o.toList == [99, 97, 114]) = true := by rw [h0]; decide +kernel
    rw [if_pos h0]
    clear h0
    go_enter Tryz.func124, Tryz.ntmps124
    go_wp2_with fail
    go_ret
    exact ⟨rfl, rfl⟩
  have e0 : (o.toList == [99, 97, 114]) = false := by have h := beqS_ne h0; simpa [ByteArray.toList_eq] using h
  rw [if_neg h0]
  clear h0
  by_cases h1 : o = ⟨#[99, 100, 114]⟩
  · have e1 : (o.toList == [99, 100, 114]) = true := by rw [h1]; decide +kernel
    rw [if_pos h1]
    clear h1
    go_enter Tryz.func124, Tryz.ntmps124
    go_wp2_with fail
    go_ret
    exact ⟨rfl, rfl⟩
  have e1 : (o.toList == [99, 100, 114]) = false := by have h := beqS_ne h1; simpa [ByteArray.toList_eq] using h
  rw [if_neg h1]
  clear h1
  by_cases h2 : o = ⟨#[110, 111, 116]⟩
  · have e2 : (o.toList == [110, 111, 116]) = true := by rw [h2]; decide +kernel
    rw [if_pos h2]
    clear h2
    go_enter Tryz.func124, Tryz.ntmps124
    go_wp2_with fail
    go_ret
    exact ⟨rfl, rfl⟩
  have e2 : (o.toList == [110, 111, 116]) = false := by have h := beqS_ne h2; simpa [ByteArray.toList_eq] using h
  rw [if_neg h2]
  clear h2
  by_cases h3 : o = ⟨#[110, 117, 108, 108, 63]⟩
  · have e3 : (o.toList == [110, 117, 108, 108, 63]) = true := by rw [h3]; decide +kernel
    rw [if_pos h3]
    clear h3
    go_enter Tryz.func124, Tryz.ntmps124
    go_wp2_with fail
    go_ret
    exact ⟨rfl, rfl⟩
  have e3 : (o.toList == [110, 117, 108, 108, 63]) = false := by have h := beqS_ne h3; simpa [ByteArray.toList_eq] using h
  rw [if_neg h3]
  clear h3
  by_cases h4 : o = ⟨#[111, 117, 116]⟩
  · have e4 : (o.toList == [111, 117, 116]) = true := by rw [h4]; decide +kernel
    rw [if_pos h4]
    clear h4
    go_enter Tryz.func124, Tryz.ntmps124
    go_wp2_with fail
    go_ret
    exact ⟨rfl, rfl⟩
  have e4 : (o.toList == [111, 117, 116]) = false := by have h := beqS_ne h4; simpa [ByteArray.toList_eq] using h
  rw [if_neg h4]
  clear h4
  by_cases h5 : o = ⟨#[112, 97, 105, 114, 63]⟩
  · have e5 : (o.toList == [112, 97, 105, 114, 63]) = true := by rw [h5]; decide +kernel
    rw [if_pos h5]
    clear h5
    go_enter Tryz.func124, Tryz.ntmps124
    go_wp2_with fail
    go_ret
    exact ⟨rfl, rfl⟩
  have e5 : (o.toList == [112, 97, 105, 114, 63]) = false := by have h := beqS_ne h5; simpa [ByteArray.toList_eq] using h
  rw [if_neg h5]
  clear h5
  by_cases h6 : o = ⟨#[42]⟩
  · have e6 : (o.toList == [42]) = true := by rw [h6]; decide +kernel
    rw [if_pos h6]
    clear h6
    go_enter Tryz.func124, Tryz.ntmps124
    go_wp2_with fail
    go_ret
    exact ⟨rfl, rfl⟩
  have e6 : (o.toList == [42]) = false := by have h := beqS_ne h6; simpa [ByteArray.toList_eq] using h
  rw [if_neg h6]
  clear h6
  by_cases h7 : o = ⟨#[43]⟩
  · have e7 : (o.toList == [43]) = true := by rw [h7]; decide +kernel
    rw [if_pos h7]
    clear h7
    go_enter Tryz.func124, Tryz.ntmps124
    go_wp2_with fail
    go_ret
    exact ⟨rfl, rfl⟩
  have e7 : (o.toList == [43]) = false := by have h := beqS_ne h7; simpa [ByteArray.toList_eq] using h
  rw [if_neg h7]
  clear h7
  by_cases h8 : o = ⟨#[45]⟩
  · have e8 : (o.toList == [45]) = true := by rw [h8]; decide +kernel
    rw [if_pos h8]
    clear h8
    go_enter Tryz.func124, Tryz.ntmps124
    go_wp2_with fail
    go_ret
    exact ⟨rfl, rfl⟩
  have e8 : (o.toList == [45]) = false := by have h := beqS_ne h8; simpa [ByteArray.toList_eq] using h
  rw [if_neg h8]
  clear h8
  by_cases h9 : o = ⟨#[60]⟩
  · have e9 : (o.toList == [60]) = true := by rw [h9]; decide +kernel
    rw [if_pos h9]
    clear h9
    go_enter Tryz.func124, Tryz.ntmps124
    go_wp2_with fail
    go_ret
    exact ⟨rfl, rfl⟩
  have e9 : (o.toList == [60]) = false := by have h := beqS_ne h9; simpa [ByteArray.toList_eq] using h
  rw [if_neg h9]
  clear h9
  by_cases h10 : o = ⟨#[61]⟩
  · have e10 : (o.toList == [61]) = true := by rw [h10]; decide +kernel
    rw [if_pos h10]
    clear h10
    go_enter Tryz.func124, Tryz.ntmps124
    go_wp2_with fail
    go_ret
    exact ⟨rfl, rfl⟩
  have e10 : (o.toList == [61]) = false := by have h := beqS_ne h10; simpa [ByteArray.toList_eq] using h
  rw [if_neg h10]
  clear h10
  by_cases h11 : o = ⟨#[99, 111, 110, 115]⟩
  · have e11 : (o.toList == [99, 111, 110, 115]) = true := by rw [h11]; decide +kernel
    rw [if_pos h11]
    clear h11
    go_enter Tryz.func124, Tryz.ntmps124
    go_wp2_with fail
    go_ret
    exact ⟨rfl, rfl⟩
  have e11 : (o.toList == [99, 111, 110, 115]) = false := by have h := beqS_ne h11; simpa [ByteArray.toList_eq] using h
  rw [if_neg h11]
  clear h11
  by_cases h12 : o = ⟨#[101, 113, 63]⟩
  · have e12 : (o.toList == [101, 113, 63]) = true := by rw [h12]; decide +kernel
    rw [if_pos h12]
    clear h12
    go_enter Tryz.func124, Tryz.ntmps124
    go_wp2_with fail
    go_ret
    exact ⟨rfl, rfl⟩
  have e12 : (o.toList == [101, 113, 63]) = false := by have h := beqS_ne h12; simpa [ByteArray.toList_eq] using h
  rw [if_neg h12]
  clear h12
  go_enter Tryz.func124, Tryz.ntmps124
  go_wp2_with fail
  go_ret
  exact ⟨rfl, rfl⟩

theorem ne_type {W : World} {N b : Nat} {cs ds : Array Value} {t u : TypeId} {fz gz : Nat × Nat} (h1 : W.heap[N]? = some (.cells cs t fz)) (h2 : W.heap[b]? = some (.cells ds u gz)) (ht : u ≠ t) : b ≠ N := by
  rintro rfl
  rw [h1] at h2
  simp only [Option.some.injEq, Obj.cells.injEq] at h2
  exact ht h2.2.1.symm
theorem cell_lt {w : World} {G q : Nat} {v : Value} (h : w.cell? ⟨G, q, none⟩ = some v) : G < w.heap.size := by
  by_cases hl : G < w.heap.size
  · exact hl
  · simp [World.cell?, Array.getElem?_eq_none (Nat.le_of_not_lt hl)] at h
theorem add_lit0 (g j : Nat) : (⟨g, 0, none⟩ : Addr).add j = ⟨g, j, none⟩ := by unfold Addr.add; split <;> simp_all
end Go.Proofs.YthikdpclifeonaaGreatDoor.V
