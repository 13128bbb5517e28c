/- Chapter 11: truths are written; how a run ends Chapter 11: what is kept; texts put out; the root frame Chapter 11: the store in memory -/
import Derived.Deep.AppendLies
import Derived.Deep.RegionLaw
import Derived.Lib.ItoaLen
import Derived.Test.YthikdpclifeonaaGreatDoorK27
namespace Go.Proofs.YthikdpclifeonaaGreatDoor.V
section
set_option linter.unusedVariables false
set_option linter.unusedSimpArgs false
open Go.RowKit
open Go.Proofs.YthikdpclifeonaaGreatDoor

def truthB (q : Bool) : List UInt8 := [35, if q then 116 else 102]
theorem assertNo (v : Value) (w : World) : (Instr.typeAssert (.iface 163 v) 155 162 true).run Tryz.prog w = .ok (.tuple #[.int .i64 0, .bool false]) w := by
  obtain ⟨i, hi, hz⟩ := Option.map_eq_some_iff.1 (show (Tryz.prog.info? 162).map (·.zero) = some (some (.int .i64 0)) by kernel_rfl)
  simp [Instr.typeAssert, run_underlying Tryz.underlying162, hi, hz]
theorem assertT (v : Value) (w : World) : (Instr.typeAssert (.iface 163 v) 155 163 true).run Tryz.prog w = .ok (.tuple #[v, .bool true]) w := by
  simp [Instr.typeAssert, run_underlying Tryz.underlying163]
set_option maxRecDepth 100000 in
set_option maxHeartbeats 1600000 in
theorem truth_any (B b : Nat) (k : Int) (q : Bool) (l : List UInt8) (w : World) (h : Wr B b k l w) (hl : l.length ≤ 10000) (hBw : B ≤ w.heap.size) :
    Calls Tryz.prog 160 #[.pointer (some ⟨b, 0, none⟩), .bool q] w fun e w' => e = .returned (.tuple #[]) ∧ Wr B b k (l ++ truthB q) w' ∧ Below B w w' := by
  have WS : Hid (Calls Tryz.prog 159 #[.pointer (some ⟨b, 0, none⟩), .string ⟨(truthB q).toArray⟩] w fun e w' => e = .returned (.tuple #[.int .i64 2, .nilIface]) ∧ Wr B b k (l ++ truthB q) w' ∧ Below B w w') := by
    have := WriteString_any B b k l ⟨(truthB q).toArray⟩ w h (by show l.length + (truthB q).toArray.size ≤ _; simp [truthB]; omega) hBw
    have e : ByteArray.size ⟨(truthB q).toArray⟩ = 2 := by cases q <;> rfl
    rw [e] at this
    exact this
  clear h
  cases q
  · go_enter Tryz.func160, Tryz.ntmps160
    go_wp2_with fail
    refine WS.out.mono ?_
    rintro e w3 ⟨rfl, hw3, hb3⟩
    go_wp2_with fail
    go_end0
    exact ⟨rfl, hw3, hb3⟩
  · go_enter Tryz.func160, Tryz.ntmps160
    go_wp2_with fail
    refine WS.out.mono ?_
    rintro e w3 ⟨rfl, hw3, hb3⟩
    go_wp2_with fail
    go_end0
    exact ⟨rfl, hw3, hb3⟩
set_option maxRecDepth 100000 in
set_option maxHeartbeats 3200000 in
theorem value_truth (B b : Nat) (k : Int) (q : Bool) (l : List UInt8) (w : World) (h : Wr B b k l w) (hk0 : 0 ≤ k) (hk : k ≤ 299) (hl : l.length ≤ 10000) (hBw : B ≤ w.heap.size) :
    Calls Tryz.prog 140 #[.pointer (some ⟨b, 0, none⟩), .iface 163 (.bool q)] w fun e w' => e = .returned (.tuple #[]) ∧ Wr B b (k + 1) (l ++ truthB q) w' ∧ Below B w w' := by
  obtain ⟨hB, c2, z2⟩ := h.parts
  have hta := assertNo (.bool q)
  have htb := assertT (.bool q)
  have hkk : decide (k + 1 ≤ 300) = true := by simp; omega
  have HW := hidd (h.node (k + 1))
  have HB : Hid (Below B w (w.setCell ⟨b, 2, none⟩ (.int .i64 (k + 1)))) := (Below.refl B w).setCell (p := ⟨b, 2, none⟩) hB _
  have HSZ : Hid (B ≤ (w.setCell ⟨b, 2, none⟩ (.int .i64 (k + 1))).heap.size) := by
    have e : (w.setCell ⟨b, 2, none⟩ (.int .i64 (k + 1))).heap.size = w.heap.size := by simp
    exact e ▸ hBw
  have TR := hidd (truth_any B b (k + 1) q l _ HW.out hl HSZ.out)
  clear h
  obtain ⟨W1, hW1⟩ : ∃ W1, W1 = w.setCell ⟨b, 2, none⟩ (.int .i64 (k + 1)) := ⟨_, rfl⟩
  have d2 : W1.cell? ⟨b, 2, none⟩ = some (.int .i64 (k + 1)) := by rw [hW1]; exact HW.out.parts.2.1
  rw [← hW1] at HW HB HSZ TR
  have hw1 := hW1.symm
  clear hW1
  go_enter Tryz.func140, Tryz.ntmps140
  go_wp2_with fail
  refine (Must_yes _ _).mono ?_
  rintro e w1 ⟨rfl, rfl⟩
  go_wp2_with fail
  refine TR.out.mono ?_
  rintro e w3 ⟨rfl, hw3, hb3⟩
  go_wp2_with fail
  go_end0
  exact ⟨rfl, hw3, HB.out.trans hb3⟩

theorem infoStr : (Tryz.prog.info? 9).map (fun i => (i.zero, i.size, i.bytes)) = some (some (.string ⟨#[]⟩), 1, 16) := by kernel_rfl
theorem fresh_Wr (w : World) : Wr w.heap.size w.heap.size 0 [] (w.alloc (.cells #[.pointer none, .slice none 0 0, .int .i64 0] 262)) :=
  Or.inl ⟨Nat.le_refl _, .slice none 0 0, World.alloc_heap_new w _, World.ownsRowF_nil _ _ _ _, by simp [Value.ownBlock]⟩
theorem assert_ended (v : Value) (w : World) : (Instr.typeAssert (.iface 158 v) 20 158 true).run Tryz.prog w = .ok (.tuple #[v, .bool true]) w := by
  simp [Instr.typeAssert, run_underlying Tryz.underlying158]
set_option maxRecDepth 100000 in
set_option maxHeartbeats 800000 in
theorem Ended_any (how : Int) (w : World) :
    Calls Tryz.prog 31 #[.iface 158 (.agg #[.int .i64 how])] w fun e w' => e = .returned (.int .i64 how) ∧ Below w.heap.size w w' := by
  have hta := assert_ended (.agg #[.int .i64 how])
  go_enter Tryz.func31, Tryz.ntmps31
  go_wp2_with fail
  go_ret
  exact ⟨rfl, (Below.refl _ _).alloc (Nat.le_refl _) _⟩
set_option maxRecDepth 100000 in
set_option maxHeartbeats 1600000 in
theorem catch_ended (N : Nat) (how y : Int) (w : World) (hN : N < w.heap.size) (q0 : w.cell? ⟨N, 0, none⟩ = some (.int .i64 y)) (z0 : w.frozen? ⟨N, 0, none⟩ = false) :
    CallsD Tryz.prog 30 #[.pointer (some ⟨N, 0, none⟩)] (.panicking (endP how)) w fun e u' w' =>
      e = .returned (.tuple #[]) ∧ u' = .panicking [{ v := .iface 158 (.agg #[.int .i64 how]), recovered := true }] ∧ ∃ w1, Below w.heap.size w w1 ∧ w' = w1.setCell ⟨N, 0, none⟩ (.int .i64 how) := by
  unfold endP
  refine callsD_of_wpS Tryz.func30 rfl fun c₀ cs hu => ?_
  apply wpS_seq
  apply wpS_region
  simp [wpOpsS, go_sem, recoverD, hu, Tryz.ntmps30, Exit.thenS]
  refine wpS_of_wp ?_
  have harr : #[Value.pointer (some { block := N, off := 0 })] ++ ((Array.replicate 6 undef).setIfInBounds 1 (Value.iface 158 (Value.agg #[Value.int IntKind.i64 how]))).setIfInBounds 0 (Value.iface 158 (Value.agg #[Value.int IntKind.i64 how])) = #[Value.pointer (some { block := N, off := 0 }), Value.iface 158 (Value.agg #[Value.int IntKind.i64 how]), Value.iface 158 (Value.agg #[Value.int IntKind.i64 how]), undef, undef, undef, undef] := rfl
  rw [harr]
  have CA : Hid (∀ w, Calls Tryz.prog 31 #[.iface 158 (.agg #[.int .i64 how])] w fun e w' => e = .returned (.int .i64 how) ∧ Below w.heap.size w w') := fun w => Ended_any how w
  clear harr
  go_wp2_with fail
  refine (CA.out _).mono ?_
  rintro e w1 ⟨rfl, hb⟩
  have p0 := (hb.cell (p := ⟨N, 0, none⟩) hN).trans q0
  have f0 := (hb.frozen (p := ⟨N, 0, none⟩) hN).trans z0
  have HB : Hid (Below w.heap.size w w1) := hb
  clear hb q0 z0 CA
  go_wp2_with fail
  simp [bodyPostS, results, Tryz.results30]
  exact ⟨w1, HB.out, rfl⟩
set_option maxRecDepth 100000 in
set_option maxHeartbeats 1600000 in
theorem catch_idle (N : Nat) (w : World) :
    CallsD Tryz.prog 30 #[.pointer (some ⟨N, 0, none⟩)] .returning w fun e u' w' => e = .returned (.tuple #[]) ∧ u' = .returning ∧ w' = w := by
  refine callsD_of_wpS Tryz.func30 rfl fun c₀ cs hu => ?_
  apply wpS_seq
  apply wpS_region
  simp [wpOpsS, go_sem, recoverD, hu, Tryz.ntmps30, Exit.thenS]
  refine wpS_of_wp ?_
  have harr : #[Value.pointer (some { block := N, off := 0 })] ++ ((Array.replicate 6 undef).setIfInBounds 1 Value.nilIface).setIfInBounds 0 Value.nilIface = #[Value.pointer (some { block := N, off := 0 }), Value.nilIface, Value.nilIface, undef, undef, undef, undef] := rfl
  rw [harr]
  clear harr
  go_wp2_with fail
  cases c₀
  simp_all [bodyPostS, results, Tryz.results30]

theorem equalIn_other (d : Nat) (t u : TypeId) (x y : Value) (h : t ≠ u) (w : World) : (Op.equalIn (d + 1) 155 (.iface t x) (.iface u y)).run Tryz.prog w = .ok false w := by
  simp [Op.equalIn, run_underlying Tryz.underlying155, h]
theorem assertPrP (v : Value) (w : World) : (Instr.typeAssert (.iface 243 v) 155 243 true).run Tryz.prog w = .ok (.tuple #[v, .bool true]) w := by
  simp [Instr.typeAssert, run_underlying Tryz.underlying243]
theorem itoa_short (n : Int) (h : rangeN n = true) : (Lib.itoa n).length ≤ 100 := by
  unfold rangeN at h
  simp only [Bool.and_eq_true, decide_eq_true_eq] at h
  have := Lib.itoa_length_le n (by omega) (by omega)
  omega
theorem decDigits_some (u : Nat) : Lib.decDigits u ≠ [] := by
  rw [Lib.decDigits]
  split <;> simp
theorem itoa_some (n : Int) : Lib.itoa n ≠ [] := by
  unfold Lib.itoa
  split
  · simp
  · exact decDigits_some _
end
section
set_option linter.unusedVariables false
set_option linter.unusedSimpArgs false
open Go.RowKit
open Go.Proofs.YthikdpclifeonaaGreatDoor

/-- All is kept but the runner, and rows of texts from B on. -/
structure KT (B rb : Nat) (w w' : World) : Prop where
  os : w'.os = w.os
  tape : w'.tape = w.tape
  output : w'.output = w.output
  size : w.heap.size ≤ w'.heap.size
  block : ∀ k, k < w.heap.size → k ≠ rb → (∀ cs fz, w.heap[k]? = some (.cells cs 9 fz) → k < B) → w'.heap[k]? = w.heap[k]?
theorem KT.refl (B rb : Nat) (w : World) : KT B rb w w := ⟨rfl, rfl, rfl, Nat.le_refl _, fun _ _ _ _ => rfl⟩
theorem KT.trans {B rb : Nat} {a b c : World} (h : KT B rb a b) (k : KT B rb b c) : KT B rb a c :=
  ⟨k.os.trans h.os, k.tape.trans h.tape, k.output.trans h.output, Nat.le_trans h.size k.size, fun i hi hr hc => by
    have e := h.block i hi hr hc
    exact (k.block i (Nat.lt_of_lt_of_le hi h.size) hr (fun cs fz hx => hc cs fz (e.symm.trans hx))).trans e⟩
theorem KT.ofKeep {B rb : Nat} {w w' : World} (h : Keep rb w w') : KT B rb w w' := ⟨h.os, h.tape, h.output, h.size, fun k hk hr _ => h.block k hk (by simpa using hr)⟩
theorem KT.ofBelow {B rb : Nat} {w w' : World} (h : Below w.heap.size w w') : KT B rb w w' := ⟨h.os, h.tape, h.output, h.size, fun k hk _ _ => h.block k hk⟩
theorem KT.toBelow {B rb : Nat} {w w' : World} (h : KT B rb w w') (hB : B ≤ rb) (hs : B ≤ w.heap.size) : Below B w w' := ⟨h.os, h.tape, h.output, h.size, fun k hk => h.block k (by omega) (by omega) (fun _ _ _ => hk)⟩
theorem KT.at {B rb : Nat} {w w' : World} (h : KT B rb w w') {k : Nat} {cs : Array Value} {t : TypeId} {fz : Nat × Nat} (hk : w.heap[k]? = some (.cells cs t fz)) (ht : t ≠ 9) (hr : k ≠ rb) : w'.heap[k]? = some (.cells cs t fz) := by
  refine (h.block k (Array.getElem?_eq_some_iff.1 hk).1 hr (fun cs' fz' hx => ?_)).trans hk
  rw [hk] at hx
  simp only [Option.some.injEq, Obj.cells.injEq] at hx
  exact absurd hx.2.1 ht
def strV (s : List UInt8) : Value := .string ⟨s.toArray⟩
/-- The runner, with the texts that it put out. -/
def RT (B rb : Nat) (txs : List (List UInt8)) (gb : Rc) (W : World) : Prop := ∃ tv, RN rb tv gb W ∧ W.ownsRow B 9 1 tv txs.length (txs.map strV)
theorem own_slice {w : World} {base size n : Nat} {e : TypeId} {v : Value} {xs : List Value} (h : w.ownsRow base e size v n xs) : ∃ va vc, v = .slice va n vc ∧ n ≤ vc := by
  rcases h.2 with ⟨rfl, rfl⟩ | ⟨g, cap, cur, rfl, hbg, hg, hnc, hcm, hcs, htake⟩
  · exact ⟨none, 0, rfl, Nat.le_refl _⟩
  · exact ⟨_, cap, rfl, hnc⟩
theorem own_type {w : World} {base size n : Nat} {e : TypeId} {v : Value} {xs : List Value} (h : w.ownsRow base e size v n xs) : ∀ g, v.ownBlock = some g → base ≤ g ∧ g < w.heap.size ∧ ∃ cs, w.heap[g]? = some (.cells cs e (0, 0)) := by
  rcases h.2 with ⟨rfl, rfl⟩ | ⟨g, cap, cur, rfl, hbg, hg, hnc, hcm, hcs, htake⟩
  · intro g hg; cases hg
  · intro k hk
    simp [Value.ownBlock] at hk
    subst hk
    exact ⟨hbg, (Array.getElem?_eq_some_iff.1 hg).1, cur, hg⟩
theorem own_ne {w : World} {B rb : Nat} {v tv : Value} {n : Nat} {xs : List Value} {gb : Rc} (h : w.ownsRow B 9 1 v n xs) (hr : RN rb tv gb w) : v.ownBlock ≠ some rb := by
  intro e
  obtain ⟨_, _, cs, hc⟩ := own_type h rb e
  rw [show w.heap[rb]? = _ from hr] at hc
  simp at hc
/-- Behind a change that leaves the runner and its texts' row as they are. -/
theorem RT.stay {B rb : Nat} {txs : List (List UInt8)} {gb : Rc} {W W' : World} (h : RT B rb txs gb W) (hs : W.heap.size ≤ W'.heap.size) (ho : W'.os = W.os) (ht : W'.tape = W.tape) (hp : W'.output = W.output)
    (hb : ∀ k, k < W.heap.size → k = rb ∨ (∃ cs fz, W.heap[k]? = some (.cells cs 9 fz)) → W'.heap[k]? = W.heap[k]?) : RT B rb txs gb W' := by
  obtain ⟨tv, h1, h2⟩ := h
  refine ⟨tv, (hb rb (Array.getElem?_eq_some_iff.1 h1).1 (Or.inl rfl)).trans h1, ?_⟩
  refine ⟨h2.1, ?_⟩
  rcases h2.2 with ⟨rfl, hn⟩ | ⟨g, cap, cur, hv, hbg, hg, r⟩
  · exact Or.inl ⟨rfl, hn⟩
  · exact Or.inr ⟨g, cap, cur, hv, hbg, (hb g (Array.getElem?_eq_some_iff.1 hg).1 (Or.inr ⟨cur, _, hg⟩)).trans hg, r⟩
theorem RT.below {B rb : Nat} {txs : List (List UInt8)} {gb : Rc} {W W' : World} (h : RT B rb txs gb W) (hb : Below W.heap.size W W') : RT B rb txs gb W' := h.stay hb.size hb.os hb.tape hb.output (fun k hk _ => hb.block k hk)
/-- A cell of a block of another type is set. -/
theorem RT.set {B rb N q : Nat} {txs : List (List UInt8)} {gb : Rc} {v : Value} {W : World} {cs : Array Value} {t : TypeId} (h : RT B rb txs gb W) (hN : W.heap[N]? = some (.cells cs t (0, 0))) (ht : t ≠ 9) (hr : N ≠ rb) : RT B rb txs gb (W.setCell ⟨N, q, none⟩ v) := by
  refine h.stay (by simp) rfl rfl rfl (fun k hk hc => Below.heap_setCell _ _ _ _ ?_)
  rintro rfl
  rcases hc with hc | ⟨cs', fz, hc⟩
  · exact hr hc
  · rw [hN] at hc
    simp only [Option.some.injEq, Obj.cells.injEq] at hc
    exact ht hc.2.1
theorem put_last {B rb : Nat} {txs : List (List UInt8)} {gb : Rc} {tv : Value} {s : List UInt8} {w w3 w4 : World} {g cap : Nat} (hr : RN rb tv gb w) (ho : w.ownsRow B 9 1 tv txs.length (txs.map strV)) (hb : Below w.heap.size w w3)
    (hown : w4.ownsRow B 9 1 (.slice (some ⟨g, 0, none⟩) (txs.length + 1) cap) (txs.length + 1) (txs.map strV ++ [strV s])) (hgrow : (w3.alloc (.cells #[strV s] 9)).grownBy w4 tv.ownBlock) :
    KT B rb w (w4.setCell ⟨rb, 0, none⟩ (.slice (some ⟨g, 0, none⟩) (txs.length + 1) cap)) ∧ RT B rb (txs ++ [s]) gb (w4.setCell ⟨rb, 0, none⟩ (.slice (some ⟨g, 0, none⟩) (txs.length + 1) cap)) := by
  have hne := own_ne ho hr
  have hrb : rb < w.heap.size := (Array.getElem?_eq_some_iff.1 hr).1
  have hba : Below w.heap.size w (w3.alloc (.cells #[strV s] 9)) := hb.alloc hb.size _
  have hR4 : RN rb tv gb w4 := (hgrow.block rb (Nat.lt_of_lt_of_le hrb hba.size) (fun e => hne e.symm)).trans ((hba.block rb hrb).trans hr)
  have hk4 : KT B rb w w4 := by
    refine ⟨hgrow.os.trans hba.os, hgrow.tape.trans hba.tape, hgrow.output.trans hba.output, Nat.le_trans hba.size hgrow.size, fun k hk hkr hc => ?_⟩
    refine (hgrow.block k (Nat.lt_of_lt_of_le hk hba.size) (fun e => ?_)).trans (hba.block k hk)
    obtain ⟨g1, _, cs, g2⟩ := own_type ho k e.symm
    have := hc cs _ g2
    omega
  refine ⟨hk4.trans (KT.ofKeep ((Keep.refl rb w4).setCell _ rfl _)), _, cell_setV hR4 _, ?_⟩
  have hne4 := own_ne hown hR4
  have := hown.kept (w' := w4.setCell ⟨rb, 0, none⟩ (.slice (some ⟨g, 0, none⟩) (txs.length + 1) cap)) (row := some rb) ⟨rfl, rfl, rfl, by simp [World.setCell], fun k _ hk => Below.heap_setCell _ _ _ _ (fun e => hk (by simp [e]))⟩ (Or.inr hne4)
  simpa [List.map_append] using this
theorem own_below {w w' : World} {B n : Nat} {v : Value} {xs : List Value} (h : w.ownsRow B 9 1 v n xs) (hb : Below w.heap.size w w') : w'.ownsRow B 9 1 v n xs :=
  h.kept (row := none) ⟨hb.os, hb.tape, hb.output, hb.size, fun k hk _ => hb.block k hk⟩ (by cases v.ownBlock <;> simp)
theorem cell_alloc {w : World} {G q : Nat} {v : Value} (A : Obj) (h : w.cell? ⟨G, q, none⟩ = some v) : (w.alloc A).cell? ⟨G, q, none⟩ = some v :=
  (((Below.refl w.heap.size w).alloc (Nat.le_refl _) A).cell (p := ⟨G, q, none⟩) (cell_lt h)).trans h
theorem one_news (w : World) (v : Value) : ∀ j u, [v][j]? = some u → (w.alloc (.cells #[v] 9)).cell? ((⟨w.heap.size, 0, none⟩ : Addr).add j) = some u := by
  intro j u hj
  rw [add_lit0]
  match j, hj with
  | 0, hj =>
    simp at hj
    subst hj
    exact (cellO (World.alloc_heap_new w _)).trans rfl
theorem one_one (s : List UInt8) : ∀ u ∈ [strV s], u.oneCell' = true := by
  intro u hu
  simp at hu
  subst hu
  rfl
theorem RN.grown {rb : Nat} {tv : Value} {gb : Rc} {s : List UInt8} {w w3 w4 : World} (hr : RN rb tv gb w) (hne : tv.ownBlock ≠ some rb) (hb : Below w.heap.size w w3) (hgrow : (w3.alloc (.cells #[strV s] 9)).grownBy w4 tv.ownBlock) : RN rb tv gb w4 := by
  have hrb : rb < w.heap.size := (Array.getElem?_eq_some_iff.1 hr).1
  have hba : Below w.heap.size w (w3.alloc (.cells #[strV s] 9)) := hb.alloc hb.size _
  exact (hgrow.block rb (Nat.lt_of_lt_of_le hrb hba.size) (fun e => hne e.symm)).trans ((hba.block rb hrb).trans hr)
theorem cell_grown {rb : Nat} {tv : Value} {gb : Rc} {s : List UInt8} {w w3 w4 : World} (hr : RN rb tv gb w) (hne : tv.ownBlock ≠ some rb) (hb : Below w.heap.size w w3) (hgrow : (w3.alloc (.cells #[strV s] 9)).grownBy w4 tv.ownBlock) : w4.cell? ⟨rb, 0, none⟩ = some tv :=
  (cellO (RN.grown hr hne hb hgrow)).trans rfl
theorem loose_grown {rb : Nat} {tv : Value} {gb : Rc} {s : List UInt8} {w w3 w4 : World} (hr : RN rb tv gb w) (hne : tv.ownBlock ≠ some rb) (hb : Below w.heap.size w w3) (hgrow : (w3.alloc (.cells #[strV s] 9)).grownBy w4 tv.ownBlock) : w4.frozen? ⟨rb, 0, none⟩ = false :=
  looseO (RN.grown hr hne hb hgrow)
theorem KT.setNew {B rb : Nat} {a b : World} (h : KT B rb a b) (p : Addr) (hp : a.heap.size ≤ p.block) (v : Value) : KT B rb a (b.setCell p v) :=
  ⟨h.os, h.tape, h.output, by have := h.size; simp; omega, fun k hk hr hc => (Below.heap_setCell _ _ _ _ (by simp; omega)).trans (h.block k hk hr hc)⟩
/-- The frame that is around a body. -/
def RF (fb : Nat) (w : World) : Prop := w.heap[fb]? = some (.cells #[.slice none 0 0, .int .i64 0, .int .i64 0, .pointer none, .pointer none] 114 (0, 0))
set_option maxRecDepth 100000 in
set_option maxHeartbeats 1600000 in
theorem leap_root (fb : Nat) (w : World) (h : RF fb w) : Calls Tryz.prog 128 #[.pointer (some ⟨fb, 0, none⟩)] w fun e w' => e = .returned (.pointer (some ⟨fb, 0, none⟩)) ∧ w' = w := by
  have c2 : w.cell? ⟨fb, 2, none⟩ = some (.int .i64 0) := (cellO h).trans rfl
  clear h
  go_enter Tryz.func128, Tryz.ntmps128
  go_wp2_with fail
  go_ret
  exact ⟨rfl, rfl⟩
set_option maxRecDepth 100000 in
set_option maxHeartbeats 3200000 in
theorem With_root (fb N o k c : Nat) (w : World) (h : RF fb w) (hk : k ≤ 1000) : Calls Tryz.prog 109 #[.pointer (some ⟨fb, 0, none⟩), .slice (some ⟨N, o, none⟩) k c] w fun e w' => ∃ g, e = .returned (.pointer (some ⟨g, 0, none⟩)) ∧ Below w.heap.size w w' := by
  have c1 : w.cell? ⟨fb, 1, none⟩ = some (.int .i64 0) := (cellO h).trans rfl
  have c2 : w.cell? ⟨fb, 2, none⟩ = some (.int .i64 0) := (cellO h).trans rfl
  have HL : Hid (∀ W, Below w.heap.size w W → Calls Tryz.prog 128 #[.pointer (some ⟨fb, 0, none⟩)] W fun e w' => e = .returned (.pointer (some ⟨fb, 0, none⟩)) ∧ w' = W) := fun W hb => leap_root fb W ((hb.block fb (Array.getElem?_eq_some_iff.1 h).1).trans h)
  clear h
  by_cases h0 : k = 0
  · subst h0
    go_enter Tryz.func109, Tryz.ntmps109
    go_wp2_with fail
    go_ret
    exact ⟨fb, rfl, Below.refl _ _⟩
  · have hd : ((k : Int) == 0) = false := by simp; omega
    have hd' : ¬ ((k : Int) = 0) := by omega
    go_enter Tryz.func109, Tryz.ntmps109
    go_wp2_with fail
    go_region_with (go_at_call 128; refine (HL.out _ (Below.drew (Below.refl _ _))).mono ?_; rintro e w2 ⟨rfl, rfl⟩)
    all_goals
      go_wp2_with fail
      go_ret
      exact ⟨_, rfl, (Below.drew (Below.refl _ _)).alloc (Nat.le_refl _) _⟩
end
section
set_option linter.unusedVariables false
set_option linter.unusedSimpArgs false
open Go.RowKit
open Go.Proofs.YthikdpclifeonaaGreatDoor

/-- Where pairs, procedures and rows of parameters lie. -/
structure Mm where
  pr : List Nat
  pc : List Nat
  rw : List Nat
def vT : Val → TypeId
  | .num _ => 162
  | .tru _ => 163
  | .sym _ => 220
  | .nil => 242
  | .pair _ => 243
  | .prim _ => 168
  | .proc _ => 169
def vX (m : Mm) : Val → Value
  | .num n => .int .i64 n
  | .tru b => .bool b
  | .sym s => .string s
  | .nil => .agg #[]
  | .pair i => .pointer (some ⟨m.pr.getD i 0, 0, none⟩)
  | .prim s => .string s
  | .proc i => .pointer (some ⟨m.pc.getD i 0, 0, none⟩)
def vV (m : Mm) (v : Val) : Value := .iface (vT v) (vX m v)
/-- Data whose names are short, and whose numbers there are. -/
inductive SmD : Dat → Prop
  | mk (d : Dat) : (d.kind = 1 ∨ d.kind = 2 ∨ d.kind = 3 ∨ d.kind = 4) → (d.kind = 3 → d.name.size ≤ 100 ∧ d.name.size ≠ 0) → (d.kind = 1 → inR d.n = true) → (d.kind = 4 → ∀ k ∈ d.kids, SmD k) → SmD d
/-- A value of what was made. -/
def VOk (m : Mm) : Val → Prop
  | .num n => inR n = true
  | .sym s => s.size ≤ 100 ∧ s.size ≠ 0
  | .pair i => i < m.pr.length
  | .proc i => i < m.pc.length
  | .prim s => argsB s ≠ 0
  | _ => True
/-- More was made. -/
structure MmX (m m' : Mm) : Prop where
  pr : ∃ l, m'.pr = m.pr ++ l
  pc : ∃ l, m'.pc = m.pc ++ l
  rw : ∃ l, m'.rw = m.rw ++ l
theorem MmX.refl (m : Mm) : MmX m m := ⟨⟨[], by simp⟩, ⟨[], by simp⟩, ⟨[], by simp⟩⟩
theorem MmX.trans {a b c : Mm} (h : MmX a b) (k : MmX b c) : MmX a c := by
  obtain ⟨⟨l1, e1⟩, ⟨l2, e2⟩, ⟨l3, e3⟩⟩ := h
  obtain ⟨⟨r1, f1⟩, ⟨r2, f2⟩, ⟨r3, f3⟩⟩ := k
  exact ⟨⟨l1 ++ r1, by rw [f1, e1, List.append_assoc]⟩, ⟨l2 ++ r2, by rw [f2, e2, List.append_assoc]⟩, ⟨l3 ++ r3, by rw [f3, e3, List.append_assoc]⟩⟩
theorem getD_app {l r : List Nat} {i : Nat} (h : i < l.length) : (l ++ r).getD i 0 = l.getD i 0 := by
  simp [List.getD, List.getElem?_append_left h]
theorem VOk.up {m m' : Mm} {v : Val} (h : VOk m v) (x : MmX m m') : VOk m' v := by
  cases v with
  | pair i => obtain ⟨l, e⟩ := x.pr; show i < m'.pr.length; have h' : i < m.pr.length := h; rw [e, List.length_append]; omega
  | proc i => obtain ⟨l, e⟩ := x.pc; show i < m'.pc.length; have h' : i < m.pc.length := h; rw [e, List.length_append]; omega
  | num n => exact h
  | sym s => exact h
  | prim s => exact h
  | _ => trivial
theorem vX_up {m m' : Mm} {v : Val} (h : VOk m v) (x : MmX m m') : vX m' v = vX m v := by
  cases v with
  | pair i => obtain ⟨l, e⟩ := x.pr; show Value.pointer _ = Value.pointer _; rw [e, getD_app h]
  | proc i => obtain ⟨l, e⟩ := x.pc; show Value.pointer _ = Value.pointer _; rw [e, getD_app h]
  | _ => rfl
theorem vV_up {m m' : Mm} {v : Val} (h : VOk m v) (x : MmX m m') : vV m' v = vV m v := by
  unfold vV
  rw [vX_up h x]
/-- A pair in memory. -/
def PM (B : Nat) (m : Mm) (w : World) (k : Nat) : PairS → Prop
  | .made a b => VOk m a ∧ VOk m b ∧ w.heap[k]? = some (.cells #[vV m a, vV m b, .slice none 0 0] 245 (0, 0))
  | .unmade d ds => ∃ b o c g, w.heap[k]? = some (.cells #[.nilIface, .nilIface, .slice (some ⟨b, o, none⟩) (ds.length + 1) c] 245 (0, 0)) ∧ b < B ∧ Dc (fun k => k < B) w g (some ⟨b, o, none⟩) (d :: ds) ∧ ds.length + 1 ≤ c ∧ ∀ x ∈ d :: ds, SmD x
/-- How many parameters there are in rows. -/
def cnt (rows : List (List Val)) : List Nat → Nat
  | [] => 0
  | r :: e => (rows.getD r []).length + cnt rows e
/-- A frame in memory, and those around it. -/
inductive Fr (w : World) (m : Mm) (rows : List (List Val)) : Nat → List Nat → Prop
  | root (fp : Nat) : RF fp w → Fr w m rows fp []
  | step (fp ar far r cp : Nat) (e e' : List Nat) : (r < rows.length ∧ 0 < (rows.getD r []).length) → r < m.rw.length →
      w.heap[fp]? = some (.cells #[.slice (some ⟨m.rw.getD r 0, 0, none⟩) (rows.getD r []).length cp, .int .i64 ((cnt rows (r :: e) : Nat) : Int), .int .i64 ((e.length + 1 : Nat) : Int), .pointer (some ⟨ar, 0, none⟩), .pointer (some ⟨far, 0, none⟩)] 114 (0, 0)) →
      Fr w m rows ar e → Fr w m rows far e' → (∃ t, e = t ++ e') → Fr w m rows fp (r :: e)
/-- The store in memory. -/
structure Rel (B rb : Nat) (gb : Rc) (m : Mm) (σ : St) (w : World) : Prop where
  run : RT B rb σ.out gb w
  hB : B ≤ rb
  hg : True
  lp : m.pr.length = σ.pairs.length
  lc : m.pc.length = σ.procs.length
  lr : m.rw.length = σ.rows.length
  np : m.pr.Nodup
  nr : m.rw.Nodup
  nc : m.pc.Nodup
  bp : ∀ k ∈ m.pr, B ≤ k
  br : ∀ k ∈ m.rw, B ≤ k
  bc : ∀ k ∈ m.pc, B ≤ k
  pr : ∀ (i k : Nat) (p : PairS), σ.pairs[i]? = some p → m.pr[i]? = some k → PM B m w k p
  pc : ∀ (i k : Nat) (q : ProcS), σ.procs[i]? = some q → m.pc[i]? = some k → ∃ fp, w.heap[k]? = some (.cells #[.pointer (some ⟨gb.pb, gb.po + 2 * q.proto, none⟩), .pointer (some ⟨fp, 0, none⟩)] 172 (0, 0)) ∧ Fr w m σ.rows fp q.env
  rw : ∀ (r k : Nat) (vs : List Val), σ.rows[r]? = some vs → m.rw[r]? = some k → (∀ v ∈ vs, VOk m v) ∧ ∃ c0 : Array Value, w.heap[k]? = some (.cells ((vs.map (vV m)).toArray ++ c0) 155 (0, 0))
  gl : True
/-- What is kept: all but what the store has. -/
structure KR (B rb : Nat) (gb : Rc) (m : Mm) (w w' : World) : Prop where
  os : w'.os = w.os
  tape : w'.tape = w.tape
  output : w'.output = w.output
  size : w.heap.size ≤ w'.heap.size
  block : ∀ k, k < w.heap.size → k ≠ rb → True → k ∉ m.pr → k ∉ m.rw → (∀ cs fz, w.heap[k]? = some (.cells cs 9 fz) → k < B) → w'.heap[k]? = w.heap[k]?
theorem KR.refl (B rb : Nat) (gb : Rc) (m : Mm) (w : World) : KR B rb gb m w w := ⟨rfl, rfl, rfl, Nat.le_refl _, fun _ _ _ _ _ _ _ => rfl⟩
theorem KR.ofBelow {B rb : Nat} {gb : Rc} {m : Mm} {w w' : World} (h : Below w.heap.size w w') : KR B rb gb m w w' := ⟨h.os, h.tape, h.output, h.size, fun k hk _ _ _ _ _ => h.block k hk⟩
/-- What is new lies behind what was there. -/
structure New (m m' : Mm) (w : World) : Prop where
  x : MmX m m'
  pr : ∀ k ∈ m'.pr, k ∈ m.pr ∨ w.heap.size ≤ k
  rw : ∀ k ∈ m'.rw, k ∈ m.rw ∨ w.heap.size ≤ k
theorem New.refl (m : Mm) (w : World) : New m m w := ⟨MmX.refl m, fun k h => Or.inl h, fun k h => Or.inl h⟩
theorem KR.trans {B rb : Nat} {gb : Rc} {m m' : Mm} {a b c : World} (h : KR B rb gb m a b) (n : New m m' a) (k : KR B rb gb m' b c) : KR B rb gb m a c :=
  ⟨k.os.trans h.os, k.tape.trans h.tape, k.output.trans h.output, Nat.le_trans h.size k.size, fun i hi h1 h2 h3 h4 h5 => by
    have e := h.block i hi h1 h2 h3 h4 h5
    refine (k.block i (Nat.lt_of_lt_of_le hi h.size) h1 h2 (fun hm => ?_) (fun hm => ?_) (fun cs fz hx => h5 cs fz (e.symm.trans hx))).trans e
    · rcases n.pr i hm with q | q
      · exact h3 q
      · omega
    · rcases n.rw i hm with q | q
      · exact h4 q
      · omega⟩
theorem New.trans {m m' m'' : Mm} {a b : World} (h : New m m' a) (k : New m' m'' b) (hs : a.heap.size ≤ b.heap.size) : New m m'' a :=
  ⟨h.x.trans k.x, fun i hi => by
    rcases k.pr i hi with q | q
    · exact h.pr i q
    · exact Or.inr (by omega), fun i hi => by
    rcases k.rw i hi with q | q
    · exact h.rw i q
    · exact Or.inr (by omega)⟩
theorem KR.toBelow {B rb : Nat} {gb : Rc} {m : Mm} {σ : St} {w w' : World} (h : KR B rb gb m w w') (r : Rel B rb gb m σ w) (hs : B ≤ w.heap.size) : Below B w w' :=
  ⟨h.os, h.tape, h.output, h.size, fun k hk => h.block k (by omega) (by have := r.hB; omega) trivial (fun q => by have := r.bp k q; omega) (fun q => by have := r.br k q; omega) (fun _ _ _ => hk)⟩
end
end Go.Proofs.YthikdpclifeonaaGreatDoor.V
