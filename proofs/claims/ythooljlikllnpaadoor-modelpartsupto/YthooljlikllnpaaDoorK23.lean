/- Chapter 7: ModelSums: its function fits; the law's walk. Chapter 7: package value: one text more is put out; what is kept of memory while a run puts out. Chapter 7: package value: one text more is put out. -/
import Derived.Deep.AppendLies
import Derived.Deep.RegionLaw
import Derived.Test.YthooljlikllnpaaDoorK22
namespace Go.Proofs.YthooljlikllnpaaDoor
section
set_option linter.unusedVariables false
set_option linter.unusedSimpArgs false
open Go.RowKit

set_option maxRecDepth 100000 in
set_option maxHeartbeats 800000 in
theorem Num_any (n : Int) (w : World) : Calls Tryd.prog 18 #[.int .i64 n] w fun e w' => e = .returned (.agg #[.int .i64 1, .int .i64 n, .string ⟨#[]⟩, .int .i64 0, .int .i64 0, .slice none 0 0]) ∧ Below w.heap.size w w' := by
  go_enter Tryd.func18, Tryd.ntmps18
  go_wp2_with fail
  exact bodyPost_ret (v := .agg #[.int .i64 1, .int .i64 n, .string ⟨#[]⟩, .int .i64 0, .int .i64 0, .slice none 0 0]) (by simp [results, Tryd.results18, go_sem]) rfl ⟨rfl, (Below.refl _ _).alloc (Nat.le_refl _) _⟩
set_option maxRecDepth 100000 in
set_option maxHeartbeats 1600000 in
theorem Text_num (T : Nat) (n : Int) (h0 : -9223372036854775808 ≤ n) (h1 : n ≤ 9223372036854775807) (w : World) (ht : Tab T w) (hT : T ≤ w.heap.size) : Calls Tryd.prog 17 #[.agg #[.int .i64 1, .int .i64 n, .string ⟨#[]⟩, .int .i64 0, .int .i64 0, .slice none 0 0]] w fun e w' => e = .returned (.string ⟨(Lib.itoa n).toArray⟩) ∧ Below w.heap.size w w' := by
  have HB : Hid (Below w.heap.size w (w.alloc (.cells #[.int .i64 1, .int .i64 n, .string ⟨#[]⟩, .int .i64 0, .int .i64 0, .slice none 0 0] 43))) := (Below.refl _ _).alloc (Nat.le_refl _) _
  have FI := hidd (FormatInt_any T n h0 h1 _ (ht.below (HB.out.mono hT)))
  generalize Lib.itoa n = s at *
  clear ht hT h0 h1
  go_enter Tryd.func17, Tryd.ntmps17
  go_wp2_with fail
  refine FI.out.mono ?_
  rintro e w1 ⟨rfl, hb1⟩
  go_wp2_with fail
  go_ret
  exact ⟨rfl, HB.out.trans (hb1.mono HB.out.size)⟩
set_option maxRecDepth 100000 in
set_option maxHeartbeats 1600000 in
theorem fits_true (T : Nat) (n : Int) (h0 : -9223372036854775808 ≤ n) (h1 : n ≤ 9223372036854775807) (w : World) (ht : Tab T w) (hT : T ≤ w.heap.size) :
    Calls Tryd.prog 20 #[.int .i64 n, .string ⟨(if rangeN n then Lib.itoa n else []).toArray⟩, .int .i64 (if rangeN n then 1 else 6)] w fun e w' => e = .returned (.bool true) ∧ Below w.heap.size w w' := by
  have HN := hidd (Num_any n)
  have HX : Hid (∀ W, Below w.heap.size w W → Calls Tryd.prog 17 #[.agg #[.int .i64 1, .int .i64 n, .string ⟨#[]⟩, .int .i64 0, .int .i64 0, .slice none 0 0]] W fun e w' => e = .returned (.string ⟨(Lib.itoa n).toArray⟩) ∧ Below W.heap.size W w') := fun W hb => Text_num T n h0 h1 W (ht.below (hb.mono hT)) (Nat.le_trans hT hb.size)
  generalize Lib.itoa n = s at *
  clear ht hT h0 h1
  cases hr : rangeN n
  · unfold rangeN at hr
    by_cases hg : n > 1000000000000000
    · have d1 : decide (n > 1000000000000000) = true := by simpa using hg
      have d1' : decide (1000000000000000 < n) = true := by simpa using hg
      clear hr hg
      go_enter Tryd.func20, Tryd.ntmps20
      go_wp2_with fail
      go_ret
      exact ⟨rfl, Below.refl _ _⟩
    · have hl : n < -1000000000000000 := by
        simp only [Bool.and_eq_false_iff, decide_eq_false_iff_not] at hr
        omega
      have d1 : decide (n > 1000000000000000) = false := by simpa using hg
      have d1' : decide (1000000000000000 < n) = false := by simpa using hg
      have d2 : decide (n < -1000000000000000) = true := by simpa using hl
      clear hr hg hl
      go_enter Tryd.func20, Tryd.ntmps20
      go_wp2_with fail
      go_ret
      exact ⟨rfl, Below.refl _ _⟩
  · unfold rangeN at hr
    simp only [Bool.and_eq_true, decide_eq_true_eq] at hr
    have d1 : decide (n > 1000000000000000) = false := by simp; omega
    have d1' : decide (1000000000000000 < n) = false := by simp; omega
    have d2 : decide (n < -1000000000000000) = false := by simp; omega
    clear hr
    go_enter Tryd.func20, Tryd.ntmps20
    go_wp2_with fail
    refine (HN.out _).mono ?_
    rintro e w1 ⟨rfl, hb1⟩
    go_wp2_with fail
    refine (HX.out _ hb1).mono ?_
    rintro e w2 ⟨rfl, hb2⟩
    go_wp2_with fail
    go_ret
    exact ⟨rfl, hb1.trans (hb2.mono hb1.size)⟩
end
section
set_option linter.unusedVariables false
set_option linter.unusedSimpArgs false
open Go.RowKit

/-- All is kept but the runner, and rows of texts from B on. -/
structure KT (B rb : Nat) (w w' : World) : Prop where
  os : w'.os = w.os
  tape : w'.tape = w.tape
  output : w'.output = w.output
  size : w.heap.size ≤ w'.heap.size
  block : ∀ k, k < w.heap.size → k ≠ rb → (∀ cs fz, w.heap[k]? = some (.cells cs 9 fz) → k < B) → w'.heap[k]? = w.heap[k]?
theorem KT.refl (B rb : Nat) (w : World) : KT B rb w w := ⟨rfl, rfl, rfl, Nat.le_refl _, fun _ _ _ _ => rfl⟩
theorem KT.trans {B rb : Nat} {a b c : World} (h : KT B rb a b) (k : KT B rb b c) : KT B rb a c :=
  ⟨k.os.trans h.os, k.tape.trans h.tape, k.output.trans h.output, Nat.le_trans h.size k.size, fun i hi hr hc => by
    have e := h.block i hi hr hc
    exact (k.block i (Nat.lt_of_lt_of_le hi h.size) hr (fun cs fz hx => hc cs fz (e.symm.trans hx))).trans e⟩
theorem KT.ofKeep {B rb : Nat} {w w' : World} (h : Keep rb w w') : KT B rb w w' := ⟨h.os, h.tape, h.output, h.size, fun k hk hr _ => h.block k hk (by simpa using hr)⟩
theorem KT.ofBelow {B rb : Nat} {w w' : World} (h : Below w.heap.size w w') : KT B rb w w' := ⟨h.os, h.tape, h.output, h.size, fun k hk _ _ => h.block k hk⟩
theorem KT.toBelow {B rb : Nat} {w w' : World} (h : KT B rb w w') (hB : B ≤ rb) (hs : B ≤ w.heap.size) : Below B w w' := ⟨h.os, h.tape, h.output, h.size, fun k hk => h.block k (by omega) (by omega) (fun _ _ _ => hk)⟩
theorem KT.at {B rb : Nat} {w w' : World} (h : KT B rb w w') {k : Nat} {cs : Array Value} {t : TypeId} {fz : Nat × Nat} (hk : w.heap[k]? = some (.cells cs t fz)) (ht : t ≠ 9) (hr : k ≠ rb) : w'.heap[k]? = some (.cells cs t fz) := by
  refine (h.block k (Array.getElem?_eq_some_iff.1 hk).1 hr (fun cs' fz' hx => ?_)).trans hk
  rw [hk] at hx
  simp only [Option.some.injEq, Obj.cells.injEq] at hx
  exact absurd hx.2.1 ht
def strV (s : List UInt8) : Value := .string ⟨s.toArray⟩
/-- The runner, with the texts that it put out. -/
def RT (B rb : Nat) (txs : List (List UInt8)) (left calls : Int) (gm : Value) (W : World) : Prop := ∃ tv, RN rb tv left calls gm W ∧ W.ownsRow B 9 1 tv txs.length (txs.map strV)
theorem own_slice {w : World} {base size n : Nat} {e : TypeId} {v : Value} {xs : List Value} (h : w.ownsRow base e size v n xs) : ∃ va vc, v = .slice va n vc ∧ n ≤ vc := by
  rcases h.2 with ⟨rfl, rfl⟩ | ⟨g, cap, cur, rfl, hbg, hg, hnc, hcm, hcs, htake⟩
  · exact ⟨none, 0, rfl, Nat.le_refl _⟩
  · exact ⟨_, cap, rfl, hnc⟩
theorem own_type {w : World} {base size n : Nat} {e : TypeId} {v : Value} {xs : List Value} (h : w.ownsRow base e size v n xs) : ∀ g, v.ownBlock = some g → base ≤ g ∧ g < w.heap.size ∧ ∃ cs, w.heap[g]? = some (.cells cs e (0, 0)) := by
  rcases h.2 with ⟨rfl, rfl⟩ | ⟨g, cap, cur, rfl, hbg, hg, hnc, hcm, hcs, htake⟩
  · intro g hg; cases hg
  · intro k hk
    simp [Value.ownBlock] at hk
    subst hk
    exact ⟨hbg, (Array.getElem?_eq_some_iff.1 hg).1, cur, hg⟩
theorem own_ne {w : World} {B rb : Nat} {v tv gm : Value} {n : Nat} {xs : List Value} {left calls : Int} (h : w.ownsRow B 9 1 v n xs) (hr : RN rb tv left calls gm w) : v.ownBlock ≠ some rb := by
  intro e
  obtain ⟨_, _, cs, hc⟩ := own_type h rb e
  rw [show w.heap[rb]? = _ from hr] at hc
  simp at hc
/-- Behind a change that leaves the runner and its texts' row as they are. -/
theorem RT.stay {B rb : Nat} {txs : List (List UInt8)} {left calls : Int} {gm : Value} {W W' : World} (h : RT B rb txs left calls gm W) (hs : W.heap.size ≤ W'.heap.size) (ho : W'.os = W.os) (ht : W'.tape = W.tape) (hp : W'.output = W.output)
    (hb : ∀ k, k < W.heap.size → k = rb ∨ (∃ cs fz, W.heap[k]? = some (.cells cs 9 fz)) → W'.heap[k]? = W.heap[k]?) : RT B rb txs left calls gm W' := by
  obtain ⟨tv, h1, h2⟩ := h
  refine ⟨tv, (hb rb (Array.getElem?_eq_some_iff.1 h1).1 (Or.inl rfl)).trans h1, ?_⟩
  refine ⟨h2.1, ?_⟩
  rcases h2.2 with ⟨rfl, hn⟩ | ⟨g, cap, cur, hv, hbg, hg, r⟩
  · exact Or.inl ⟨rfl, hn⟩
  · exact Or.inr ⟨g, cap, cur, hv, hbg, (hb g (Array.getElem?_eq_some_iff.1 hg).1 (Or.inr ⟨cur, _, hg⟩)).trans hg, r⟩
theorem RT.below {B rb : Nat} {txs : List (List UInt8)} {left calls : Int} {gm : Value} {W W' : World} (h : RT B rb txs left calls gm W) (hb : Below W.heap.size W W') : RT B rb txs left calls gm W' := h.stay hb.size hb.os hb.tape hb.output (fun k hk _ => hb.block k hk)
/-- A cell of a block of another type is set. -/
theorem RT.set {B rb N q : Nat} {txs : List (List UInt8)} {left calls : Int} {gm v : Value} {W : World} {cs : Array Value} {t : TypeId} (h : RT B rb txs left calls gm W) (hN : W.heap[N]? = some (.cells cs t (0, 0))) (ht : t ≠ 9) (hr : N ≠ rb) : RT B rb txs left calls gm (W.setCell ⟨N, q, none⟩ v) := by
  refine h.stay (by simp) rfl rfl rfl (fun k hk hc => Below.heap_setCell _ _ _ _ ?_)
  rintro rfl
  rcases hc with hc | ⟨cs', fz, hc⟩
  · exact hr hc
  · rw [hN] at hc
    simp only [Option.some.injEq, Obj.cells.injEq] at hc
    exact ht hc.2.1
theorem RT.step {B rb : Nat} {txs : List (List UInt8)} {left calls : Int} {gm : Value} {W : World} (h : RT B rb txs left calls gm W) : RT B rb txs (left - 1) calls gm (W.setCell ⟨rb, 1, none⟩ (.int .i64 (left - 1))) := by
  obtain ⟨tv, h1, h2⟩ := h
  refine ⟨tv, h1.step, ?_⟩
  have hne := own_ne h2 h1
  refine h2.kept (row := some rb) ⟨rfl, rfl, rfl, by simp [World.setCell], fun k _ hk => Below.heap_setCell _ _ _ _ (fun e => hk (by simp [e]))⟩ (Or.inr hne)
end
section
set_option linter.unusedVariables false
set_option linter.unusedSimpArgs false
open Go.RowKit

theorem put_last {B rb : Nat} {txs : List (List UInt8)} {left calls : Int} {gm tv : Value} {s : List UInt8} {w w3 w4 : World} {g cap : Nat} (hr : RN rb tv left calls gm w) (ho : w.ownsRow B 9 1 tv txs.length (txs.map strV)) (hb : Below w.heap.size w w3)
    (hown : w4.ownsRow B 9 1 (.slice (some ⟨g, 0, none⟩) (txs.length + 1) cap) (txs.length + 1) (txs.map strV ++ [strV s])) (hgrow : (w3.alloc (.cells #[strV s] 9)).grownBy w4 tv.ownBlock) :
    KT B rb w (w4.setCell ⟨rb, 0, none⟩ (.slice (some ⟨g, 0, none⟩) (txs.length + 1) cap)) ∧ RT B rb (txs ++ [s]) left calls gm (w4.setCell ⟨rb, 0, none⟩ (.slice (some ⟨g, 0, none⟩) (txs.length + 1) cap)) := by
  have hne := own_ne ho hr
  have hrb : rb < w.heap.size := (Array.getElem?_eq_some_iff.1 hr).1
  have hba : Below w.heap.size w (w3.alloc (.cells #[strV s] 9)) := hb.alloc hb.size _
  have hR4 : RN rb tv left calls gm w4 := (hgrow.block rb (Nat.lt_of_lt_of_le hrb hba.size) (fun e => hne e.symm)).trans ((hba.block rb hrb).trans hr)
  have hk4 : KT B rb w w4 := by
    refine ⟨hgrow.os.trans hba.os, hgrow.tape.trans hba.tape, hgrow.output.trans hba.output, Nat.le_trans hba.size hgrow.size, fun k hk hkr hc => ?_⟩
    refine (hgrow.block k (Nat.lt_of_lt_of_le hk hba.size) (fun e => ?_)).trans (hba.block k hk)
    obtain ⟨g1, _, cs, g2⟩ := own_type ho k e.symm
    have := hc cs _ g2
    omega
  refine ⟨hk4.trans (KT.ofKeep ((Keep.refl rb w4).setCell _ rfl _)), _, cell_setV hR4 _, ?_⟩
  have hne4 := own_ne hown hR4
  have := hown.kept (w' := w4.setCell ⟨rb, 0, none⟩ (.slice (some ⟨g, 0, none⟩) (txs.length + 1) cap)) (row := some rb) ⟨rfl, rfl, rfl, by simp [World.setCell], fun k _ hk => Below.heap_setCell _ _ _ _ (fun e => hk (by simp [e]))⟩ (Or.inr hne4)
  simpa [List.map_append] using this
theorem own_below {w w' : World} {B n : Nat} {v : Value} {xs : List Value} (h : w.ownsRow B 9 1 v n xs) (hb : Below w.heap.size w w') : w'.ownsRow B 9 1 v n xs :=
  h.kept (row := none) ⟨hb.os, hb.tape, hb.output, hb.size, fun k hk _ => hb.block k hk⟩ (by cases v.ownBlock <;> simp)
theorem cell_alloc {w : World} {G q : Nat} {v : Value} (A : Obj) (h : w.cell? ⟨G, q, none⟩ = some v) : (w.alloc A).cell? ⟨G, q, none⟩ = some v :=
  (((Below.refl w.heap.size w).alloc (Nat.le_refl _) A).cell (p := ⟨G, q, none⟩) (cell_lt h)).trans h
theorem one_news (w : World) (v : Value) : ∀ j u, [v][j]? = some u → (w.alloc (.cells #[v] 9)).cell? ((⟨w.heap.size, 0, none⟩ : Addr).add j) = some u := by
  intro j u hj
  rw [add_lit0]
  match j, hj with
  | 0, hj =>
    simp at hj
    subst hj
    exact (cellO (World.alloc_heap_new w _)).trans rfl
theorem one_one (s : List UInt8) : ∀ u ∈ [strV s], u.oneCell' = true := by
  intro u hu
  simp at hu
  subst hu
  rfl
theorem RN.grown {rb : Nat} {tv gm : Value} {left calls : Int} {s : List UInt8} {w w3 w4 : World} (hr : RN rb tv left calls gm w) (hne : tv.ownBlock ≠ some rb) (hb : Below w.heap.size w w3) (hgrow : (w3.alloc (.cells #[strV s] 9)).grownBy w4 tv.ownBlock) : RN rb tv left calls gm w4 := by
  have hrb : rb < w.heap.size := (Array.getElem?_eq_some_iff.1 hr).1
  have hba : Below w.heap.size w (w3.alloc (.cells #[strV s] 9)) := hb.alloc hb.size _
  exact (hgrow.block rb (Nat.lt_of_lt_of_le hrb hba.size) (fun e => hne e.symm)).trans ((hba.block rb hrb).trans hr)
theorem cell_grown {rb : Nat} {tv gm : Value} {left calls : Int} {s : List UInt8} {w w3 w4 : World} (hr : RN rb tv left calls gm w) (hne : tv.ownBlock ≠ some rb) (hb : Below w.heap.size w w3) (hgrow : (w3.alloc (.cells #[strV s] 9)).grownBy w4 tv.ownBlock) : w4.cell? ⟨rb, 0, none⟩ = some tv :=
  (cellO (RN.grown hr hne hb hgrow)).trans rfl
theorem loose_grown {rb : Nat} {tv gm : Value} {left calls : Int} {s : List UInt8} {w w3 w4 : World} (hr : RN rb tv left calls gm w) (hne : tv.ownBlock ≠ some rb) (hb : Below w.heap.size w w3) (hgrow : (w3.alloc (.cells #[strV s] 9)).grownBy w4 tv.ownBlock) : w4.frozen? ⟨rb, 0, none⟩ = false :=
  looseO (RN.grown hr hne hb hgrow)
set_option maxRecDepth 100000 in
set_option maxHeartbeats 3200000 in
theorem put_gen (B rb : Nat) (k : Int) (t : TypeId) (x : Value) (s : List UInt8) (txs : List (List UInt8)) (left calls : Int) (gm : Value) (w : World) (hr : RT B rb txs left calls gm w) (hB : B ≤ w.heap.size) (hn : txs.length < 200) (hs : s ≠ [])
    (VAL : ∀ W, Below w.heap.size w W → Wr w.heap.size w.heap.size 0 [] W → Calls Tryd.prog 81 #[.pointer (some ⟨w.heap.size, 0, none⟩), .iface t x] W fun e w' => e = .returned (.tuple #[]) ∧ Wr w.heap.size w.heap.size k s w' ∧ Below w.heap.size W w') :
    Calls Tryd.prog 72 #[.pointer (some ⟨rb, 0, none⟩), .iface t x] w fun e w' => e = .returned (.tuple #[]) ∧ KT B rb w w' ∧ RT B rb (txs ++ [s]) left calls gm w' := by
  obtain ⟨tv, hR, hO⟩ := hr
  obtain ⟨va, vc, hv, hvc⟩ := own_slice hO
  have HRO : Hid (RN rb tv left calls gm w ∧ w.ownsRow B 9 1 tv txs.length (txs.map strV)) := ⟨hR, hO⟩
  have hrb : rb < w.heap.size := (Array.getElem?_eq_some_iff.1 hR).1
  have c0 : w.cell? ⟨rb, 0, none⟩ = some tv := (cellO hR).trans rfl
  have z0 := looseO (q := 0) hR
  have hne := own_ne hO hR
  have HNE := hidd hne
  subst hv
  obtain ⟨i0, hinf, hz0, hz1, hz2⟩ := info_parts infoStr
  have HBA : Hid (Below w.heap.size w (w.alloc (.cells #[.pointer none, .slice none 0 0, .int .i64 0] 175))) := (Below.refl w.heap.size w).alloc (Nat.le_refl _) _
  have HV := hidd (VAL _ HBA.out (fresh_Wr w))
  have ST : Hid (∀ W, Wr w.heap.size w.heap.size k s W → Calls Tryd.prog 82 #[.pointer (some ⟨w.heap.size, 0, none⟩)] W fun e w' => e = .returned (.string ⟨s.toArray⟩) ∧ Below w.heap.size W w') := fun W hW => String_some _ _ k s W hW hs
  have HN : Hid (txs.length < 200 ∧ B ≤ w.heap.size) := ⟨hn, hB⟩
  have hd : decide ((txs.length : Int) < 200) = true := by simp; omega
  have hd' : (txs.length : Int) < 200 := by omega
  clear VAL hR hO hne hvc
  go_enter Tryd.func72, Tryd.ntmps72
  go_wp2_with fail
  refine (Must_yes _ _).mono ?_
  rintro e w1 ⟨rfl, rfl⟩
  go_wp2_with fail
  refine HV.out.mono ?_
  rintro e w2 ⟨rfl, hw2, hb2⟩
  have HB2 := hidd (HBA.out.trans hb2)
  have HW2 := hidd hw2
  have d0 : w2.cell? ⟨rb, 0, none⟩ = some (.slice va txs.length vc) := (HB2.out.cell (p := ⟨rb, 0, none⟩) hrb).trans c0
  clear hw2 hb2 HV HBA
  go_wp2_with fail
  go_region_law (first
    | (refine step_append_lies _ rfl (.tmp 18) (.tmp 21) 23 rfl B 9 i0 _ 1 16 Tryd.underlying23 hinf hz0 hz1 hz2 rfl (by decide) (.slice va txs.length vc) txs.length (txs.map strV) rfl (by exact HO3.out.alloc _) ⟨w3.heap.size, 0, none⟩ 1 1 [strV s] rfl rfl (by exact one_news w3 _) (by exact one_one s) (by decide) (by have := HN.out.1; unfold maxLen; omega) (by have := HN.out.1; omega) (by have := HN.out.2; have := HB3.out.size; simp; omega) (w3.heap.size + 1) (by simp) ?_; intro g cap w4 hown hgrow hat hlt4; have HX := hidd (put_last HRO.out.1 HRO.out.2 HB3.out hown hgrow); have d4 : w4.cell? ⟨rb, 0, none⟩ = some (.slice va txs.length vc) := cell_grown HRO.out.1 HNE.out HB3.out hgrow; have z4 : w4.frozen? ⟨rb, 0, none⟩ = false := loose_grown HRO.out.1 HNE.out HB3.out hgrow)
    | (go_simp; go_at_call 82; refine (ST.out _ HW2.out.drew).mono ?_; rintro e w3 ⟨rfl, hb3⟩; have HB3 := hidd (HB2.out.trans ((Below.drew (Below.refl _ w2)).trans hb3)); have HO3 := hidd (own_below HRO.out.2 HB3.out); have d3 : w3.cell? ⟨rb, 0, none⟩ = some (.slice va txs.length vc) := (HB3.out.cell (p := ⟨rb, 0, none⟩) hrb).trans c0; have d3a := cell_alloc (.cells #[.string ⟨s.toArray⟩] 9) d3; clear hb3; dsimp only))
  all_goals
    clear hown hgrow hat hlt4
    go_wp2_with fail
    go_end0
    exact ⟨rfl, HX.out⟩
end
end Go.Proofs.YthooljlikllnpaaDoor
