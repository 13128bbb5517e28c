/- Chapter 7: package value: one text more is put out. -/
import Derived.Test.YthooljlikllnpaaDoorK37
namespace Go.Proofs.YthooljlikllnpaaDoor
set_option linter.unusedVariables false
set_option linter.unusedSimpArgs false
open Go.RowKit

theorem put_last {B rb : Nat} {txs : List (List UInt8)} {left calls : Int} {gm tv : Value} {s : List UInt8} {w w3 w4 : World} {g cap : Nat} (hr : RN rb tv left calls gm w) (ho : w.ownsRow B 9 1 tv txs.length (txs.map strV)) (hb : Below w.heap.size w w3)
    (hown : w4.ownsRow B 9 1 (.slice (some ⟨g, 0, none⟩) (txs.length + 1) cap) (txs.length + 1) (txs.map strV ++ [strV s])) (hgrow : (w3.alloc (.cells #[strV s] 9)).grownBy w4 tv.ownBlock) :
    KT B rb w (w4.setCell ⟨rb, 0, none⟩ (.slice (some ⟨g, 0, none⟩) (txs.length + 1) cap)) ∧ RT B rb (txs ++ [s]) left calls gm (w4.setCell ⟨rb, 0, none⟩ (.slice (some ⟨g, 0, none⟩) (txs.length + 1) cap)) := by
  have hne := own_ne ho hr
  have hrb : rb < w.heap.size := (Array.getElem?_eq_some_iff.1 hr).1
  have hba : Below w.heap.size w (w3.alloc (.cells #[strV s] 9)) := hb.alloc hb.size _
  have hR4 : RN rb tv left calls gm w4 := (hgrow.block rb (Nat.lt_of_lt_of_le hrb hba.size) (fun e => hne e.symm)).trans ((hba.block rb hrb).trans hr)
  have hk4 : KT B rb w w4 := by
    refine ⟨hgrow.os.trans hba.os, hgrow.tape.trans hba.tape, hgrow.output.trans hba.output, Nat.le_trans hba.size hgrow.size, fun k hk hkr hc => ?_⟩
    refine (hgrow.block k (Nat.lt_of_lt_of_le hk hba.size) (fun e => ?_)).trans (hba.block k hk)
    obtain ⟨g1, _, cs, g2⟩ := own_type ho k e.symm
    have := hc cs _ g2
    omega
  refine ⟨hk4.trans (KT.ofKeep ((Keep.refl rb w4).setCell _ rfl _)), _, cell_setV hR4 _, ?_⟩
  have hne4 := own_ne hown hR4
  have := hown.kept (w' := w4.setCell ⟨rb, 0, none⟩ (.slice (some ⟨g, 0, none⟩) (txs.length + 1) cap)) (row := some rb) ⟨rfl, rfl, rfl, by simp [World.setCell], fun k _ hk => Below.heap_setCell _ _ _ _ (fun e => hk (by simp [e]))⟩ (Or.inr hne4)
  simpa [List.map_append] using this
theorem own_below {w w' : World} {B n : Nat} {v : Value} {xs : List Value} (h : w.ownsRow B 9 1 v n xs) (hb : Below w.heap.size w w') : w'.ownsRow B 9 1 v n xs :=
  h.kept (row := none) ⟨hb.os, hb.tape, hb.output, hb.size, fun k hk _ => hb.block k hk⟩ (by cases v.ownBlock <;> simp)
theorem cell_alloc {w : World} {G q : Nat} {v : Value} (A : Obj) (h : w.cell? ⟨G, q, none⟩ = some v) : (w.alloc A).cell? ⟨G, q, none⟩ = some v :=
  (((Below.refl w.heap.size w).alloc (Nat.le_refl _) A).cell (p := ⟨G, q, none⟩) (cell_lt h)).trans h
theorem one_news (w : World) (v : Value) : ∀ j u, [v][j]? = some u → (w.alloc (.cells #[v] 9)).cell? ((⟨w.heap.size, 0, none⟩ : Addr).add j) = some u := by
  intro j u hj
  rw [add_lit0]
  match j, hj with
  | 0, hj =>
    simp at hj
    subst hj
    exact (cellO (World.alloc_heap_new w _)).trans rfl
theorem one_one (s : List UInt8) : ∀ u ∈ [strV s], u.oneCell' = true := by
  intro u hu
  simp at hu
  subst hu
  rfl
theorem RN.grown {rb : Nat} {tv gm : Value} {left calls : Int} {s : List UInt8} {w w3 w4 : World} (hr : RN rb tv left calls gm w) (hne : tv.ownBlock ≠ some rb) (hb : Below w.heap.size w w3) (hgrow : (w3.alloc (.cells #[strV s] 9)).grownBy w4 tv.ownBlock) : RN rb tv left calls gm w4 := by
  have hrb : rb < w.heap.size := (Array.getElem?_eq_some_iff.1 hr).1
  have hba : Below w.heap.size w (w3.alloc (.cells #[strV s] 9)) := hb.alloc hb.size _
  exact (hgrow.block rb (Nat.lt_of_lt_of_le hrb hba.size) (fun e => hne e.symm)).trans ((hba.block rb hrb).trans hr)
theorem cell_grown {rb : Nat} {tv gm : Value} {left calls : Int} {s : List UInt8} {w w3 w4 : World} (hr : RN rb tv left calls gm w) (hne : tv.ownBlock ≠ some rb) (hb : Below w.heap.size w w3) (hgrow : (w3.alloc (.cells #[strV s] 9)).grownBy w4 tv.ownBlock) : w4.cell? ⟨rb, 0, none⟩ = some tv :=
  (cellO (RN.grown hr hne hb hgrow)).trans rfl
theorem loose_grown {rb : Nat} {tv gm : Value} {left calls : Int} {s : List UInt8} {w w3 w4 : World} (hr : RN rb tv left calls gm w) (hne : tv.ownBlock ≠ some rb) (hb : Below w.heap.size w w3) (hgrow : (w3.alloc (.cells #[strV s] 9)).grownBy w4 tv.ownBlock) : w4.frozen? ⟨rb, 0, none⟩ = false :=
  looseO (RN.grown hr hne hb hgrow)
set_option maxRecDepth 100000 in
set_option maxHeartbeats 3200000 in
theorem put_gen (B rb : Nat) (k : Int) (t : TypeId) (x : Value) (s : List UInt8) (txs : List (List UInt8)) (left calls : Int) (gm : Value) (w : World) (hr : RT B rb txs left calls gm w) (hB : B ≤ w.heap.size) (hn : txs.length < 200) (hs : s ≠ [])
    (VAL : ∀ W, Below w.heap.size w W → Wr w.heap.size w.heap.size 0 [] W → Calls Tryd.prog 81 #[.pointer (some ⟨w.heap.size, 0, none⟩), .iface t x] W fun e w' => e = .returned (.tuple #[]) ∧ Wr w.heap.size w.heap.size k s w' ∧ Below w.heap.size W w') :
    Calls Tryd.prog 72 #[.pointer (some ⟨rb, 0, none⟩), .iface t x] w fun e w' => e = .returned (.tuple #[]) ∧ KT B rb w w' ∧ RT B rb (txs ++ [s]) left calls gm w' := by
  obtain ⟨tv, hR, hO⟩ := hr
  obtain ⟨va, vc, hv, hvc⟩ := own_slice hO
  have HRO : Hid (RN rb tv left calls gm w ∧ w.ownsRow B 9 1 tv txs.length (txs.map strV)) := ⟨hR, hO⟩
  have hrb : rb < w.heap.size := (Array.getElem?_eq_some_iff.1 hR).1
  have c0 : w.cell? ⟨rb, 0, none⟩ = some tv := (cellO hR).trans rfl
  have z0 := looseO (q := 0) hR
  have hne := own_ne hO hR
  have HNE := hidd hne
  subst hv
  obtain ⟨i0, hinf, hz0, hz1, hz2⟩ := info_parts infoStr
  have HBA : Hid (Below w.heap.size w (w.alloc (.cells #[.pointer none, .slice none 0 0, .int .i64 0] 175))) := (Below.refl w.heap.size w).alloc (Nat.le_refl _) _
  have HV := hidd (VAL _ HBA.out (fresh_Wr w))
  have ST : Hid (∀ W, Wr w.heap.size w.heap.size k s W → Calls Tryd.prog 82 #[.pointer (some ⟨w.heap.size, 0, none⟩)] W fun e w' => e = .returned (.string ⟨s.toArray⟩) ∧ Below w.heap.size W w') := fun W hW => String_some _ _ k s W hW hs
  have HN : Hid (txs.length < 200 ∧ B ≤ w.heap.size) := ⟨hn, hB⟩
  have hd : decide ((txs.length : Int) < 200) = true := by simp; omega
  have hd' : (txs.length : Int) < 200 := by omega
  clear VAL hR hO hne hvc
  go_enter Tryd.func72, Tryd.ntmps72
  go_wp2_with fail
  refine (Must_yes _ _).mono ?_
  rintro e w1 ⟨rfl, rfl⟩
  go_wp2_with fail
  refine HV.out.mono ?_
  rintro e w2 ⟨rfl, hw2, hb2⟩
  have HB2 := hidd (HBA.out.trans hb2)
  have HW2 := hidd hw2
  have d0 : w2.cell? ⟨rb, 0, none⟩ = some (.slice va txs.length vc) := (HB2.out.cell (p := ⟨rb, 0, none⟩) hrb).trans c0
  clear hw2 hb2 HV HBA
  go_wp2_with fail
  go_region_law (first
    | (refine step_append_lies _ rfl (.tmp 18) (.tmp 21) 23 rfl B 9 i0 _ 1 16 Tryd.underlying23 hinf hz0 hz1 hz2 rfl (by decide) (.slice va txs.length vc) txs.length (txs.map strV) rfl (by exact HO3.out.alloc _) ⟨w3.heap.size, 0, none⟩ 1 1 [strV s] rfl rfl (by exact one_news w3 _) (by exact one_one s) (by decide) (by have := HN.out.1; unfold maxLen; omega) (by have := HN.out.1; omega) (by have := HN.out.2; have := HB3.out.size; simp; omega) (w3.heap.size + 1) (by simp) ?_; intro g cap w4 hown hgrow hat hlt4; have HX := hidd (put_last HRO.out.1 HRO.out.2 HB3.out hown hgrow); have d4 : w4.cell? ⟨rb, 0, none⟩ = some (.slice va txs.length vc) := cell_grown HRO.out.1 HNE.out HB3.out hgrow; have z4 : w4.frozen? ⟨rb, 0, none⟩ = false := loose_grown HRO.out.1 HNE.out HB3.out hgrow)
    | (go_simp; go_at_call 82; refine (ST.out _ HW2.out.drew).mono ?_; rintro e w3 ⟨rfl, hb3⟩; have HB3 := hidd (HB2.out.trans ((Below.drew (Below.refl _ w2)).trans hb3)); have HO3 := hidd (own_below HRO.out.2 HB3.out); have d3 : w3.cell? ⟨rb, 0, none⟩ = some (.slice va txs.length vc) := (HB3.out.cell (p := ⟨rb, 0, none⟩) hrb).trans c0; have d3a := cell_alloc (.cells #[.string ⟨s.toArray⟩] 9) d3; clear hb3; dsimp only))
  all_goals
    clear hown hgrow hat hlt4
    go_wp2_with fail
    go_end0
    exact ⟨rfl, HX.out⟩
end Go.Proofs.YthooljlikllnpaaDoor
