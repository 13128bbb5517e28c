/- How package text prints. -/
import Derived.Test.YtdnbingddbakaaaGreatDoorK38
import Derived.Test.YtdnbingddbakaaaGreatDoorK06
namespace Go.Proofs.YtdnbingddbakaaaGreatDoor
set_option linter.unusedVariables false
set_option linter.unusedSimpArgs false
open Go.RowKit

theorem heap_new (W : World) (o : Obj) : (W.alloc o).heap[W.heap.size]? = some o := by
  show (W.heap.push o)[W.heap.size]? = _
  simp

theorem Tab.mono {B B' : Nat} (hB : B ≤ B') {w : World} (h : Tab B w) : Tab B' w := by
  obtain ⟨ht, g, hg, hlt⟩ := h
  exact ⟨ht, g, hg, by omega⟩

set_option maxRecDepth 100000 in
set_option maxHeartbeats 1600000 in
theorem Print_bad (B g : Nat) (l : List Dat) (a : Option Addr) (cap : Nat) (w : World) (hl : Lies B w g a l) (hB : B ≤ w.heap.size) (h0 : (wrong l).1 ≠ 0) :
    Calls Tryz.prog 118 #[.slice a l.length cap] w fun e w' => e = .returned (.tuple #[.string (prt l).1, fv (prt l).2]) ∧ Below w.heap.size w w' := by
  rw [prt_bad h0]
  have RW : Hid (∀ w', Below w.heap.size w w' → Calls Tryz.prog 107 #[.slice a l.length cap] w' fun e w'' => e = .returned (fv (wrong l)) ∧ Below w'.heap.size w' w'') := fun w' hb => Wrong_any B g l a cap w' (hl.below (hb.mono hB)) (by have := hb.size; omega)
  clear hl
  generalize wrong l = y at RW h0 ⊢
  obtain ⟨y1, y2⟩ := y
  simp only at h0
  have y0 : (y1 != 0) = true := by simpa using h0
  clear h0
  unfold fv at RW ⊢
  simp only at RW ⊢
  go_enter Tryz.func118, Tryz.ntmps118
  go_wp2_with fail
  refine (RW.out _ ((Below.refl _ _).alloc (Nat.le_refl _) _)).mono ?_
  rintro e w1 ⟨rfl, hb1⟩
  have hz : w.heap.size < w1.heap.size := by have := hb1.size; simp at this; omega
  have q0 : w1.cell? ⟨w.heap.size, 0, none⟩ = some (.int .i64 0) := box_cell hb1 rfl 0
  have q1 : w1.cell? ⟨w.heap.size, 1, none⟩ = some (.int .i64 0) := box_cell hb1 rfl 1
  have z0 : w1.frozen? ⟨w.heap.size, 0, none⟩ = false := (hb1.frozen (p := ⟨w.heap.size, 0, none⟩) (by simp)).trans (by go_simp)
  have z1 : w1.frozen? ⟨w.heap.size, 1, none⟩ = false := (hb1.frozen (p := ⟨w.heap.size, 1, none⟩) (by simp)).trans (by go_simp)
  have HB : Hid (Below w.heap.size w w1) := ((Below.refl _ _).alloc (Nat.le_refl _) _).trans (hb1.mono (by simp))
  clear hb1 RW
  go_wp2_with fail
  go_region
  go_wp2
  refine bodyPost_ret (v := .tuple #[.string ⟨#[]⟩, .agg #[.int .i64 y1, .int .i64 y2]]) (by simp [results, Tryz.results118, go_sem, q0, q1, hz]) rfl ⟨rfl, ?_⟩
  exact (((HB.out.setCell (p := ⟨w.heap.size, 0, none⟩) (Nat.le_refl _) _).setCell (p := ⟨w.heap.size, 1, none⟩) (Nat.le_refl _) _).alloc (by simp [World.setCell]; omega) _).drew

/-- What a round of printing knows. -/
structure Pr (N b : Nat) (w : World) (l : List Dat) (j : Nat) (wr : World) : Prop where
  wtr : Wr b b (printed (l.take j)) wr
  res : Res N w wr
  first : j = 0 → wr.heap[b]? = some (Obj.cells #[Value.pointer none, Value.slice none 0 0] 205 (0, 0))

theorem Res.afterB {N b : Nat} {w wr wr' : World} (h : Res N w wr) (hN : N < b) (hb : Below b wr wr') : Res N w wr' :=
  ⟨h.below.trans (hb.mono (Nat.le_of_lt hN)), Nat.lt_of_lt_of_le h.lt hb.size, (hb.cell (p := ⟨N, 0, none⟩) hN).trans h.q0, (hb.cell (p := ⟨N, 1, none⟩) hN).trans h.q1, (hb.frozen (p := ⟨N, 0, none⟩) hN).trans h.z0, (hb.frozen (p := ⟨N, 1, none⟩) hN).trans h.z1⟩

theorem printed_ne {l : List Dat} (h : l ≠ []) : printed l ≠ [] := by
  cases l with
  | nil => exact absurd rfl h
  | cons d r => simp [printed]

set_option maxRecDepth 100000 in
set_option maxHeartbeats 3200000 in
theorem Print_good (B g : Nat) (l : List Dat) (a : Option Addr) (cap : Nat) (w : World) (hl : Lies B w g a l) (hB : B ≤ w.heap.size) (ht : Tab B w) (h0 : (wrong l).1 = 0) :
    Calls Tryz.prog 118 #[.slice a l.length cap] w fun e w' => e = .returned (.tuple #[.string (prt l).1, fv (prt l).2]) ∧ Below w.heap.size w w' := by
  have hln := hl.len
  obtain ⟨hok, hpl⟩ := wrongFrom_each l 0 0 (Nat.zero_le _) h0
  have HOK : Hid (∀ d, d ∈ l → ∃ m, m ≤ 2000 ∧ (chk 40 d m).1 = 0) := hok
  have HPL : Hid ((printed l).length ≤ 48000) := by show (printed l).length ≤ 48000; omega
  have HP1 : Hid (6000 < (printed l).length → prt l = (⟨#[]⟩, (4, 0))) := fun h => prt_much h0 h
  have HP2 : Hid (¬ 6000 < (printed l).length → prt l = (⟨(printed l).toArray⟩, (0, 0))) := fun h => prt_ok h0 h
  have RW : Hid (∀ w', Below w.heap.size w w' → Calls Tryz.prog 107 #[.slice a l.length cap] w' fun e w'' => ∃ y2, e = .returned (.agg #[.int .i64 0, .int .i64 y2]) ∧ Below w'.heap.size w' w'') := fun w' hb => by
    refine (Wrong_any B g l a cap w' (hl.below (hb.mono hB)) (by have := hb.size; omega)).mono ?_
    rintro e w'' ⟨rfl, h⟩
    exact ⟨(wrong l).2, by unfold fv; rw [h0], h⟩
  have HL : Hid (Lies B w g a l ∧ Tab B w) := ⟨hl, ht⟩
  clear hl ht h0 hok hpl
  go_enter Tryz.func118, Tryz.ntmps118
  go_wp2_with fail
  refine (RW.out _ ((Below.refl _ _).alloc (Nat.le_refl _) _)).mono ?_
  rintro e w1 ⟨y2, rfl, hb1⟩
  have hz : w.heap.size < w1.heap.size := by have := hb1.size; simp at this; omega
  have HB : Hid (Res w.heap.size w w1) := by
    have q0 : w1.cell? ⟨w.heap.size, 0, none⟩ = some (.int .i64 0) := box_cell hb1 rfl 0
    have q1 : w1.cell? ⟨w.heap.size, 1, none⟩ = some (.int .i64 0) := box_cell hb1 rfl 1
    have z0 : w1.frozen? ⟨w.heap.size, 0, none⟩ = false := (hb1.frozen (p := ⟨w.heap.size, 0, none⟩) (by simp)).trans (by go_simp)
    have z1 : w1.frozen? ⟨w.heap.size, 1, none⟩ = false := (hb1.frozen (p := ⟨w.heap.size, 1, none⟩) (by simp)).trans (by go_simp)
    exact ⟨((Below.refl _ _).alloc (Nat.le_refl _) _).trans (hb1.mono (by simp)), hz, q0, q1, z0, z1⟩
  clear hb1 RW
  go_wp2_with fail
  go_loopw [16] (fun i wr => ∃ j : Nat, j ≤ l.length ∧ i = .int .i64 j ∧ Pr w.heap.size (w1.heap.size + 1) w l j wr) (fun i _ => l.length - (intOf i).toNat)
  case atStart =>
    have hb : (w1.alloc (.cells #[.int .i64 0, .int .i64 y2] 42)).heap.size = w1.heap.size + 1 := by simp
    have hf := Lib.IsBuilderF.of (Lib.fresh_isBuilder 205 5 (w1.alloc (.cells #[.int .i64 0, .int .i64 y2] 42)))
    have hn := heap_new (w1.alloc (.cells #[.int .i64 0, .int .i64 y2] 42)) (.cells #[.pointer none, .slice none 0 0] 205)
    rw [hb] at hf hn
    exact ⟨0, Nat.zero_le _, rfl, hf, (HB.out.alloc _).alloc _, fun _ => hn⟩
  case round =>
    clear HB
    obtain ⟨j, hj, rfl, hpr⟩ := hrel
    have q0 := hpr.res.q0
    have q1 := hpr.res.q1
    have z0 := hpr.res.z0
    have z1 := hpr.res.z1
    have hzr := hpr.res.lt
    have hbs := hpr.wtr.lt
    have HR : Hid (Pr w.heap.size (w1.heap.size + 1) w l j wr) := hpr
    by_cases hlt : j < l.length
    · obtain ⟨d, hd⟩ : ∃ d, l[j]? = some d := ⟨l[j], List.getElem?_eq_getElem hlt⟩
      have hne : l ≠ [] := by intro e; rw [e] at hlt; simp at hlt
      have hLr : Lies (w1.heap.size + 1) wr g a l := Lies.mono (by omega) _ _ _ (HL.out.1.below (hpr.res.below.mono hB))
      obtain ⟨g', b, o, hg, ha, hbB, hall⟩ := hLr.at hne
      subst ha
      obtain ⟨a', cap', k0, k1, k2, k3, k4, k5, hkn, hkk⟩ := hall j d hd
      have HA : Hid (Lies (w1.heap.size + 1) wr g' a' d.kids ∧ Tab (w1.heap.size + 1) wr) := ⟨hkk, (HL.out.2.below (hpr.res.below.mono hB)).mono (by omega)⟩
      have HS : Hid (printed (l.take (j + 1)) = printed (l.take j) ++ (txt 40 d ++ [10])) := printed_snoc l j d hd
      have HS2 : Hid ((printed (l.take j)).length + (txt 40 d).length + 1 ≤ 48000) := by
        have h1 := Nat.le_trans (printed_take l (j + 1)) HPL.out
        rw [HS.out] at h1
        show (printed (l.take j)).length + (txt 40 d).length + 1 ≤ 48000
        simp at h1
        omega
      have HM : Hid (∃ m, m ≤ 2000 ∧ (chk 40 d m).1 = 0) := HOK.out d (List.mem_of_getElem? hd)
      clear hd hall hkk hLr hne hg hkn hpr
      go_wp2_with fail
      refine (wdatum_any (w1.heap.size + 1) (w1.heap.size + 1) 40 g' (printed (l.take j)) d a' cap' _ (HR.out.wtr.alloc _) (by simp; omega) (HA.out.1.below ((Below.refl _ _).alloc (by omega) _)) (HA.out.2.below ((Below.refl _ _).alloc (by omega) _)) (by have := HS2.out; omega) HM.out).mono ?_
      rintro e w2 ⟨rfl, h2⟩
      have H2 : Hid (Wr (w1.heap.size + 1) (w1.heap.size + 1) (printed (l.take j) ++ txt 40 d) w2) := h2.1
      have H3 : Hid (Res w.heap.size w w2) := (HR.out.res.alloc _).afterB (by omega) h2.2.1
      have hs2 : wr.heap.size + 1 ≤ w2.heap.size := by have := h2.2.1.size; simpa using this
      clear h2 HA HR k0 k1 k2 k3 k4 k5 q0 q1 z0 z1
      go_wp2_with fail
      refine (WriteByte_any (w1.heap.size + 1) (w1.heap.size + 1) (printed (l.take j) ++ txt 40 d) 10 w2 H2.out (by have := HS2.out; simp; omega) (by omega)).mono ?_
      rintro e w3 ⟨rfl, h3⟩
      have H4 : Hid (Pr w.heap.size (w1.heap.size + 1) w l (j + 1) w3) := by
        refine ⟨?_, H3.out.afterB (by omega) h3.2.1, fun e => by omega⟩
        rw [HS.out, ← List.append_assoc]
        exact h3.1
      clear h3
      go_wp2_with fail
      go_roundw
      case rel => exact ⟨j + 1, by omega, by go_num, H4.out⟩
      case measure => simp [intOf]; omega
    · obtain rfl : j = l.length := by omega
      have HW : Hid (Wr (w1.heap.size + 1) (w1.heap.size + 1) (printed l) wr) := by
        have := hpr.wtr
        rw [List.take_length] at this
        exact this
      have HRS : Hid (Res w.heap.size w wr) := hpr.res
      have HF : Hid (l.length = 0 → wr.heap[w1.heap.size + 1]? = some (Obj.cells #[Value.pointer none, Value.slice none 0 0] 205 (0, 0))) := hpr.first
      clear hpr HL HOK HR
      obtain ⟨n, HNN⟩ : ∃ n, Hid ((printed l).length = n) := ⟨_, rfl⟩
      have hn48 : n ≤ 48000 := by rw [← HNN.out]; exact HPL.out
      by_cases h6 : 6000 < n
      · go_wp2_with fail
        refine (Len_any (w1.heap.size + 1) (w1.heap.size + 1) (printed l) wr HW.out).mono ?_
        rintro e w2 ⟨rfl, rfl⟩
        rw [HNN.out]
        go_wp2_with fail
        refine bodyPost_ret (v := .tuple #[.string ⟨#[]⟩, fv (4, 0)]) (by simp [results, Tryz.results118, go_sem, q0, q1, hzr, fv]) rfl ⟨by rw [HP1.out (by rw [HNN.out]; exact h6)], ?_⟩
        exact (HRS.out.below.setCell (p := ⟨w.heap.size, 0, none⟩) (Nat.le_refl _) _).setCell (p := ⟨w.heap.size, 1, none⟩) (Nat.le_refl _) _
      · go_wp2_with fail
        refine (Len_any (w1.heap.size + 1) (w1.heap.size + 1) (printed l) wr HW.out).mono ?_
        rintro e w2 ⟨rfl, rfl⟩
        rw [HNN.out]
        go_wp2_with fail
        have hstr : Calls Tryz.prog 139 #[.pointer (some ⟨w1.heap.size + 1, 0, none⟩)] w2 fun e w' => e = .returned (.string ⟨(printed l).toArray⟩) ∧ Below (w1.heap.size + 1) w2 w' ∧ Lib.OthersKept 5 (some (w1.heap.size + 1)) w2 w' := by
          by_cases hl0 : l = []
          · have h1 := HF.out (by rw [hl0]; rfl)
            rw [hl0]
            exact String_none (w1.heap.size + 1) (w1.heap.size + 1) (.pointer none) w2 h1
          · exact String_some (w1.heap.size + 1) (w1.heap.size + 1) (printed l) w2 HW.out (printed_ne hl0)
        refine hstr.mono ?_
        rintro e w3 ⟨rfl, h3, _⟩
        have hres := HRS.out.afterB (by omega) h3
        have q0 := hres.q0
        have q1 := hres.q1
        have z0 := hres.z0
        have z1 := hres.z1
        have hz3 := hres.lt
        have HB3 : Hid (Below w.heap.size w w3) := hres.below
        clear hres h3 hstr
        go_wp2_with fail
        refine bodyPost_ret (v := .tuple #[.string ⟨(printed l).toArray⟩, fv (0, 0)]) (by simp [results, Tryz.results118, go_sem, q0, q1, hz3, fv]) rfl ⟨?_, ?_⟩
        · rw [HP2.out (by rw [HNN.out]; exact h6)]
        · exact (HB3.out.setCell (p := ⟨w.heap.size, 0, none⟩) (Nat.le_refl _) _).setCell (p := ⟨w.heap.size, 1, none⟩) (Nat.le_refl _) _

/-- WHAT PACKAGE TEXT PRINTS of any data. -/
theorem Print_any (B g : Nat) (l : List Dat) (a : Option Addr) (cap : Nat) (w : World) (hl : Lies B w g a l) (hB : B ≤ w.heap.size) (ht : Tab B w) :
    Calls Tryz.prog 118 #[.slice a l.length cap] w fun e w' => e = .returned (.tuple #[.string (prt l).1, fv (prt l).2]) ∧ Below w.heap.size w w' := by
  by_cases h0 : (wrong l).1 = 0
  · exact Print_good B g l a cap w hl hB ht h0
  · exact Print_bad B g l a cap w hl hB h0
end Go.Proofs.YtdnbingddbakaaaGreatDoor
