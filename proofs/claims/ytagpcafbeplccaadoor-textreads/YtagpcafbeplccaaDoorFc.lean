/- How the document prints. -/
import Derived.Test.YtagpcafbeplccaaDoorFb
namespace Go.Proofs.YtagpcafbeplccaaDoor
set_option linter.unusedVariables false
set_option linter.unusedSimpArgs false
open Go.RowKit

/-- Data, a line each. -/
def printed (l : List Dat) : List UInt8 := l.flatMap fun d => txt 40 d ++ [10]

/-- What Print tells. -/
def prt (l : List Dat) : ByteArray × (Int × Int) :=
  if (wrong l).1 = 0 then (if 6000 < (printed l).length then (⟨#[]⟩, (4, 0)) else (⟨(printed l).toArray⟩, (0, 0))) else (⟨#[]⟩, wrong l)

theorem prt_bad {l : List Dat} (h : (wrong l).1 ≠ 0) : prt l = (⟨#[]⟩, wrong l) := by unfold prt; rw [if_neg h]
theorem prt_much {l : List Dat} (h : (wrong l).1 = 0) (h2 : 6000 < (printed l).length) : prt l = (⟨#[]⟩, (4, 0)) := by unfold prt; rw [if_pos h, if_pos h2]
theorem prt_ok {l : List Dat} (h : (wrong l).1 = 0) (h2 : ¬ 6000 < (printed l).length) : prt l = (⟨(printed l).toArray⟩, (0, 0)) := by unfold prt; rw [if_pos h, if_neg h2]

theorem wrongFrom_each : ∀ (l : List Dat) (i n : Nat), n ≤ 2000 → (wrongFrom l i n).1 = 0 → (∀ d, d ∈ l → ∃ m, m ≤ 2000 ∧ (chk 40 d m).1 = 0) ∧ (printed l).length + 24 * n ≤ 48000
  | [], i, n, hn, _ => ⟨by simp, by simp [printed]; omega⟩
  | d :: r, i, n, hn, h => by
    unfold wrongFrom at h
    by_cases e : (chk 40 d n).1 = 0
    · rw [if_pos e] at h
      have h2 := chk_le 40 d n hn e
      have h3 := txt_len 40 d n e
      obtain ⟨h4, h5⟩ := wrongFrom_each r _ _ h2 h
      refine ⟨?_, ?_⟩
      · intro x hx
        rcases List.mem_cons.1 hx with rfl | hx
        · exact ⟨n, hn, e⟩
        · exact h4 x hx
      · have h6 : (printed (d :: r)).length = (txt 40 d).length + 1 + (printed r).length := by simp [printed]; omega
        omega
    · rw [if_neg e] at h
      exact absurd h e

theorem printed_snoc (l : List Dat) (j : Nat) (d : Dat) (h : l[j]? = some d) : printed (l.take (j + 1)) = printed (l.take j) ++ (txt 40 d ++ [10]) := by
  obtain ⟨hj, e⟩ := List.getElem?_eq_some_iff.1 h
  unfold printed
  rw [List.take_succ_eq_append_getElem hj, e]
  simp

theorem printed_take (l : List Dat) (j : Nat) : (printed (l.take j)).length ≤ (printed l).length := by
  have h : printed l = printed (l.take j) ++ printed (l.drop j) := by
    unfold printed
    rw [← List.flatMap_append, List.take_append_drop]
  rw [h]
  simp

/-- The answer's block is as it was made. -/
structure Res (N : Nat) (w wr : World) : Prop where
  below : Below N w wr
  lt : N < wr.heap.size
  q0 : wr.cell? ⟨N, 0, none⟩ = some (.int .i64 0)
  q1 : wr.cell? ⟨N, 1, none⟩ = some (.int .i64 0)
  z0 : wr.frozen? ⟨N, 0, none⟩ = false
  z1 : wr.frozen? ⟨N, 1, none⟩ = false

theorem Res.after {N : Nat} {w wr wr' : World} (h : Res N w wr) (hb : Below wr.heap.size wr wr') : Res N w wr' :=
  ⟨h.below.trans (hb.mono (Nat.le_of_lt h.lt)), Nat.lt_of_lt_of_le h.lt hb.size, (hb.cell (p := ⟨N, 0, none⟩) h.lt).trans h.q0, (hb.cell (p := ⟨N, 1, none⟩) h.lt).trans h.q1, (hb.frozen (p := ⟨N, 0, none⟩) h.lt).trans h.z0, (hb.frozen (p := ⟨N, 1, none⟩) h.lt).trans h.z1⟩
theorem Res.alloc {N : Nat} {w wr : World} (h : Res N w wr) (o : Obj) : Res N w (wr.alloc o) := h.after ((Below.refl _ _).alloc (Nat.le_refl _) _)

set_option maxRecDepth 100000 in
set_option maxHeartbeats 1600000 in
theorem refPrint_bad (B g : Nat) (l : List Dat) (a : Option Addr) (cap : Nat) (w : World) (hl : Lies B w g a l) (hB : B ≤ w.heap.size) (h0 : (wrong l).1 ≠ 0) :
    Calls Tryd.prog 14 #[.slice a l.length cap] w fun e w' => e = .returned (.tuple #[.string (prt l).1, fv (prt l).2]) ∧ Below w.heap.size w w' := by
  rw [prt_bad h0]
  have RW : Hid (∀ w', Below w.heap.size w w' → Calls Tryd.prog 16 #[.slice a l.length cap] w' fun e w'' => e = .returned (fv (wrong l)) ∧ Below w'.heap.size w' w'') := fun w' hb => refWrong_any B g l a cap w' (hl.below (hb.mono hB)) (by have := hb.size; omega)
  clear hl
  generalize wrong l = y at RW h0 ⊢
  obtain ⟨y1, y2⟩ := y
  simp only at h0
  have y0 : (y1 != 0) = true := by simpa using h0
  clear h0
  unfold fv at RW ⊢
  simp only at RW ⊢
  go_enter Tryd.func14, Tryd.ntmps14
  go_wp2_with fail
  refine (RW.out _ ((Below.refl _ _).alloc (Nat.le_refl _) _)).mono ?_
  rintro e w1 ⟨rfl, hb1⟩
  have hz : w.heap.size < w1.heap.size := by have := hb1.size; simp at this; omega
  have q0 : w1.cell? ⟨w.heap.size, 0, none⟩ = some (.int .i64 0) := box_cell hb1 rfl 0
  have q1 : w1.cell? ⟨w.heap.size, 1, none⟩ = some (.int .i64 0) := box_cell hb1 rfl 1
  have z0 : w1.frozen? ⟨w.heap.size, 0, none⟩ = false := (hb1.frozen (p := ⟨w.heap.size, 0, none⟩) (by simp)).trans (by go_simp)
  have z1 : w1.frozen? ⟨w.heap.size, 1, none⟩ = false := (hb1.frozen (p := ⟨w.heap.size, 1, none⟩) (by simp)).trans (by go_simp)
  have HB : Hid (Below w.heap.size w w1) := ((Below.refl _ _).alloc (Nat.le_refl _) _).trans (hb1.mono (by simp))
  clear hb1 RW
  go_wp2_with fail
  go_region
  go_wp2
  refine bodyPost_ret (v := .tuple #[.string ⟨#[]⟩, .agg #[.int .i64 y1, .int .i64 y2]]) (by simp [results, Tryd.results14, go_sem, q0, q1, hz]) rfl ⟨rfl, ?_⟩
  exact (((HB.out.setCell (p := ⟨w.heap.size, 0, none⟩) (Nat.le_refl _) _).setCell (p := ⟨w.heap.size, 1, none⟩) (Nat.le_refl _) _).alloc (by simp [World.setCell]; omega) _).drew

set_option maxRecDepth 100000 in
set_option maxHeartbeats 1600000 in
theorem refPrint_good (B g : Nat) (l : List Dat) (a : Option Addr) (cap : Nat) (w : World) (hl : Lies B w g a l) (hB : B ≤ w.heap.size) (ht : Tab B w) (h0 : (wrong l).1 = 0) :
    Calls Tryd.prog 14 #[.slice a l.length cap] w fun e w' => e = .returned (.tuple #[.string (prt l).1, fv (prt l).2]) ∧ Below w.heap.size w w' := by
  have hln := hl.len
  obtain ⟨hok, hpl⟩ := wrongFrom_each l 0 0 (Nat.zero_le _) h0
  have HOK : Hid (∀ d, d ∈ l → ∃ m, m ≤ 2000 ∧ (chk 40 d m).1 = 0) := hok
  have HPL : Hid ((printed l).length ≤ 48000) := by show (printed l).length ≤ 48000; omega
  have HP1 : Hid (6000 < (printed l).length → prt l = (⟨#[]⟩, (4, 0))) := fun h => prt_much h0 h
  have HP2 : Hid (¬ 6000 < (printed l).length → prt l = (⟨(printed l).toArray⟩, (0, 0))) := fun h => prt_ok h0 h
  have RW : Hid (∀ w', Below w.heap.size w w' → Calls Tryd.prog 16 #[.slice a l.length cap] w' fun e w'' => ∃ y2, e = .returned (.agg #[.int .i64 0, .int .i64 y2]) ∧ Below w'.heap.size w' w'') := fun w' hb => by
    refine (refWrong_any B g l a cap w' (hl.below (hb.mono hB)) (by have := hb.size; omega)).mono ?_
    rintro e w'' ⟨rfl, h⟩
    exact ⟨(wrong l).2, by unfold fv; rw [h0], h⟩
  have HL : Hid (Lies B w g a l ∧ Tab B w) := ⟨hl, ht⟩
  clear hl ht h0 hok hpl
  go_enter Tryd.func14, Tryd.ntmps14
  go_wp2_with fail
  refine (RW.out _ ((Below.refl _ _).alloc (Nat.le_refl _) _)).mono ?_
  rintro e w1 ⟨y2, rfl, hb1⟩
  have hz : w.heap.size < w1.heap.size := by have := hb1.size; simp at this; omega
  have q0 : w1.cell? ⟨w.heap.size, 0, none⟩ = some (.int .i64 0) := box_cell hb1 rfl 0
  have q1 : w1.cell? ⟨w.heap.size, 1, none⟩ = some (.int .i64 0) := box_cell hb1 rfl 1
  have z0 : w1.frozen? ⟨w.heap.size, 0, none⟩ = false := (hb1.frozen (p := ⟨w.heap.size, 0, none⟩) (by simp)).trans (by go_simp)
  have z1 : w1.frozen? ⟨w.heap.size, 1, none⟩ = false := (hb1.frozen (p := ⟨w.heap.size, 1, none⟩) (by simp)).trans (by go_simp)
  have HB : Hid (Below w.heap.size w w1) := ((Below.refl _ _).alloc (Nat.le_refl _) _).trans (hb1.mono (by simp))
  clear hb1 RW
  go_wp2_with fail
  go_loopw [5, 16] (fun s i wr => ∃ (j : Nat) (S : ByteArray), j ≤ l.length ∧ i = .int .i64 j ∧ s = .string S ∧ S.data.toList = printed (l.take j) ∧ S.size ≤ 48000 ∧ Res w.heap.size w wr) (fun _ i _ => l.length - (intOf i).toNat)
  case atStart => exact ⟨0, ⟨#[]⟩, Nat.zero_le _, rfl, rfl, rfl, by decide, (Res.mk HB.out hz q0 q1 z0 z1).alloc _⟩
  case round =>
    clear q0 q1 z0 z1 HB hz
    obtain ⟨j, S, hj, rfl, rfl, hS, hSz, hres⟩ := hrel
    have q0 := hres.q0
    have q1 := hres.q1
    have z0 := hres.z0
    have z1 := hres.z1
    have hz := hres.lt
    have HR : Hid (Res w.heap.size w wr) := hres
    by_cases hlt : j < l.length
    · obtain ⟨d, hd⟩ : ∃ d, l[j]? = some d := ⟨l[j], List.getElem?_eq_getElem hlt⟩
      have hne : l ≠ [] := by intro e; rw [e] at hlt; simp at hlt
      have hLr : Lies B wr g a l := HL.out.1.below (hres.below.mono hB)
      obtain ⟨g', b, o, hg, ha, hbB, hall⟩ := hLr.at hne
      subst ha
      obtain ⟨a', cap', k0, k1, k2, k3, k4, k5, hkn, hkk⟩ := hall j d hd
      have HA : Hid (Lies B wr g' a' d.kids ∧ Tab B wr) := ⟨hkk, HL.out.2.below (hres.below.mono hB)⟩
      have HN : Hid (d.name.size ≤ maxLen) := hkn
      have HS : Hid (printed (l.take (j + 1)) = S.data.toList ++ (txt 40 d ++ [10])) := by
        rw [hS]; exact printed_snoc l j d hd
      have HS2 : Hid ((printed (l.take (j + 1))).length ≤ 48000) := Nat.le_trans (printed_take l (j + 1)) HPL.out
      have HM : Hid (∃ m, m ≤ 2000 ∧ (chk 40 d m).1 = 0) := HOK.out d (List.mem_of_getElem? hd)
      clear hd hall hkk hLr hne hg hkn hres hS
      go_wp2_with fail
      refine (Text_any B 40 g' d a' cap' _ (HA.out.1.below ((Below.refl _ _).alloc (by omega) _)) HM.out HN.out (by simp; omega) (HA.out.2.below ((Below.refl _ _).alloc (by omega) _))).mono ?_
      rintro e w2 ⟨rfl, hb2⟩
      have HR2 : Hid (Res w.heap.size w w2) := (HR.out.alloc _).after hb2
      have hTz : (⟨(txt 40 d).toArray⟩ : ByteArray).size ≤ 48000 := by
        show (txt 40 d).toArray.size ≤ 48000
        rw [List.size_toArray]
        exact txt_small HM.out
      obtain ⟨T, HT⟩ : ∃ T : ByteArray, Hid (T = ⟨(txt 40 d).toArray⟩) := ⟨_, rfl⟩
      rw [← HT.out] at hTz ⊢
      clear hb2 HA HL HOK HR k0 k1 k2 k3 k4 k5
      go_wp2_with fail
      go_roundw
      case rel =>
        have e1 : (S ++ T ++ (⟨#[10]⟩ : ByteArray)).data.toList = printed (l.take (j + 1)) := by
          rw [HS.out, HT.out]
          simp
        refine ⟨j + 1, _, by omega, by go_num, rfl, e1, ?_, HR2.out⟩
        rw [← size_list, e1]
        exact HS2.out
      case measure => simp [intOf]; omega
    · obtain rfl : j = l.length := by omega
      rw [List.take_length] at hS
      have HS : Hid (S.data.toList = printed l) := hS
      have hlen : Hid ((printed l).length = S.size) := by
        show (printed l).length = S.size
        rw [← hS, size_list]
      clear hS HL HOK hres
      by_cases h6 : 6000 < S.size
      · go_wp2_with fail
        refine bodyPost_ret (v := .tuple #[.string ⟨#[]⟩, fv (4, 0)]) (by simp [results, Tryd.results14, go_sem, q0, q1, hz, fv]) rfl ⟨by rw [HP1.out (by rw [hlen.out]; exact h6)], ?_⟩
        exact (HR.out.below.setCell (p := ⟨w.heap.size, 0, none⟩) (Nat.le_refl _) _).setCell (p := ⟨w.heap.size, 1, none⟩) (Nat.le_refl _) _
      · go_wp2_with fail
        refine bodyPost_ret (v := .tuple #[.string S, fv (0, 0)]) (by simp [results, Tryd.results14, go_sem, q0, q1, hz, fv]) rfl ⟨?_, ?_⟩
        · rw [HP2.out (by rw [hlen.out]; exact h6)]
          have : S = ⟨(printed l).toArray⟩ := WideShapes.bytes_inj HS.out
          rw [this]
        · exact (HR.out.below.setCell (p := ⟨w.heap.size, 0, none⟩) (Nat.le_refl _) _).setCell (p := ⟨w.heap.size, 1, none⟩) (Nat.le_refl _) _

/-- WHAT THE DOCUMENT PRINTS of any data. -/
theorem refPrint_any (B g : Nat) (l : List Dat) (a : Option Addr) (cap : Nat) (w : World) (hl : Lies B w g a l) (hB : B ≤ w.heap.size) (ht : Tab B w) :
    Calls Tryd.prog 14 #[.slice a l.length cap] w fun e w' => e = .returned (.tuple #[.string (prt l).1, fv (prt l).2]) ∧ Below w.heap.size w w' := by
  by_cases h0 : (wrong l).1 = 0
  · exact refPrint_good B g l a cap w hl hB ht h0
  · exact refPrint_bad B g l a cap w hl hB h0
end Go.Proofs.YtagpcafbeplccaaDoor
