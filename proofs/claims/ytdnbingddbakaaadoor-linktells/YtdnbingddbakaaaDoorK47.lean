/- Chapter 11, the document's side: what is wrong with an image. -/
import Derived.Test.YtdnbingddbakaaaDoorK40
namespace Go.Proofs.YtdnbingddbakaaaDoor
set_option linter.unusedVariables false
set_option linter.unusedSimpArgs false
open Go.RowKit

/-- Starts are procedures' numbers, each above the one ahead. -/
def stW (n : Nat) : List Int → Int → Int
  | [], _ => 0
  | s :: r, last => if s ≤ last ∨ (n : Int) ≤ s then 3 else stW n r s
/-- WHAT IS WRONG WITH AN IMAGE. -/
def wrongIm (gn : Nat) (PP : List Pro) (ss : List Int) : Int :=
  if 500 < gn ∨ 20000 < PP.length ∨ 40 < ss.length then 5 else if stW PP.length ss (-1) ≠ 0 then 3 else wrongPs PP ss (glN (gn : Int))
theorem stW_ok {n : Nat} : ∀ (l : List Int) (last : Int), -1 ≤ last → stW n l last = 0 → ∀ s ∈ l, 0 ≤ s ∧ s < (n : Int)
  | [], _, _, _, s, hs => by simp at hs
  | x :: r, last, hl, h, s, hs => by
    rw [stW] at h
    by_cases c : x ≤ last ∨ (n : Int) ≤ x
    · rw [if_pos c] at h; simp at h
    · rw [if_neg c] at h
      simp at hs
      rcases hs with rfl | hs
      · omega
      · exact stW_ok r x (by omega) h s hs
theorem stW_drop {n : Nat} {l : List Int} {i : Nat} {s : Int} (h : l[i]? = some s) (last : Int) : stW n (l.drop i) last = if s ≤ last ∨ (n : Int) ≤ s then 3 else stW n (l.drop (i + 1)) s := by
  obtain ⟨hi, e⟩ := List.getElem?_eq_some_iff.1 h
  rw [List.drop_eq_getElem_cons hi, e, stW]
theorem stW_three {n : Nat} : ∀ (l : List Int) (last : Int), stW n l last = 0 ∨ stW n l last = 3
  | [], _ => Or.inl rfl
  | x :: r, last => by
    rw [stW]
    split
    · exact Or.inr rfl
    · exact stW_three r x
set_option maxRecDepth 100000 in
set_option maxHeartbeats 6400000 in
theorem WrongImage_any (PP : List Pro) (ss : List Int) (ba pa sa : Option Addr) (gn bc n pc m sc : Nat) (w : World) (hn : n = PP.length) (hm : m = ss.length) (hl : PL w.heap.size w pa PP) (hpc : n ≤ pc) (hsl : NL w.heap.size w sa ss) (hsc : m ≤ sc) :
    Calls Tryd.prog 11 #[.agg #[.slice ba gn bc, .slice pa n pc, .slice sa m sc]] w fun e w' => e = .returned (.int .i64 (wrongIm gn PP ss)) ∧ Below w.heap.size w w' := by
  obtain ⟨R, hR⟩ : ∃ r, r = wrongIm gn PP ss := ⟨_, rfl⟩
  rw [← hR]
  unfold wrongIm at hR
  rw [← hn, ← hm] at hR
  have HRR := hidd hR
  have ba2 := (Below.refl w.heap.size w).alloc (Nat.le_refl _) (.cells #[.slice ba gn bc, .slice pa n pc, .slice sa m sc] 27)
  have HBA := hidd ba2
  have NBX := hidd (World.alloc_heap_new w (.cells #[.slice ba gn bc, .slice pa n pc, .slice sa m sc] 27))
  have HN := hidd hn
  have HM := hidd hm
  have HL := hidd hl
  have HSL := hidd hsl
  clear hR hn hm hl hsl ba2
  go_enter Tryd.func11, Tryd.ntmps11
  go_upto_region 1 with fail
  generalize w.alloc (.cells #[.slice ba gn bc, .slice pa n pc, .slice sa m sc] 27) = V at HBA NBX ⊢
  obtain ⟨xb, hxb⟩ : ∃ u, u = w.heap.size := ⟨_, rfl⟩
  rw [← hxb] at NBX ⊢
  clear hxb
  have y0 : V.cell? ⟨xb, 0, none⟩ = some (.slice ba gn bc) := (cellO NBX.out).trans rfl
  have y1 : V.cell? ⟨xb, 1, none⟩ = some (.slice pa n pc) := (cellO NBX.out).trans rfl
  have y2 : V.cell? ⟨xb, 2, none⟩ = some (.slice sa m sc) := (cellO NBX.out).trans rfl
  by_cases c1 : 500 < gn
  · have hy : R = 5 := by rw [HRR.out, if_pos (Or.inl c1)]
    have d1 : decide ((gn : Int) > 500) = true := by simp; omega
    have d1' : decide (500 < (gn : Int)) = true := by simp; omega
    subst hy
    clear c1
    go_wp2_with fail
    go_ret
    exact ⟨rfl, HBA.out⟩
  have d1 : decide ((gn : Int) > 500) = false := by simp; omega
  have d1' : decide (500 < (gn : Int)) = false := by simp; omega
  by_cases c2 : 20000 < n
  · have hy : R = 5 := by rw [HRR.out, if_pos (Or.inr (Or.inl c2))]
    have d2 : decide ((n : Int) > 20000) = true := by simp; omega
    have d2' : decide (20000 < (n : Int)) = true := by simp; omega
    subst hy
    clear c1 c2
    go_wp2_with fail
    go_ret
    exact ⟨rfl, HBA.out⟩
  have d2 : decide ((n : Int) > 20000) = false := by simp; omega
  have d2' : decide (20000 < (n : Int)) = false := by simp; omega
  by_cases c3 : 40 < m
  · have hy : R = 5 := by rw [HRR.out, if_pos (Or.inr (Or.inr c3))]
    have d3 : decide ((m : Int) > 40) = true := by simp; omega
    have d3' : decide (40 < (m : Int)) = true := by simp; omega
    subst hy
    clear c1 c2 c3
    go_wp2_with fail
    go_ret
    exact ⟨rfl, HBA.out⟩
  have d3 : decide ((m : Int) > 40) = false := by simp; omega
  have d3' : decide (40 < (m : Int)) = false := by simp; omega
  have hR2 := HRR.out
  rw [if_neg (by omega)] at hR2
  have HR2 := hidd hR2
  have hn2 : n ≤ 20000 := by omega
  have hm2 : m ≤ 40 := by omega
  clear hR2 HRR c1 c2 c3
  go_wp2_with fail
  clear d1 d1' d2 d2' d3 d3' y0 y1 y2
  have hxl := (Array.getElem?_eq_some_iff.1 NBX.out).1
  go_loopw [25, 3] (fun i s3 wr => ∃ (k : Nat) (last : Int), k ≤ m ∧ i = .int .i64 k ∧ s3 = .int .i64 last ∧ Hid (stW n (ss.drop k) last = stW n ss (-1) ∧ wr = V)) (fun i _ _ => m - (intOf i).toNat)
  case atStart => exact ⟨0, -1, Nat.zero_le _, rfl, rfl, rfl, rfl⟩
  case round =>
  obtain ⟨k, last, hk, rfl, rfl, HK⟩ := hrel
  obtain ⟨hkst, hkw⟩ := HK.out
  subst hkw
  have HST := hidd hkst
  clear hkst HK
  by_cases hkl : k < m
  · obtain ⟨s, hs⟩ : ∃ s, ss[k]? = some s := ⟨_, List.getElem?_eq_getElem (by rw [← HM.out]; exact hkl)⟩
    obtain ⟨bb, bo, rfl, hbb, hbcell⟩ : ∃ b o, sa = some ⟨b, o, none⟩ ∧ b < w.heap.size ∧ ∀ i v, ss[i]? = some v → w.cell? ⟨b, o + i, none⟩ = some (.int .i64 v) := by
      rcases HSL.out with h | h
      · rw [h] at hs; simp at hs
      · exact h
    have t0 := (HBA.out.cell (p := ⟨bb, bo + k, none⟩) hbb).trans (hbcell k _ hs)
    have hsd := stW_drop (n := n) hs last
    rw [HST.out] at hsd
    have HSD := hidd hsd
    have y1 : wr.cell? ⟨xb, 1, none⟩ = some (.slice pa n pc) := (cellO NBX.out).trans rfl
    clear hs hbcell hsd
    by_cases e1 : s ≤ last
    · have d1 : decide (s ≤ last) = true := by simpa using e1
      have hy : R = 3 := by
        have := HSD.out
        rw [if_pos (Or.inl e1)] at this
        rw [HR2.out, if_pos (by rw [this]; decide)]
      subst hy
      clear e1
      go_wp2_with fail
      go_ret
      exact ⟨rfl, HBA.out⟩
    · have d1 : decide (s ≤ last) = false := by simpa using e1
      by_cases e2 : (n : Int) ≤ s
      · have d2 : decide (s ≥ (n : Int)) = true := by simpa using e2
        have d2' : decide ((n : Int) ≤ s) = true := by simpa using e2
        have hy : R = 3 := by
          have := HSD.out
          rw [if_pos (Or.inr e2)] at this
          rw [HR2.out, if_pos (by rw [this]; decide)]
        subst hy
        clear e1 e2
        go_wp2_with fail
        go_ret
        exact ⟨rfl, HBA.out⟩
      · have d2 : decide (s ≥ (n : Int)) = false := by simp; omega
        have d2' : decide ((n : Int) ≤ s) = false := by simp; omega
        have hsd := HSD.out
        rw [if_neg (by omega)] at hsd
        have HS2 := hidd hsd.symm
        clear hsd e1 e2
        go_wp2_with fail
        go_roundw
        case rel => exact ⟨k + 1, s, by omega, by go_num, rfl, HS2.out, trivial⟩
        case measure => simp [intOf]; omega
  obtain rfl : k = m := by omega
  have hz : stW n ss (-1) = 0 := by
    have := HST.out
    rw [List.drop_of_length_le (by rw [← HM.out]; exact Nat.le_refl _), stW] at this
    exact this.symm
  have hR3 := HR2.out
  rw [if_neg (by rw [hz]; decide)] at hR3
  subst hR3
  have PA := hidd (Protos_any PP ss pa sa n pc k sc (gn : Int) wr HN.out HM.out ((HL.out.below HBA.out).mono HBA.out.size) hpc hn2 (by
    rcases HSL.out with h | ⟨b, o, h1, h2, h3⟩
    · exact Or.inl h
    · exact Or.inr ⟨b, o, h1, Nat.lt_of_lt_of_le h2 HBA.out.size, fun i v hv => (HBA.out.cell (p := ⟨b, o + i, none⟩) h2).trans (h3 i v hv)⟩) hsc (by omega) (stW_ok ss (-1) (by omega) hz))
  have y0 : wr.cell? ⟨xb, 0, none⟩ = some (.slice ba gn bc) := (cellO NBX.out).trans rfl
  have y1 : wr.cell? ⟨xb, 1, none⟩ = some (.slice pa n pc) := (cellO NBX.out).trans rfl
  have y2 : wr.cell? ⟨xb, 2, none⟩ = some (.slice sa k sc) := (cellO NBX.out).trans rfl
  clear hz
  go_wp2_with fail
  refine PA.out.mono ?_
  rintro e W2 ⟨rfl, hb2⟩
  have HB2 := hidd (HBA.out.trans (hb2.mono HBA.out.size))
  clear hb2
  go_wp2_with fail
  go_ret
  exact ⟨rfl, HB2.out⟩
end Go.Proofs.YtdnbingddbakaaaDoor
