/- Chapter 9: the reader: counts, texts. -/
import Derived.Test.YtfmanhkeclogfaaGreatDoorK36
import Derived.Laws.IdiomStrings
namespace Go.Proofs.YtfmanhkeclogfaaGreatDoor
set_option linter.unusedVariables false
set_option linter.unusedSimpArgs false
open Go.RowKit

def countR (l : List UInt8) (bad : Bool) : Int × List UInt8 × Bool := if (numR l bad).2.2 = true ∨ (numR l bad).1 < 0 ∨ ((numR l bad).2.1.length : Int) < (numR l bad).1 then (0, (numR l bad).2.1, true) else ((numR l bad).1, (numR l bad).2.1, false)
theorem countR_nat (l : List UInt8) (bad : Bool) : ∃ m : Nat, (countR l bad).1 = m ∧ m ≤ (countR l bad).2.1.length := by
  unfold countR
  split
  · exact ⟨0, rfl, Nat.zero_le _⟩
  · exact ⟨(numR l bad).1.toNat, by simp only; omega, by simp only; omega⟩
set_option maxRecDepth 100000 in
set_option maxHeartbeats 3200000 in
theorem rcount_any (M b : Nat) (l : List UInt8) (bad : Bool) (w : World) (h : RD M b l bad w) : Calls Tryz.prog 61 #[.pointer (some ⟨b, 0, none⟩)] w (ToldN M b (countR l bad) w) := by
  have N := hidd (rnumber_any M b l bad w h)
  obtain ⟨rs, hrs⟩ : ∃ r, r = countR l bad := ⟨_, rfl⟩
  rw [← hrs]
  unfold countR at hrs
  have HRS := hidd hrs
  clear hrs h
  generalize numR l bad = y at N HRS
  obtain ⟨n, l1, b1⟩ := y
  simp only at HRS
  go_enter Tryz.func61, Tryz.ntmps61
  go_wp2_with fail
  refine N.out.mono ?_
  rintro e w1 ⟨rfl, h1, k1⟩
  simp only at h1
  have HB := hidd h1.bad
  have HR1 := hidd h1
  have HK1 := hidd k1
  obtain ⟨hbM, hMw, a, cap, g1, g2, g3, g4⟩ := h1
  have c0 : w1.cell? ⟨b, 0, none⟩ = some (.slice a l1.length cap) := (cellO g1).trans rfl
  have c1 : w1.cell? ⟨b, 1, none⟩ = some (.bool b1) := (cellO g1).trans rfl
  have z1 := looseO (q := 1) g1
  clear g1 g2 g3 g4 k1 N
  obtain ⟨ln, hln⟩ : ∃ n, n = l1.length := ⟨_, rfl⟩
  rw [← hln] at c0 HRS
  clear hln
  simp only
  cases b1
  case true =>
    have hre := HRS.out
    rw [if_pos (Or.inl rfl)] at hre
    subst hre
    clear HRS
    go_wp2_with fail
    go_ret
    exact ⟨rfl, HB.out.1, HK1.out.trans HB.out.2⟩
  by_cases hn0 : n < 0
  · have hre := HRS.out
    rw [if_pos (Or.inr (Or.inl hn0))] at hre
    subst hre
    clear HRS
    go_wp2_with fail
    go_ret
    exact ⟨rfl, HB.out.1, HK1.out.trans HB.out.2⟩
  by_cases hnl : (ln : Int) < n
  · have hre := HRS.out
    rw [if_pos (Or.inr (Or.inr hnl))] at hre
    subst hre
    clear HRS
    go_wp2_with fail
    go_ret
    exact ⟨rfl, HB.out.1, HK1.out.trans HB.out.2⟩
  have hre := HRS.out
  rw [if_neg (by simp; omega)] at hre
  subst hre
  clear HRS
  go_wp2_with fail
  go_ret
  exact ⟨rfl, HR1.out, HK1.out⟩
def textR (l : List UInt8) (bad : Bool) : List UInt8 × List UInt8 × Bool := ((countR l bad).2.1.take (countR l bad).1.toNat, (countR l bad).2.1.drop (countR l bad).1.toNat, (countR l bad).2.2)
def ToldT (M b : Nat) (r : List UInt8 × List UInt8 × Bool) (w : World) (e : Ending) (w' : World) : Prop := e = .returned (.string ⟨r.1.toArray⟩) ∧ RD M b r.2.1 r.2.2 w' ∧ Keep b w w'
theorem RD.drop0 {M b g o cap k : Nat} {l : List UInt8} {bad : Bool} {w : World} (hb : b < M) (hM : M ≤ w.heap.size) (h1 : w.heap[b]? = some (.cells #[.slice (some ⟨g, o, none⟩) l.length cap, .bool bad] 73 (0, 0))) (h3 : cap ≤ maxLen) (h2 : l.length ≤ cap) (h4 : ByG M b w (some ⟨g, o, none⟩) cap l) (hk : k ≤ l.length) {a' : Option Addr} (o' : Nat) (ha : a' = some ⟨g, o', none⟩) (ho : k < cap → o' = o + k) {n' c' : Nat} (hn : n' = l.length - k) (hc : c' = cap - k) :
    RD M b (l.drop k) bad (w.setCell ⟨b, 0, none⟩ (.slice a' n' c')) ∧ Keep b w (w.setCell ⟨b, 0, none⟩ (.slice a' n' c')) := by
  have k1 := (Keep.refl b w).setCell ⟨b, 0, none⟩ rfl (.slice a' n' c')
  refine ⟨⟨hb, Nat.le_trans hM k1.size, a', c', ?_, by rw [List.length_drop]; omega, by omega, ?_⟩, k1⟩
  · rw [two_at0 h1, List.length_drop, hn]
  · rcases h4.keep hM k1 with ⟨h, _⟩ | ⟨g', o2, e1, e2, e3, e4⟩
    · simp at h
    · simp at e1
      obtain ⟨rfl, rfl⟩ := e1
      refine Or.inr ⟨g, o', ha, e2, e3, fun i c hc => ?_⟩
      rw [List.getElem?_drop] at hc
      have := (List.getElem?_eq_some_iff.1 hc).1
      rw [ho (by omega), Nat.add_assoc]
      exact e4 (k + i) c hc
theorem addr_plus (g o j : Nat) : (⟨g, o, none⟩ : Addr).add j = ⟨g, o + j, none⟩ := by simp [Addr.add]
set_option maxRecDepth 100000 in
set_option maxHeartbeats 3200000 in
theorem rtext_any (M b : Nat) (l : List UInt8) (bad : Bool) (w : World) (h : RD M b l bad w) : Calls Tryz.prog 60 #[.pointer (some ⟨b, 0, none⟩)] w (ToldT M b (textR l bad) w) := by
  have N := hidd (rcount_any M b l bad w h)
  have HCN := hidd (countR_nat l bad)
  obtain ⟨rs, hrs⟩ : ∃ r, r = textR l bad := ⟨_, rfl⟩
  rw [← hrs]
  unfold textR at hrs
  generalize countR l bad = y at N HCN hrs
  obtain ⟨n, l1, b1⟩ := y
  simp only at HCN hrs
  obtain ⟨m, rfl, hm⟩ := HCN.out
  rw [Int.toNat_natCast] at hrs
  clear h HCN
  go_enter Tryz.func60, Tryz.ntmps60
  go_wp2_with fail
  refine N.out.mono ?_
  rintro e w1 ⟨rfl, h1, k1⟩
  simp only at h1
  have HR1 := hidd h1
  have HK1 := hidd k1
  obtain ⟨hbM, hMw, a, cap, g1, g2, g3, g4⟩ := h1
  have c0 : w1.cell? ⟨b, 0, none⟩ = some (.slice a l1.length cap) := (cellO g1).trans rfl
  have z0 := looseO (q := 0) g1
  have hcap : cap ≤ 9223372036854775807 := by unfold maxLen at g3; omega
  rcases id g4 with ⟨rfl, rfl, rfl⟩ | ⟨g, o, rfl, hgb, hgs, hall⟩
  · obtain rfl : m = 0 := by simpa using hm
    have hcv := Lib.run_convert_nil_bytes (P := Tryz.prog) w1 25 9 5 0 Tryz.underlying25 Tryz.underlying5 Tryz.underlying9
    have HD : Hid (RD M b [] b1 (w1.setCell ⟨b, 0, none⟩ (.slice none 0 0)) ∧ Keep b w1 (w1.setCell ⟨b, 0, none⟩ (.slice none 0 0))) := by
      have k2 := (Keep.refl b w1).setCell ⟨b, 0, none⟩ rfl (.slice none 0 0)
      exact ⟨⟨hbM, Nat.le_trans hMw k2.size, none, 0, two_at0 g1 _, Nat.le_refl _, by decide, Or.inl ⟨rfl, rfl, rfl⟩⟩, k2⟩
    simp only [List.length_nil] at c0
    subst hrs
    clear g1 g2 g3 g4 k1 N HR1
    go_wp2_with fail
    go_ret
    exact ⟨rfl, HD.out.1, HK1.out.trans HD.out.2⟩
  · have hcv : (convert 25 9 (.slice (some ⟨g, o, none⟩) m cap)).run Tryz.prog w1 = .ok (.string ⟨(l1.take m).toArray⟩) w1 := by
      have hl : (l1.take m).length = m := by simp; omega
      have := run_convert_bytes_back (P := Tryz.prog) w1 25 9 5 ⟨g, o, none⟩ cap (l1.take m) Tryz.underlying25 Tryz.underlying5 Tryz.underlying9 (fun j hj => by
        rw [addr_plus]
        have hj1 : j < l1.length := by simp at hj; omega
        rw [hall j l1[j] (List.getElem?_eq_getElem hj1)]
        simp)
      rw [hl] at this
      exact this
    have D1 : Hid (m = cap → RD M b (l1.drop m) b1 (w1.setCell ⟨b, 0, none⟩ (.slice (some ⟨g, o, none⟩) 0 0)) ∧ Keep b w1 (w1.setCell ⟨b, 0, none⟩ (.slice (some ⟨g, o, none⟩) 0 0))) := fun hc => RD.drop0 hbM hMw g1 g3 g2 g4 hm o rfl (fun h => by omega) (by omega) (by omega)
    have D2 : Hid (RD M b (l1.drop m) b1 (w1.setCell ⟨b, 0, none⟩ (.slice (some ⟨g, o + m, none⟩) (l1.length - m) (cap - m))) ∧ Keep b w1 (w1.setCell ⟨b, 0, none⟩ (.slice (some ⟨g, o + m, none⟩) (l1.length - m) (cap - m)))) := RD.drop0 hbM hMw g1 g3 g2 g4 hm (o + m) rfl (fun h => rfl) rfl rfl
    subst hrs
    clear g1 g3 g4 k1 N HR1 hall
    obtain ⟨s, hs⟩ : ∃ s, s = l1.take m := ⟨_, rfl⟩
    have HSS := hidd hs
    rw [← hs] at hcv
    clear hs
    obtain ⟨ln, hln⟩ : ∃ n, n = l1.length := ⟨_, rfl⟩
    rw [← hln] at c0 hm g2 D2
    clear hln
    by_cases hmc : m < cap
    · clear D1
      go_wp2_with fail
      go_ret
      exact ⟨by rw [HSS.out]; rfl, D2.out.1, HK1.out.trans D2.out.2⟩
    · obtain rfl : m = cap := by omega
      obtain rfl : ln = m := by omega
      have HD := hidd (D1.out rfl)
      clear D1 D2
      go_wp2_with fail
      go_ret
      exact ⟨by rw [HSS.out]; rfl, HD.out.1, HK1.out.trans HD.out.2⟩
end Go.Proofs.YtfmanhkeclogfaaGreatDoor
