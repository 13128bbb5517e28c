/- The laws of chapter 4: alive. -/
import Derived.Test.YtilcongilokppadNa
namespace Go.Proofs.Ytilcongilokppad
set_option linter.unusedVariables false
set_option linter.unusedSimpArgs false
open Go.RowKit Go.Maps Go.WideMaps

def bA : ByteArray := ⟨#[97]⟩
def bB : ByteArray := ⟨#[98]⟩
def bC : ByteArray := ⟨#[99]⟩
theorem sA : bA.size = 1 := rfl
theorem sB : bB.size = 1 := rfl
theorem sC : bC.size = 1 := rfl
theorem one_max : 1 ≤ maxLen := by decide
theorem nds_first (w : World) : Nds (w.heap.size + 2) ((w.alloc (.cells #[.string ⟨#[98]⟩] 9)).alloc (.cells #[.string ⟨#[97]⟩, .slice (some ⟨w.heap.size, 0, none⟩) 1 1, .string ⟨#[98]⟩, .slice none 0 0] 32)) (some ⟨w.heap.size + 1, 0, none⟩) [⟨bA, [bB]⟩, ⟨bB, []⟩] := by
  have h0 : ((w.alloc (.cells #[.string ⟨#[98]⟩] 9)).alloc (.cells #[.string ⟨#[97]⟩, .slice (some ⟨w.heap.size, 0, none⟩) 1 1, .string ⟨#[98]⟩, .slice none 0 0] 32)).heap[w.heap.size]? = some (.cells #[.string ⟨#[98]⟩] 9 (0, 0)) := (Below.heap_alloc _ _ _ (by simp)).trans (heap_alloc_new w _)
  have h1 : ((w.alloc (.cells #[.string ⟨#[98]⟩] 9)).alloc (.cells #[.string ⟨#[97]⟩, .slice (some ⟨w.heap.size, 0, none⟩) 1 1, .string ⟨#[98]⟩, .slice none 0 0] 32)).heap[w.heap.size + 1]? = some (.cells #[.string ⟨#[97]⟩, .slice (some ⟨w.heap.size, 0, none⟩) 1 1, .string ⟨#[98]⟩, .slice none 0 0] 32 (0, 0)) := by
    simpa using heap_alloc_new (w.alloc (.cells #[.string ⟨#[98]⟩] 9)) (.cells #[.string ⟨#[97]⟩, .slice (some ⟨w.heap.size, 0, none⟩) 1 1, .string ⟨#[98]⟩, .slice none 0 0] 32)
  refine ⟨by simp, by simp [sA, sB], Or.inr ⟨_, _, rfl, by omega, fun i nd hi => ?_⟩⟩
  match i, hi with
  | 0, hi =>
    cases hi
    refine ⟨by simp only [World.cell?, h1]; rfl, some ⟨w.heap.size, 0, none⟩, 1, by simp only [World.cell?, h1]; rfl, by simp, by simp [sB, one_max], Or.inr ⟨_, _, rfl, by omega, fun j s hj => ?_⟩⟩
    match j, hj with
    | 0, hj =>
      cases hj
      simp only [World.cell?, h0]
      rfl
  | 1, hi =>
    cases hi
    exact ⟨by simp only [World.cell?, h1]; rfl, none, 0, by simp only [World.cell?, h1]; rfl, Strs.nil _ _ _⟩
theorem nds_second (w : World) : Nds (w.heap.size + 2) ((w.alloc (.cells #[.string ⟨#[99]⟩] 9)).alloc (.cells #[.string ⟨#[99]⟩, .slice (some ⟨w.heap.size, 0, none⟩) 1 1] 32)) (some ⟨w.heap.size + 1, 0, none⟩) [⟨bC, [bC]⟩] := by
  have h0 : ((w.alloc (.cells #[.string ⟨#[99]⟩] 9)).alloc (.cells #[.string ⟨#[99]⟩, .slice (some ⟨w.heap.size, 0, none⟩) 1 1] 32)).heap[w.heap.size]? = some (.cells #[.string ⟨#[99]⟩] 9 (0, 0)) := (Below.heap_alloc _ _ _ (by simp)).trans (heap_alloc_new w _)
  have h1 : ((w.alloc (.cells #[.string ⟨#[99]⟩] 9)).alloc (.cells #[.string ⟨#[99]⟩, .slice (some ⟨w.heap.size, 0, none⟩) 1 1] 32)).heap[w.heap.size + 1]? = some (.cells #[.string ⟨#[99]⟩, .slice (some ⟨w.heap.size, 0, none⟩) 1 1] 32 (0, 0)) := by
    simpa using heap_alloc_new (w.alloc (.cells #[.string ⟨#[99]⟩] 9)) (.cells #[.string ⟨#[99]⟩, .slice (some ⟨w.heap.size, 0, none⟩) 1 1] 32)
  refine ⟨by simp, by simp [sC], Or.inr ⟨_, _, rfl, by omega, fun i nd hi => ?_⟩⟩
  match i, hi with
  | 0, hi =>
    cases hi
    refine ⟨by simp only [World.cell?, h1]; rfl, some ⟨w.heap.size, 0, none⟩, 1, by simp only [World.cell?, h1]; rfl, by simp, by simp [sC, one_max], Or.inr ⟨_, _, rfl, by omega, fun j s hj => ?_⟩⟩
    match j, hj with
    | 0, hj =>
      cases hj
      simp only [World.cell?, h0]
      rfl

set_option maxRecDepth 100000 in
set_option maxHeartbeats 6400000 in
theorem alive_any (w : World) : Calls Try.prog 11 #[] w fun e w' => e = .returned (.bool true) ∧ Below w.heap.size w w' := by
  go_enter Try.func11, Try.ntmps11
  go_wp2_with fail
  refine (Order_any (w.heap.size + 2) [⟨bA, [bB]⟩, ⟨bB, []⟩] _ 2 _ (nds_first w) (by simp) (by decide)).mono ?_
  rintro e w1 ⟨hb1, out, who, er, v, rfl, hr, ht, hz⟩
  obtain ⟨rfl, rfl⟩ := alive_first (by decide) ht
  obtain ⟨oa, oc, rfl, hst⟩ := hr.lie (by simp) (by simp [sA, sB, one_max])
  obtain ⟨b, o, s, rfl, hbB, hs, hcs, hsz⟩ := hst.at (j := 0) (by simp)
  cases hs
  have HB : Hid (Below w.heap.size w w1) := (((Below.refl _ _).alloc (Nat.le_refl _) _).alloc (by simp) _).trans (hb1.mono (by simp; omega))
  clear hb1 hr ht hz hst hsz
  go_wp2_with fail
  refine (Order_any (w1.heap.size + 2) [⟨bC, [bC]⟩] _ 1 _ (nds_second w1) (by simp) (by decide)).mono ?_
  rintro e w2 ⟨hb2, out2, who2, er2, v2, rfl, hr2, ht2, hz2⟩
  obtain ⟨rfl, rfl⟩ := alive_second ht2
  have hb12 : Below w1.heap.size w1 w2 := (((Below.refl _ _).alloc (Nat.le_refl _) _).alloc (by simp) _).trans (hb2.mono (by simp; omega))
  have c0 : w2.cell? ⟨b, o, none⟩ = some (.string ⟨#[98]⟩) := (hb12.cell (p := ⟨b, o, none⟩) hbB).trans hcs
  have H2 : Hid (Below w.heap.size w w2) := HB.out.trans (hb12.mono HB.out.size)
  clear hb2 hr2 ht2 hz2 hcs hb12
  have hC : bC = ⟨#[99]⟩ := rfl
  rw [hC]
  go_wp2_with fail
  go_ret
  exact ⟨rfl, H2.out⟩
end Go.Proofs.Ytilcongilokppad
