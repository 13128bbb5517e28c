/- Chapter 9: the reader: instructions. -/
import Derived.Test.YtfmanhkeclogfaaGreatDoorK37
import Derived.Test.YtfmanhkeclogfaaGreatDoorK15
namespace Go.Proofs.YtfmanhkeclogfaaGreatDoor
set_option linter.unusedVariables false
set_option linter.unusedSimpArgs false
open Go.RowKit

/-- How what is quoted is read, where it is told. -/
abbrev QR := List UInt8 → Bool → Option (Dat × List UInt8 × Bool)
def insR (qr : QR) (l : List UInt8) (bad : Bool) : Option (In × List UInt8 × Bool) :=
  if layW (numR l bad).1 = 0 then some (insO (numR l bad).1, (numR l bad).2.1, true)
  else if layW (numR l bad).1 = 1 then some (insO (numR l bad).1, (numR l bad).2)
  else if layW (numR l bad).1 = 2 then some (insN (numR l bad).1 (numR (numR l bad).2.1 (numR l bad).2.2).1, (numR (numR l bad).2.1 (numR l bad).2.2).2)
  else if layW (numR l bad).1 = 3 then (qr (numR l bad).2.1 (numR l bad).2.2).map fun q => (⟨(numR l bad).1, 0, 0, ⟨#[]⟩, ⟨#[]⟩, q.1⟩, q.2)
  else if layW (numR l bad).1 = 4 then some (insG (numR l bad).1 ⟨(textR (numR l bad).2.1 (numR l bad).2.2).1.toArray⟩ ⟨(textR (textR (numR l bad).2.1 (numR l bad).2.2).2.1 (textR (numR l bad).2.1 (numR l bad).2.2).2.2).1.toArray⟩, (textR (textR (numR l bad).2.1 (numR l bad).2.2).2.1 (textR (numR l bad).2.1 (numR l bad).2.2).2.2).2)
  else if layW (numR l bad).1 = 5 then some (insG (numR l bad).1 ⟨#[]⟩ ⟨(textR (numR l bad).2.1 (numR l bad).2.2).1.toArray⟩, (textR (numR l bad).2.1 (numR l bad).2.2).2)
  else some (insA (numR l bad).1 (numR (numR l bad).2.1 (numR l bad).2.2).1, (numR (numR l bad).2.1 (numR l bad).2.2).2)
/-- What is quoted is read so. -/
def Qok (qr : QR) : Prop := ∀ (M b : Nat) (l : List UInt8) (bad : Bool) (w : World) (d : Dat) (l' : List UInt8) (bad' : Bool), RD M b l bad w → qr l bad = some (d, l', bad') →
  Calls Tryz.prog 120 #[.pointer (some ⟨b, 0, none⟩)] w fun e w' => ∃ qa qc, e = .returned (.agg #[.int .i64 d.kind, .int .i64 d.n, .string d.name, .int .i64 d.stamp, .int .i64 d.lib, .slice qa d.kids.length qc]) ∧ RD M b l' bad' w' ∧ Keep b w w' ∧ d.kids.length ≤ qc ∧ d.name.size ≤ maxLen ∧ ∃ f, Dc (fun k => w.heap.size ≤ k ∧ k < w'.heap.size) w' f qa d.kids
def ToldRI (M b : Nat) (r : In × List UInt8 × Bool) (w : World) (e : Ending) (w' : World) : Prop :=
  ∃ qa qc, e = .returned (iv r.1 qa qc) ∧ RD M b r.2.1 r.2.2 w' ∧ Keep b w w' ∧ r.1.lib.size ≤ maxLen ∧ r.1.own.size ≤ maxLen ∧ r.1.quote.name.size ≤ maxLen ∧ r.1.quote.kids.length ≤ qc ∧ ∃ f, Dc (fun k => w.heap.size ≤ k ∧ k < w'.heap.size) w' f qa r.1.quote.kids
theorem ret92 {ts : Array Value} {W : World} {N : Nat} {x0 x1 x2 x3 x4 x5 x6 x7 x8 x9 x10 : Value} (h : W.heap[N]? = some (.cells #[x0, x1, x2, x3, x4, x5, x6, x7, x8, x9, x10] 52 (0, 0))) (h4 : ts[2]? = some (.pointer (some ⟨N, 0, none⟩))) :
    (results Tryz.f92 ts).run Tryz.prog W = .ok (.agg #[x0, x1, x2, x3, x4, x5, x6, x7, x8, x9, x10]) W := by
  have cc : ∀ q, W.cell? ⟨N, q, none⟩ = #[x0, x1, x2, x3, x4, x5, x6, x7, x8, x9, x10][q]? := fun q => by simp [World.cell?, h]
  have q0 := cc 0
  have q1 := cc 1
  have q2 := cc 2
  have q3 := cc 3
  have q4 := cc 4
  have q5 := cc 5
  have q6 := cc 6
  have q7 := cc 7
  have q8 := cc 8
  have q9 := cc 9
  have q10 := cc 10
  simp at q0 q1 q2 q3 q4 q5 q6 q7 q8 q9 q10
  simp [results, Tryz.results92, go_sem, h4, q0, q1, q2, q3, q4, q5, q6, q7, q8, q9, q10]
/-- A block of an instruction's, one cell set. -/
theorem cell_set {W : World} {N q : Nat} {cs : Array Value} {t : TypeId} (h : W.heap[N]? = some (.cells cs t (0, 0))) (v : Value) : (W.setCell ⟨N, q, none⟩ v).heap[N]? = some (.cells (cs.setIfInBounds q v) t (0, 0)) := heap_setCell_same W N q cs t v h
/-- What an instruction being read has in memory. -/
structure RI (M b N1 N2 : Nat) (l : List UInt8) (bad : Bool) (cs : Array Value) (w W : World) : Prop where
  rd : RD M b l bad W
  kb : Keep b w W
  n1 : W.heap[N1]? = some (.cells #[.int .i64 0, .int .i64 0, .int .i64 0, .string ⟨#[]⟩, .string ⟨#[]⟩, .int .i64 0, .int .i64 0, .string ⟨#[]⟩, .int .i64 0, .int .i64 0, .slice none 0 0] 52 (0, 0))
  n2 : W.heap[N2]? = some (.cells cs 52 (0, 0))
  l1 : w.heap.size ≤ N1
  l2 : w.heap.size ≤ N2
  ne : N1 ≠ N2
  mw : M ≤ w.heap.size
theorem RI.lt {M b N1 N2 l bad cs w W} (h : RI M b N1 N2 l bad cs w W) : b < N1 ∧ b < N2 := ⟨by have := h.rd.1; have := h.mw; have := h.l1; omega, by have := h.rd.1; have := h.mw; have := h.l2; omega⟩
theorem RI.call {M b N1 N2 l bad cs w W l' bad' W'} (h : RI M b N1 N2 l bad cs w W) (hr : RD M b l' bad' W') (hk : Keep b W W') : RI M b N1 N2 l' bad' cs w W' :=
  ⟨hr, h.kb.trans hk, (hk.block _ (Array.getElem?_eq_some_iff.1 h.n1).1 (by have := h.lt; simp; omega)).trans h.n1, (hk.block _ (Array.getElem?_eq_some_iff.1 h.n2).1 (by have := h.lt; simp; omega)).trans h.n2, h.l1, h.l2, h.ne, h.mw⟩
theorem RI.set {M b N1 N2 l bad cs w W} (h : RI M b N1 N2 l bad cs w W) (q : Nat) (v : Value) : RI M b N1 N2 l bad (cs.setIfInBounds q v) w (W.setCell ⟨N2, q, none⟩ v) :=
  ⟨h.rd.off (fun k hk => Below.heap_setCell _ _ _ _ (by have := h.mw; have := h.l2; show k ≠ N2; omega)) (Nat.le_trans h.rd.2.1 (by simp [World.setCell])), h.kb.setNew ⟨N2, q, none⟩ h.l2 v, (Below.heap_setCell _ _ _ _ h.ne).trans h.n1, cell_set h.n2 v, h.l1, h.l2, h.ne, h.mw⟩
theorem RI.fill {M b N1 N2 l bad cs w W} (h : RI M b N1 N2 l bad cs w W) (x0 x1 x2 x3 x4 x5 x6 x7 x8 x9 x10 : Value) : RD M b l bad (fill11 W N1 x0 x1 x2 x3 x4 x5 x6 x7 x8 x9 x10) ∧ Keep b w (fill11 W N1 x0 x1 x2 x3 x4 x5 x6 x7 x8 x9 x10) := by
  have k := fill11_keep W N1 x0 x1 x2 x3 x4 x5 x6 x7 x8 x9 x10
  have hM : M ≤ N1 := Nat.le_trans h.mw h.l1
  refine ⟨h.rd.below (k.toBelow hM h.rd.2.1), ?_⟩
  have kb := h.kb
  exact ⟨k.os.trans kb.os, k.tape.trans kb.tape, k.output.trans kb.output, Nat.le_trans kb.size k.size, fun i hi hc => (k.block i (Nat.lt_of_lt_of_le hi kb.size) (by have := h.l1; simp; omega)).trans (kb.block i hi hc)⟩
theorem fill11_size (W : World) (N : Nat) (x0 x1 x2 x3 x4 x5 x6 x7 x8 x9 x10 : Value) : (fill11 W N x0 x1 x2 x3 x4 x5 x6 x7 x8 x9 x10).heap.size = W.heap.size := by simp [fill11, World.setCell]
set_option maxRecDepth 100000 in
set_option maxHeartbeats 3200000 in
theorem rins_0 (M b : Nat) (l : List UInt8) (bad : Bool) (w : World) (h : RD M b l bad w) (y : Int × List UInt8 × Bool) (hy : numR l bad = y) (hla : layW y.1 = 0) :
    Calls Tryz.prog 92 #[.pointer (some ⟨b, 0, none⟩)] w (ToldRI M b (insO y.1, y.2.1, true) w) := by
  have LY := hidd (fun w => layoutOf_any y.1 w)
  rw [hla] at LY
  have bz : Below w.heap.size w (w.alloc (.cells #[.int .i64 0, .int .i64 0, .int .i64 0, .string ⟨#[]⟩, .string ⟨#[]⟩, .int .i64 0, .int .i64 0, .string ⟨#[]⟩, .int .i64 0, .int .i64 0, .slice none 0 0] 52)) := (Below.refl _ _).alloc (Nat.le_refl _) _
  have HZ := hidd (World.alloc_heap_new w (.cells #[.int .i64 0, .int .i64 0, .int .i64 0, .string ⟨#[]⟩, .string ⟨#[]⟩, .int .i64 0, .int .i64 0, .string ⟨#[]⟩, .int .i64 0, .int .i64 0, .slice none 0 0] 52))
  have R0 := hidd (h.below (bz.mono h.2.1))
  have N := hidd (rnumber_any M b l bad _ R0.out)
  rw [hy] at N
  have HBM : Hid (b < M ∧ M ≤ w.heap.size) := ⟨h.1, h.2.1⟩
  have HBZ := hidd bz
  clear hy hla h bz
  go_enter Tryz.func92, Tryz.ntmps92
  go_upto_region 1 with fail
  generalize w.alloc (.cells #[.int .i64 0, .int .i64 0, .int .i64 0, .string ⟨#[]⟩, .string ⟨#[]⟩, .int .i64 0, .int .i64 0, .string ⟨#[]⟩, .int .i64 0, .int .i64 0, .slice none 0 0] 52) = V0 at HZ R0 N HBZ ⊢
  go_wp2_with fail
  refine N.out.mono ?_
  rintro e w1 ⟨rfl, h1, k1⟩
  obtain ⟨op, l1, b1⟩ := y
  simp only at h1 LY ⊢
  have RI2 : Hid (RI M b w.heap.size w1.heap.size l1 b1 #[.int .i64 op, .int .i64 0, .int .i64 0, .string ⟨#[]⟩, .string ⟨#[]⟩, .int .i64 0, .int .i64 0, .string ⟨#[]⟩, .int .i64 0, .int .i64 0, .slice none 0 0] w (w1.alloc (.cells #[.int .i64 op, .int .i64 0, .int .i64 0, .string ⟨#[]⟩, .string ⟨#[]⟩, .int .i64 0, .int .i64 0, .string ⟨#[]⟩, .int .i64 0, .int .i64 0, .slice none 0 0] 52))) := by
    have hlt := (Array.getElem?_eq_some_iff.1 HZ.out).1
    have hsz := k1.size
    have n1 := (k1.block _ hlt (by have := HBM.out; simp; omega)).trans HZ.out
    have k2 := (Keep.below (Keep.refl b w) HBZ.out).trans k1
    have hbm := HBM.out
    exact ⟨h1.below ((Below.refl _ _).alloc (by omega) _), k2.alloc _, (Below.heap_alloc _ _ _ (by omega)).trans n1, World.alloc_heap_new w1 _, Nat.le_refl _, by omega, by omega, by omega⟩
  clear h1 k1 N R0 HZ HBZ
  go_upto_region 2 with fail
  generalize w1.alloc (.cells #[.int .i64 op, .int .i64 0, .int .i64 0, .string ⟨#[]⟩, .string ⟨#[]⟩, .int .i64 0, .int .i64 0, .string ⟨#[]⟩, .int .i64 0, .int .i64 0, .slice none 0 0] 52) = V2 at RI2 ⊢
  generalize w1.heap.size = N2 at RI2 ⊢
  obtain ⟨N1, hN1⟩ : ∃ n, n = w.heap.size := ⟨_, rfl⟩
  have HN1 := hidd hN1
  rw [← hN1] at RI2 ⊢
  clear hN1
  have p0 : V2.cell? ⟨N2, 0, none⟩ = some (.int .i64 op) := (cellO RI2.out.n2).trans rfl
  have pz : ∀ q, V2.frozen? ⟨N2, q, none⟩ = false := fun q => looseO RI2.out.n2
  go_wp2_with fail
  refine (LY.out _).mono ?_
  rintro e w3 ⟨rfl, rfl⟩
  clear LY
  have c1 : w3.cell? ⟨b, 1, none⟩ = some (.bool b1) := by
    obtain ⟨_, _, a, cap, g1, _⟩ := RI2.out.rd
    exact (cellO g1).trans rfl
  have zb : w3.frozen? ⟨b, 1, none⟩ = false := by
    obtain ⟨_, _, a, cap, g1, _⟩ := RI2.out.rd
    exact looseO g1
  have RI3 := hidd (RI2.out.call RI2.out.rd.bad.1 RI2.out.rd.bad.2)
  go_upto_region 16 with fail
  clear c1 zb p0 pz
  generalize w3.setCell ⟨b, 1, none⟩ (.bool true) = W at RI3 ⊢
  clear RI2
  have e0 : W.cell? ⟨N2, 0, none⟩ = some (.int .i64 op) := (cellO RI3.out.n2).trans rfl
  have e1 : W.cell? ⟨N2, 1, none⟩ = some (.int .i64 0) := (cellO RI3.out.n2).trans rfl
  have e2 : W.cell? ⟨N2, 2, none⟩ = some (.int .i64 0) := (cellO RI3.out.n2).trans rfl
  have e3 : W.cell? ⟨N2, 3, none⟩ = some (.string ⟨#[]⟩) := (cellO RI3.out.n2).trans rfl
  have e4 : W.cell? ⟨N2, 4, none⟩ = some (.string ⟨#[]⟩) := (cellO RI3.out.n2).trans rfl
  have e5 : W.cell? ⟨N2, 5, none⟩ = some (.int .i64 0) := (cellO RI3.out.n2).trans rfl
  have e6 : W.cell? ⟨N2, 6, none⟩ = some (.int .i64 0) := (cellO RI3.out.n2).trans rfl
  have e7 : W.cell? ⟨N2, 7, none⟩ = some (.string ⟨#[]⟩) := (cellO RI3.out.n2).trans rfl
  have e8 : W.cell? ⟨N2, 8, none⟩ = some (.int .i64 0) := (cellO RI3.out.n2).trans rfl
  have e9 : W.cell? ⟨N2, 9, none⟩ = some (.int .i64 0) := (cellO RI3.out.n2).trans rfl
  have e10 : W.cell? ⟨N2, 10, none⟩ = some (.slice none 0 0) := (cellO RI3.out.n2).trans rfl
  have r0 : W.cell? ⟨N1, 0, none⟩ = some (.int .i64 0) := (cellO RI3.out.n1).trans rfl
  have r1 : W.cell? ⟨N1, 1, none⟩ = some (.int .i64 0) := (cellO RI3.out.n1).trans rfl
  have r2 : W.cell? ⟨N1, 2, none⟩ = some (.int .i64 0) := (cellO RI3.out.n1).trans rfl
  have r3 : W.cell? ⟨N1, 3, none⟩ = some (.string ⟨#[]⟩) := (cellO RI3.out.n1).trans rfl
  have r4 : W.cell? ⟨N1, 4, none⟩ = some (.string ⟨#[]⟩) := (cellO RI3.out.n1).trans rfl
  have r5 : W.cell? ⟨N1, 5, none⟩ = some (.int .i64 0) := (cellO RI3.out.n1).trans rfl
  have r6 : W.cell? ⟨N1, 6, none⟩ = some (.int .i64 0) := (cellO RI3.out.n1).trans rfl
  have r7 : W.cell? ⟨N1, 7, none⟩ = some (.string ⟨#[]⟩) := (cellO RI3.out.n1).trans rfl
  have r8 : W.cell? ⟨N1, 8, none⟩ = some (.int .i64 0) := (cellO RI3.out.n1).trans rfl
  have r9 : W.cell? ⟨N1, 9, none⟩ = some (.int .i64 0) := (cellO RI3.out.n1).trans rfl
  have r10 : W.cell? ⟨N1, 10, none⟩ = some (.slice none 0 0) := (cellO RI3.out.n1).trans rfl
  have rz : ∀ q, W.frozen? ⟨N1, q, none⟩ = false := fun q => looseO RI3.out.n1
  have END := hidd (fill11_heap RI3.out.n1 (.int .i64 op) (.int .i64 0) (.int .i64 0) (.string ⟨#[]⟩) (.string ⟨#[]⟩) (.int .i64 0) (.int .i64 0) (.string ⟨#[]⟩) (.int .i64 0) (.int .i64 0) (.slice none 0 0))
  have FIL := hidd (RI3.out.fill (.int .i64 op) (.int .i64 0) (.int .i64 0) (.string ⟨#[]⟩) (.string ⟨#[]⟩) (.int .i64 0) (.int .i64 0) (.string ⟨#[]⟩) (.int .i64 0) (.int .i64 0) (.slice none 0 0))
  have FSZ := hidd (fill11_size W N1 (.int .i64 op) (.int .i64 0) (.int .i64 0) (.string ⟨#[]⟩) (.string ⟨#[]⟩) (.int .i64 0) (.int .i64 0) (.string ⟨#[]⟩) (.int .i64 0) (.int .i64 0) (.slice none 0 0))
  have FKP := hidd (fill11_keep W N1 (.int .i64 op) (.int .i64 0) (.int .i64 0) (.string ⟨#[]⟩) (.string ⟨#[]⟩) (.int .i64 0) (.int .i64 0) (.string ⟨#[]⟩) (.int .i64 0) (.int .i64 0) (.slice none 0 0))
  go_wp2_with fail
  exact bodyPost_ret (ret92 END.out rfl) rfl ⟨none, 0, rfl, FIL.out.1, FIL.out.2, Nat.zero_le _, Nat.zero_le _, Nat.zero_le _, Nat.le_refl _, 0, Dc.nil _ _ _ _⟩
set_option maxRecDepth 100000 in
set_option maxHeartbeats 3200000 in
theorem rins_1 (M b : Nat) (l : List UInt8) (bad : Bool) (w : World) (h : RD M b l bad w) (y : Int × List UInt8 × Bool) (hy : numR l bad = y) (hla : layW y.1 = 1) :
    Calls Tryz.prog 92 #[.pointer (some ⟨b, 0, none⟩)] w (ToldRI M b (insO y.1, y.2) w) := by
  have LY := hidd (fun w => layoutOf_any y.1 w)
  rw [hla] at LY
  have bz : Below w.heap.size w (w.alloc (.cells #[.int .i64 0, .int .i64 0, .int .i64 0, .string ⟨#[]⟩, .string ⟨#[]⟩, .int .i64 0, .int .i64 0, .string ⟨#[]⟩, .int .i64 0, .int .i64 0, .slice none 0 0] 52)) := (Below.refl _ _).alloc (Nat.le_refl _) _
  have HZ := hidd (World.alloc_heap_new w (.cells #[.int .i64 0, .int .i64 0, .int .i64 0, .string ⟨#[]⟩, .string ⟨#[]⟩, .int .i64 0, .int .i64 0, .string ⟨#[]⟩, .int .i64 0, .int .i64 0, .slice none 0 0] 52))
  have R0 := hidd (h.below (bz.mono h.2.1))
  have N := hidd (rnumber_any M b l bad _ R0.out)
  rw [hy] at N
  have HBM : Hid (b < M ∧ M ≤ w.heap.size) := ⟨h.1, h.2.1⟩
  have HBZ := hidd bz
  clear hy hla h bz
  go_enter Tryz.func92, Tryz.ntmps92
  go_upto_region 1 with fail
  generalize w.alloc (.cells #[.int .i64 0, .int .i64 0, .int .i64 0, .string ⟨#[]⟩, .string ⟨#[]⟩, .int .i64 0, .int .i64 0, .string ⟨#[]⟩, .int .i64 0, .int .i64 0, .slice none 0 0] 52) = V0 at HZ R0 N HBZ ⊢
  go_wp2_with fail
  refine N.out.mono ?_
  rintro e w1 ⟨rfl, h1, k1⟩
  obtain ⟨op, l1, b1⟩ := y
  simp only at h1 LY ⊢
  have RI2 : Hid (RI M b w.heap.size w1.heap.size l1 b1 #[.int .i64 op, .int .i64 0, .int .i64 0, .string ⟨#[]⟩, .string ⟨#[]⟩, .int .i64 0, .int .i64 0, .string ⟨#[]⟩, .int .i64 0, .int .i64 0, .slice none 0 0] w (w1.alloc (.cells #[.int .i64 op, .int .i64 0, .int .i64 0, .string ⟨#[]⟩, .string ⟨#[]⟩, .int .i64 0, .int .i64 0, .string ⟨#[]⟩, .int .i64 0, .int .i64 0, .slice none 0 0] 52))) := by
    have hlt := (Array.getElem?_eq_some_iff.1 HZ.out).1
    have hsz := k1.size
    have n1 := (k1.block _ hlt (by have := HBM.out; simp; omega)).trans HZ.out
    have k2 := (Keep.below (Keep.refl b w) HBZ.out).trans k1
    have hbm := HBM.out
    exact ⟨h1.below ((Below.refl _ _).alloc (by omega) _), k2.alloc _, (Below.heap_alloc _ _ _ (by omega)).trans n1, World.alloc_heap_new w1 _, Nat.le_refl _, by omega, by omega, by omega⟩
  clear h1 k1 N R0 HZ HBZ
  go_upto_region 2 with fail
  generalize w1.alloc (.cells #[.int .i64 op, .int .i64 0, .int .i64 0, .string ⟨#[]⟩, .string ⟨#[]⟩, .int .i64 0, .int .i64 0, .string ⟨#[]⟩, .int .i64 0, .int .i64 0, .slice none 0 0] 52) = V2 at RI2 ⊢
  generalize w1.heap.size = N2 at RI2 ⊢
  obtain ⟨N1, hN1⟩ : ∃ n, n = w.heap.size := ⟨_, rfl⟩
  have HN1 := hidd hN1
  rw [← hN1] at RI2 ⊢
  clear hN1
  have p0 : V2.cell? ⟨N2, 0, none⟩ = some (.int .i64 op) := (cellO RI2.out.n2).trans rfl
  have pz : ∀ q, V2.frozen? ⟨N2, q, none⟩ = false := fun q => looseO RI2.out.n2
  go_wp2_with fail
  refine (LY.out _).mono ?_
  rintro e w3 ⟨rfl, rfl⟩
  clear LY
  go_upto_region 16 with fail
  clear p0 pz
  have e0 : w3.cell? ⟨N2, 0, none⟩ = some (.int .i64 op) := (cellO RI2.out.n2).trans rfl
  have e1 : w3.cell? ⟨N2, 1, none⟩ = some (.int .i64 0) := (cellO RI2.out.n2).trans rfl
  have e2 : w3.cell? ⟨N2, 2, none⟩ = some (.int .i64 0) := (cellO RI2.out.n2).trans rfl
  have e3 : w3.cell? ⟨N2, 3, none⟩ = some (.string ⟨#[]⟩) := (cellO RI2.out.n2).trans rfl
  have e4 : w3.cell? ⟨N2, 4, none⟩ = some (.string ⟨#[]⟩) := (cellO RI2.out.n2).trans rfl
  have e5 : w3.cell? ⟨N2, 5, none⟩ = some (.int .i64 0) := (cellO RI2.out.n2).trans rfl
  have e6 : w3.cell? ⟨N2, 6, none⟩ = some (.int .i64 0) := (cellO RI2.out.n2).trans rfl
  have e7 : w3.cell? ⟨N2, 7, none⟩ = some (.string ⟨#[]⟩) := (cellO RI2.out.n2).trans rfl
  have e8 : w3.cell? ⟨N2, 8, none⟩ = some (.int .i64 0) := (cellO RI2.out.n2).trans rfl
  have e9 : w3.cell? ⟨N2, 9, none⟩ = some (.int .i64 0) := (cellO RI2.out.n2).trans rfl
  have e10 : w3.cell? ⟨N2, 10, none⟩ = some (.slice none 0 0) := (cellO RI2.out.n2).trans rfl
  have r0 : w3.cell? ⟨N1, 0, none⟩ = some (.int .i64 0) := (cellO RI2.out.n1).trans rfl
  have r1 : w3.cell? ⟨N1, 1, none⟩ = some (.int .i64 0) := (cellO RI2.out.n1).trans rfl
  have r2 : w3.cell? ⟨N1, 2, none⟩ = some (.int .i64 0) := (cellO RI2.out.n1).trans rfl
  have r3 : w3.cell? ⟨N1, 3, none⟩ = some (.string ⟨#[]⟩) := (cellO RI2.out.n1).trans rfl
  have r4 : w3.cell? ⟨N1, 4, none⟩ = some (.string ⟨#[]⟩) := (cellO RI2.out.n1).trans rfl
  have r5 : w3.cell? ⟨N1, 5, none⟩ = some (.int .i64 0) := (cellO RI2.out.n1).trans rfl
  have r6 : w3.cell? ⟨N1, 6, none⟩ = some (.int .i64 0) := (cellO RI2.out.n1).trans rfl
  have r7 : w3.cell? ⟨N1, 7, none⟩ = some (.string ⟨#[]⟩) := (cellO RI2.out.n1).trans rfl
  have r8 : w3.cell? ⟨N1, 8, none⟩ = some (.int .i64 0) := (cellO RI2.out.n1).trans rfl
  have r9 : w3.cell? ⟨N1, 9, none⟩ = some (.int .i64 0) := (cellO RI2.out.n1).trans rfl
  have r10 : w3.cell? ⟨N1, 10, none⟩ = some (.slice none 0 0) := (cellO RI2.out.n1).trans rfl
  have rz : ∀ q, w3.frozen? ⟨N1, q, none⟩ = false := fun q => looseO RI2.out.n1
  have END := hidd (fill11_heap RI2.out.n1 (.int .i64 op) (.int .i64 0) (.int .i64 0) (.string ⟨#[]⟩) (.string ⟨#[]⟩) (.int .i64 0) (.int .i64 0) (.string ⟨#[]⟩) (.int .i64 0) (.int .i64 0) (.slice none 0 0))
  have FIL := hidd (RI2.out.fill (.int .i64 op) (.int .i64 0) (.int .i64 0) (.string ⟨#[]⟩) (.string ⟨#[]⟩) (.int .i64 0) (.int .i64 0) (.string ⟨#[]⟩) (.int .i64 0) (.int .i64 0) (.slice none 0 0))
  have FSZ := hidd (fill11_size w3 N1 (.int .i64 op) (.int .i64 0) (.int .i64 0) (.string ⟨#[]⟩) (.string ⟨#[]⟩) (.int .i64 0) (.int .i64 0) (.string ⟨#[]⟩) (.int .i64 0) (.int .i64 0) (.slice none 0 0))
  have FKP := hidd (fill11_keep w3 N1 (.int .i64 op) (.int .i64 0) (.int .i64 0) (.string ⟨#[]⟩) (.string ⟨#[]⟩) (.int .i64 0) (.int .i64 0) (.string ⟨#[]⟩) (.int .i64 0) (.int .i64 0) (.slice none 0 0))
  go_wp2_with fail
  exact bodyPost_ret (ret92 END.out rfl) rfl ⟨none, 0, rfl, FIL.out.1, FIL.out.2, Nat.zero_le _, Nat.zero_le _, Nat.zero_le _, Nat.le_refl _, 0, Dc.nil _ _ _ _⟩
set_option maxRecDepth 100000 in
set_option maxHeartbeats 3200000 in
theorem rins_2 (M b : Nat) (l : List UInt8) (bad : Bool) (w : World) (h : RD M b l bad w) (y : Int × List UInt8 × Bool) (hy : numR l bad = y) (hla : layW y.1 = 2) (y2 : Int × List UInt8 × Bool) (hy2 : numR y.2.1 y.2.2 = y2) :
    Calls Tryz.prog 92 #[.pointer (some ⟨b, 0, none⟩)] w (ToldRI M b (insN y.1 y2.1, y2.2) w) := by
  have LY := hidd (fun w => layoutOf_any y.1 w)
  rw [hla] at LY
  have bz : Below w.heap.size w (w.alloc (.cells #[.int .i64 0, .int .i64 0, .int .i64 0, .string ⟨#[]⟩, .string ⟨#[]⟩, .int .i64 0, .int .i64 0, .string ⟨#[]⟩, .int .i64 0, .int .i64 0, .slice none 0 0] 52)) := (Below.refl _ _).alloc (Nat.le_refl _) _
  have HZ := hidd (World.alloc_heap_new w (.cells #[.int .i64 0, .int .i64 0, .int .i64 0, .string ⟨#[]⟩, .string ⟨#[]⟩, .int .i64 0, .int .i64 0, .string ⟨#[]⟩, .int .i64 0, .int .i64 0, .slice none 0 0] 52))
  have R0 := hidd (h.below (bz.mono h.2.1))
  have N := hidd (rnumber_any M b l bad _ R0.out)
  rw [hy] at N
  have HBM : Hid (b < M ∧ M ≤ w.heap.size) := ⟨h.1, h.2.1⟩
  have HBZ := hidd bz
  clear hy hla h bz
  go_enter Tryz.func92, Tryz.ntmps92
  go_upto_region 1 with fail
  generalize w.alloc (.cells #[.int .i64 0, .int .i64 0, .int .i64 0, .string ⟨#[]⟩, .string ⟨#[]⟩, .int .i64 0, .int .i64 0, .string ⟨#[]⟩, .int .i64 0, .int .i64 0, .slice none 0 0] 52) = V0 at HZ R0 N HBZ ⊢
  go_wp2_with fail
  refine N.out.mono ?_
  rintro e w1 ⟨rfl, h1, k1⟩
  obtain ⟨op, l1, b1⟩ := y
  simp only at h1 LY hy2 ⊢
  have RI2 : Hid (RI M b w.heap.size w1.heap.size l1 b1 #[.int .i64 op, .int .i64 0, .int .i64 0, .string ⟨#[]⟩, .string ⟨#[]⟩, .int .i64 0, .int .i64 0, .string ⟨#[]⟩, .int .i64 0, .int .i64 0, .slice none 0 0] w (w1.alloc (.cells #[.int .i64 op, .int .i64 0, .int .i64 0, .string ⟨#[]⟩, .string ⟨#[]⟩, .int .i64 0, .int .i64 0, .string ⟨#[]⟩, .int .i64 0, .int .i64 0, .slice none 0 0] 52))) := by
    have hlt := (Array.getElem?_eq_some_iff.1 HZ.out).1
    have hsz := k1.size
    have n1 := (k1.block _ hlt (by have := HBM.out; simp; omega)).trans HZ.out
    have k2 := (Keep.below (Keep.refl b w) HBZ.out).trans k1
    have hbm := HBM.out
    exact ⟨h1.below ((Below.refl _ _).alloc (by omega) _), k2.alloc _, (Below.heap_alloc _ _ _ (by omega)).trans n1, World.alloc_heap_new w1 _, Nat.le_refl _, by omega, by omega, by omega⟩
  clear h1 k1 N R0 HZ HBZ
  go_upto_region 2 with fail
  generalize w1.alloc (.cells #[.int .i64 op, .int .i64 0, .int .i64 0, .string ⟨#[]⟩, .string ⟨#[]⟩, .int .i64 0, .int .i64 0, .string ⟨#[]⟩, .int .i64 0, .int .i64 0, .slice none 0 0] 52) = V2 at RI2 ⊢
  generalize w1.heap.size = N2 at RI2 ⊢
  obtain ⟨N1, hN1⟩ : ∃ n, n = w.heap.size := ⟨_, rfl⟩
  have HN1 := hidd hN1
  rw [← hN1] at RI2 ⊢
  clear hN1
  have p0 : V2.cell? ⟨N2, 0, none⟩ = some (.int .i64 op) := (cellO RI2.out.n2).trans rfl
  have pz : ∀ q, V2.frozen? ⟨N2, q, none⟩ = false := fun q => looseO RI2.out.n2
  go_wp2_with fail
  refine (LY.out _).mono ?_
  rintro e w3 ⟨rfl, rfl⟩
  clear LY
  have N := hidd (rnumber_any M b l1 b1 w3 RI2.out.rd)
  rw [hy2] at N
  clear hy2
  obtain ⟨n, l2, b2⟩ := y2
  go_wp2_with fail
  refine N.out.mono ?_
  rintro e w4 ⟨rfl, h1, k1⟩
  have RI3 := hidd (RI2.out.call h1 k1)
  simp only at RI3
  have RI4 := hidd (RI3.out.set 2 (.int .i64 n))
  have p2 : w4.cell? ⟨N2, 2, none⟩ = some (.int .i64 0) := (cellO RI3.out.n2).trans rfl
  have pz4 : w4.frozen? ⟨N2, 2, none⟩ = false := looseO RI3.out.n2
  clear h1 k1 N p0 pz
  go_upto_region 16 with fail
  generalize w4.setCell ⟨N2, 2, none⟩ (.int .i64 n) = W at RI4 ⊢
  rw [show (#[.int .i64 op, .int .i64 0, .int .i64 0, .string ⟨#[]⟩, .string ⟨#[]⟩, .int .i64 0, .int .i64 0, .string ⟨#[]⟩, .int .i64 0, .int .i64 0, .slice none 0 0] : Array Value).setIfInBounds 2 (.int .i64 n) = #[.int .i64 op, .int .i64 0, .int .i64 n, .string ⟨#[]⟩, .string ⟨#[]⟩, .int .i64 0, .int .i64 0, .string ⟨#[]⟩, .int .i64 0, .int .i64 0, .slice none 0 0] from rfl] at RI4
  clear RI2 RI3 p2 pz4
  have e0 : W.cell? ⟨N2, 0, none⟩ = some (.int .i64 op) := (cellO RI4.out.n2).trans rfl
  have e1 : W.cell? ⟨N2, 1, none⟩ = some (.int .i64 0) := (cellO RI4.out.n2).trans rfl
  have e2 : W.cell? ⟨N2, 2, none⟩ = some (.int .i64 n) := (cellO RI4.out.n2).trans rfl
  have e3 : W.cell? ⟨N2, 3, none⟩ = some (.string ⟨#[]⟩) := (cellO RI4.out.n2).trans rfl
  have e4 : W.cell? ⟨N2, 4, none⟩ = some (.string ⟨#[]⟩) := (cellO RI4.out.n2).trans rfl
  have e5 : W.cell? ⟨N2, 5, none⟩ = some (.int .i64 0) := (cellO RI4.out.n2).trans rfl
  have e6 : W.cell? ⟨N2, 6, none⟩ = some (.int .i64 0) := (cellO RI4.out.n2).trans rfl
  have e7 : W.cell? ⟨N2, 7, none⟩ = some (.string ⟨#[]⟩) := (cellO RI4.out.n2).trans rfl
  have e8 : W.cell? ⟨N2, 8, none⟩ = some (.int .i64 0) := (cellO RI4.out.n2).trans rfl
  have e9 : W.cell? ⟨N2, 9, none⟩ = some (.int .i64 0) := (cellO RI4.out.n2).trans rfl
  have e10 : W.cell? ⟨N2, 10, none⟩ = some (.slice none 0 0) := (cellO RI4.out.n2).trans rfl
  have r0 : W.cell? ⟨N1, 0, none⟩ = some (.int .i64 0) := (cellO RI4.out.n1).trans rfl
  have r1 : W.cell? ⟨N1, 1, none⟩ = some (.int .i64 0) := (cellO RI4.out.n1).trans rfl
  have r2 : W.cell? ⟨N1, 2, none⟩ = some (.int .i64 0) := (cellO RI4.out.n1).trans rfl
  have r3 : W.cell? ⟨N1, 3, none⟩ = some (.string ⟨#[]⟩) := (cellO RI4.out.n1).trans rfl
  have r4 : W.cell? ⟨N1, 4, none⟩ = some (.string ⟨#[]⟩) := (cellO RI4.out.n1).trans rfl
  have r5 : W.cell? ⟨N1, 5, none⟩ = some (.int .i64 0) := (cellO RI4.out.n1).trans rfl
  have r6 : W.cell? ⟨N1, 6, none⟩ = some (.int .i64 0) := (cellO RI4.out.n1).trans rfl
  have r7 : W.cell? ⟨N1, 7, none⟩ = some (.string ⟨#[]⟩) := (cellO RI4.out.n1).trans rfl
  have r8 : W.cell? ⟨N1, 8, none⟩ = some (.int .i64 0) := (cellO RI4.out.n1).trans rfl
  have r9 : W.cell? ⟨N1, 9, none⟩ = some (.int .i64 0) := (cellO RI4.out.n1).trans rfl
  have r10 : W.cell? ⟨N1, 10, none⟩ = some (.slice none 0 0) := (cellO RI4.out.n1).trans rfl
  have rz : ∀ q, W.frozen? ⟨N1, q, none⟩ = false := fun q => looseO RI4.out.n1
  have END := hidd (fill11_heap RI4.out.n1 (.int .i64 op) (.int .i64 0) (.int .i64 n) (.string ⟨#[]⟩) (.string ⟨#[]⟩) (.int .i64 0) (.int .i64 0) (.string ⟨#[]⟩) (.int .i64 0) (.int .i64 0) (.slice none 0 0))
  have FIL := hidd (RI4.out.fill (.int .i64 op) (.int .i64 0) (.int .i64 n) (.string ⟨#[]⟩) (.string ⟨#[]⟩) (.int .i64 0) (.int .i64 0) (.string ⟨#[]⟩) (.int .i64 0) (.int .i64 0) (.slice none 0 0))
  have FSZ := hidd (fill11_size W N1 (.int .i64 op) (.int .i64 0) (.int .i64 n) (.string ⟨#[]⟩) (.string ⟨#[]⟩) (.int .i64 0) (.int .i64 0) (.string ⟨#[]⟩) (.int .i64 0) (.int .i64 0) (.slice none 0 0))
  have FKP := hidd (fill11_keep W N1 (.int .i64 op) (.int .i64 0) (.int .i64 n) (.string ⟨#[]⟩) (.string ⟨#[]⟩) (.int .i64 0) (.int .i64 0) (.string ⟨#[]⟩) (.int .i64 0) (.int .i64 0) (.slice none 0 0))
  go_wp2_with fail
  exact bodyPost_ret (ret92 END.out rfl) rfl ⟨none, 0, rfl, FIL.out.1, FIL.out.2, Nat.zero_le _, Nat.zero_le _, Nat.zero_le _, Nat.le_refl _, 0, Dc.nil _ _ _ _⟩
set_option maxRecDepth 100000 in
set_option maxHeartbeats 3200000 in
theorem rins_6 (M b : Nat) (l : List UInt8) (bad : Bool) (w : World) (h : RD M b l bad w) (y : Int × List UInt8 × Bool) (hy : numR l bad = y) (hla : layW y.1 = 6) (y2 : Int × List UInt8 × Bool) (hy2 : numR y.2.1 y.2.2 = y2) :
    Calls Tryz.prog 92 #[.pointer (some ⟨b, 0, none⟩)] w (ToldRI M b (insA y.1 y2.1, y2.2) w) := by
  have LY := hidd (fun w => layoutOf_any y.1 w)
  rw [hla] at LY
  have bz : Below w.heap.size w (w.alloc (.cells #[.int .i64 0, .int .i64 0, .int .i64 0, .string ⟨#[]⟩, .string ⟨#[]⟩, .int .i64 0, .int .i64 0, .string ⟨#[]⟩, .int .i64 0, .int .i64 0, .slice none 0 0] 52)) := (Below.refl _ _).alloc (Nat.le_refl _) _
  have HZ := hidd (World.alloc_heap_new w (.cells #[.int .i64 0, .int .i64 0, .int .i64 0, .string ⟨#[]⟩, .string ⟨#[]⟩, .int .i64 0, .int .i64 0, .string ⟨#[]⟩, .int .i64 0, .int .i64 0, .slice none 0 0] 52))
  have R0 := hidd (h.below (bz.mono h.2.1))
  have N := hidd (rnumber_any M b l bad _ R0.out)
  rw [hy] at N
  have HBM : Hid (b < M ∧ M ≤ w.heap.size) := ⟨h.1, h.2.1⟩
  have HBZ := hidd bz
  clear hy hla h bz
  go_enter Tryz.func92, Tryz.ntmps92
  go_upto_region 1 with fail
  generalize w.alloc (.cells #[.int .i64 0, .int .i64 0, .int .i64 0, .string ⟨#[]⟩, .string ⟨#[]⟩, .int .i64 0, .int .i64 0, .string ⟨#[]⟩, .int .i64 0, .int .i64 0, .slice none 0 0] 52) = V0 at HZ R0 N HBZ ⊢
  go_wp2_with fail
  refine N.out.mono ?_
  rintro e w1 ⟨rfl, h1, k1⟩
  obtain ⟨op, l1, b1⟩ := y
  simp only at h1 LY hy2 ⊢
  have RI2 : Hid (RI M b w.heap.size w1.heap.size l1 b1 #[.int .i64 op, .int .i64 0, .int .i64 0, .string ⟨#[]⟩, .string ⟨#[]⟩, .int .i64 0, .int .i64 0, .string ⟨#[]⟩, .int .i64 0, .int .i64 0, .slice none 0 0] w (w1.alloc (.cells #[.int .i64 op, .int .i64 0, .int .i64 0, .string ⟨#[]⟩, .string ⟨#[]⟩, .int .i64 0, .int .i64 0, .string ⟨#[]⟩, .int .i64 0, .int .i64 0, .slice none 0 0] 52))) := by
    have hlt := (Array.getElem?_eq_some_iff.1 HZ.out).1
    have hsz := k1.size
    have n1 := (k1.block _ hlt (by have := HBM.out; simp; omega)).trans HZ.out
    have k2 := (Keep.below (Keep.refl b w) HBZ.out).trans k1
    have hbm := HBM.out
    exact ⟨h1.below ((Below.refl _ _).alloc (by omega) _), k2.alloc _, (Below.heap_alloc _ _ _ (by omega)).trans n1, World.alloc_heap_new w1 _, Nat.le_refl _, by omega, by omega, by omega⟩
  clear h1 k1 N R0 HZ HBZ
  go_upto_region 2 with fail
  generalize w1.alloc (.cells #[.int .i64 op, .int .i64 0, .int .i64 0, .string ⟨#[]⟩, .string ⟨#[]⟩, .int .i64 0, .int .i64 0, .string ⟨#[]⟩, .int .i64 0, .int .i64 0, .slice none 0 0] 52) = V2 at RI2 ⊢
  generalize w1.heap.size = N2 at RI2 ⊢
  obtain ⟨N1, hN1⟩ : ∃ n, n = w.heap.size := ⟨_, rfl⟩
  have HN1 := hidd hN1
  rw [← hN1] at RI2 ⊢
  clear hN1
  have p0 : V2.cell? ⟨N2, 0, none⟩ = some (.int .i64 op) := (cellO RI2.out.n2).trans rfl
  have pz : ∀ q, V2.frozen? ⟨N2, q, none⟩ = false := fun q => looseO RI2.out.n2
  go_wp2_with fail
  refine (LY.out _).mono ?_
  rintro e w3 ⟨rfl, rfl⟩
  clear LY
  have N := hidd (rnumber_any M b l1 b1 w3 RI2.out.rd)
  rw [hy2] at N
  clear hy2
  obtain ⟨n, l2, b2⟩ := y2
  go_wp2_with fail
  refine N.out.mono ?_
  rintro e w4 ⟨rfl, h1, k1⟩
  have RI3 := hidd (RI2.out.call h1 k1)
  simp only at RI3
  have RI4 := hidd (RI3.out.set 1 (.int .i64 n))
  have p1 : w4.cell? ⟨N2, 1, none⟩ = some (.int .i64 0) := (cellO RI3.out.n2).trans rfl
  have pz4 : w4.frozen? ⟨N2, 1, none⟩ = false := looseO RI3.out.n2
  clear h1 k1 N p0 pz
  go_upto_region 16 with fail
  generalize w4.setCell ⟨N2, 1, none⟩ (.int .i64 n) = W at RI4 ⊢
  rw [show (#[.int .i64 op, .int .i64 0, .int .i64 0, .string ⟨#[]⟩, .string ⟨#[]⟩, .int .i64 0, .int .i64 0, .string ⟨#[]⟩, .int .i64 0, .int .i64 0, .slice none 0 0] : Array Value).setIfInBounds 1 (.int .i64 n) = #[.int .i64 op, .int .i64 n, .int .i64 0, .string ⟨#[]⟩, .string ⟨#[]⟩, .int .i64 0, .int .i64 0, .string ⟨#[]⟩, .int .i64 0, .int .i64 0, .slice none 0 0] from rfl] at RI4
  clear RI2 RI3 p1 pz4
  have e0 : W.cell? ⟨N2, 0, none⟩ = some (.int .i64 op) := (cellO RI4.out.n2).trans rfl
  have e1 : W.cell? ⟨N2, 1, none⟩ = some (.int .i64 n) := (cellO RI4.out.n2).trans rfl
  have e2 : W.cell? ⟨N2, 2, none⟩ = some (.int .i64 0) := (cellO RI4.out.n2).trans rfl
  have e3 : W.cell? ⟨N2, 3, none⟩ = some (.string ⟨#[]⟩) := (cellO RI4.out.n2).trans rfl
  have e4 : W.cell? ⟨N2, 4, none⟩ = some (.string ⟨#[]⟩) := (cellO RI4.out.n2).trans rfl
  have e5 : W.cell? ⟨N2, 5, none⟩ = some (.int .i64 0) := (cellO RI4.out.n2).trans rfl
  have e6 : W.cell? ⟨N2, 6, none⟩ = some (.int .i64 0) := (cellO RI4.out.n2).trans rfl
  have e7 : W.cell? ⟨N2, 7, none⟩ = some (.string ⟨#[]⟩) := (cellO RI4.out.n2).trans rfl
  have e8 : W.cell? ⟨N2, 8, none⟩ = some (.int .i64 0) := (cellO RI4.out.n2).trans rfl
  have e9 : W.cell? ⟨N2, 9, none⟩ = some (.int .i64 0) := (cellO RI4.out.n2).trans rfl
  have e10 : W.cell? ⟨N2, 10, none⟩ = some (.slice none 0 0) := (cellO RI4.out.n2).trans rfl
  have r0 : W.cell? ⟨N1, 0, none⟩ = some (.int .i64 0) := (cellO RI4.out.n1).trans rfl
  have r1 : W.cell? ⟨N1, 1, none⟩ = some (.int .i64 0) := (cellO RI4.out.n1).trans rfl
  have r2 : W.cell? ⟨N1, 2, none⟩ = some (.int .i64 0) := (cellO RI4.out.n1).trans rfl
  have r3 : W.cell? ⟨N1, 3, none⟩ = some (.string ⟨#[]⟩) := (cellO RI4.out.n1).trans rfl
  have r4 : W.cell? ⟨N1, 4, none⟩ = some (.string ⟨#[]⟩) := (cellO RI4.out.n1).trans rfl
  have r5 : W.cell? ⟨N1, 5, none⟩ = some (.int .i64 0) := (cellO RI4.out.n1).trans rfl
  have r6 : W.cell? ⟨N1, 6, none⟩ = some (.int .i64 0) := (cellO RI4.out.n1).trans rfl
  have r7 : W.cell? ⟨N1, 7, none⟩ = some (.string ⟨#[]⟩) := (cellO RI4.out.n1).trans rfl
  have r8 : W.cell? ⟨N1, 8, none⟩ = some (.int .i64 0) := (cellO RI4.out.n1).trans rfl
  have r9 : W.cell? ⟨N1, 9, none⟩ = some (.int .i64 0) := (cellO RI4.out.n1).trans rfl
  have r10 : W.cell? ⟨N1, 10, none⟩ = some (.slice none 0 0) := (cellO RI4.out.n1).trans rfl
  have rz : ∀ q, W.frozen? ⟨N1, q, none⟩ = false := fun q => looseO RI4.out.n1
  have END := hidd (fill11_heap RI4.out.n1 (.int .i64 op) (.int .i64 n) (.int .i64 0) (.string ⟨#[]⟩) (.string ⟨#[]⟩) (.int .i64 0) (.int .i64 0) (.string ⟨#[]⟩) (.int .i64 0) (.int .i64 0) (.slice none 0 0))
  have FIL := hidd (RI4.out.fill (.int .i64 op) (.int .i64 n) (.int .i64 0) (.string ⟨#[]⟩) (.string ⟨#[]⟩) (.int .i64 0) (.int .i64 0) (.string ⟨#[]⟩) (.int .i64 0) (.int .i64 0) (.slice none 0 0))
  have FSZ := hidd (fill11_size W N1 (.int .i64 op) (.int .i64 n) (.int .i64 0) (.string ⟨#[]⟩) (.string ⟨#[]⟩) (.int .i64 0) (.int .i64 0) (.string ⟨#[]⟩) (.int .i64 0) (.int .i64 0) (.slice none 0 0))
  have FKP := hidd (fill11_keep W N1 (.int .i64 op) (.int .i64 n) (.int .i64 0) (.string ⟨#[]⟩) (.string ⟨#[]⟩) (.int .i64 0) (.int .i64 0) (.string ⟨#[]⟩) (.int .i64 0) (.int .i64 0) (.slice none 0 0))
  go_wp2_with fail
  exact bodyPost_ret (ret92 END.out rfl) rfl ⟨none, 0, rfl, FIL.out.1, FIL.out.2, Nat.zero_le _, Nat.zero_le _, Nat.zero_le _, Nat.le_refl _, 0, Dc.nil _ _ _ _⟩
theorem takeN_len : ∀ (l : List UInt8) (i acc u : Nat) (r : List UInt8) (z : Bool), takeN l i acc = some (u, r, z) → r.length ≤ l.length
  | [], i, acc, u, r, z, h => by simp [takeN] at h
  | c :: t, i, acc, u, r, z, h => by
    rw [takeN] at h
    split at h
    · simp at h
    · split at h
      · simp at h
        rw [← h.2.1]
        simp
      · have := takeN_len t _ _ u r z h
        simp
        omega
theorem textR_len (l : List UInt8) (bad : Bool) (h : l.length ≤ maxLen) : (⟨(textR l bad).1.toArray⟩ : ByteArray).size ≤ maxLen := by
  have h1 : (numR l bad).2.1.length ≤ l.length := by
    unfold numR
    cases e : takeN l 0 0 with
    | none => exact Nat.le_refl _
    | some x =>
      obtain ⟨u, r, z⟩ := x
      exact takeN_len l 0 0 u r z e
  have h2 : (countR l bad).2.1.length ≤ l.length := by
    unfold countR
    split <;> exact h1
  have h3 : (textR l bad).1.length ≤ l.length := by
    unfold textR
    simp only [List.length_take]
    omega
  show (textR l bad).1.toArray.size ≤ maxLen
  simp only [List.size_toArray]
  omega
set_option maxRecDepth 100000 in
set_option maxHeartbeats 3200000 in
theorem rins_5 (M b : Nat) (l : List UInt8) (bad : Bool) (w : World) (h : RD M b l bad w) (y : Int × List UInt8 × Bool) (hy : numR l bad = y) (hla : layW y.1 = 5) (y2 : List UInt8 × List UInt8 × Bool) (hy2 : textR y.2.1 y.2.2 = y2) :
    Calls Tryz.prog 92 #[.pointer (some ⟨b, 0, none⟩)] w (ToldRI M b (insG y.1 ⟨#[]⟩ ⟨y2.1.toArray⟩, y2.2) w) := by
  have LY := hidd (fun w => layoutOf_any y.1 w)
  rw [hla] at LY
  have bz : Below w.heap.size w (w.alloc (.cells #[.int .i64 0, .int .i64 0, .int .i64 0, .string ⟨#[]⟩, .string ⟨#[]⟩, .int .i64 0, .int .i64 0, .string ⟨#[]⟩, .int .i64 0, .int .i64 0, .slice none 0 0] 52)) := (Below.refl _ _).alloc (Nat.le_refl _) _
  have HZ := hidd (World.alloc_heap_new w (.cells #[.int .i64 0, .int .i64 0, .int .i64 0, .string ⟨#[]⟩, .string ⟨#[]⟩, .int .i64 0, .int .i64 0, .string ⟨#[]⟩, .int .i64 0, .int .i64 0, .slice none 0 0] 52))
  have R0 := hidd (h.below (bz.mono h.2.1))
  have N := hidd (rnumber_any M b l bad _ R0.out)
  rw [hy] at N
  have HBM : Hid (b < M ∧ M ≤ w.heap.size) := ⟨h.1, h.2.1⟩
  have HBZ := hidd bz
  clear hy hla h bz
  go_enter Tryz.func92, Tryz.ntmps92
  go_upto_region 1 with fail
  generalize w.alloc (.cells #[.int .i64 0, .int .i64 0, .int .i64 0, .string ⟨#[]⟩, .string ⟨#[]⟩, .int .i64 0, .int .i64 0, .string ⟨#[]⟩, .int .i64 0, .int .i64 0, .slice none 0 0] 52) = V0 at HZ R0 N HBZ ⊢
  go_wp2_with fail
  refine N.out.mono ?_
  rintro e w1 ⟨rfl, h1, k1⟩
  obtain ⟨op, l1, b1⟩ := y
  simp only at h1 LY hy2 ⊢
  have RI2 : Hid (RI M b w.heap.size w1.heap.size l1 b1 #[.int .i64 op, .int .i64 0, .int .i64 0, .string ⟨#[]⟩, .string ⟨#[]⟩, .int .i64 0, .int .i64 0, .string ⟨#[]⟩, .int .i64 0, .int .i64 0, .slice none 0 0] w (w1.alloc (.cells #[.int .i64 op, .int .i64 0, .int .i64 0, .string ⟨#[]⟩, .string ⟨#[]⟩, .int .i64 0, .int .i64 0, .string ⟨#[]⟩, .int .i64 0, .int .i64 0, .slice none 0 0] 52))) := by
    have hlt := (Array.getElem?_eq_some_iff.1 HZ.out).1
    have hsz := k1.size
    have n1 := (k1.block _ hlt (by have := HBM.out; simp; omega)).trans HZ.out
    have k2 := (Keep.below (Keep.refl b w) HBZ.out).trans k1
    have hbm := HBM.out
    exact ⟨h1.below ((Below.refl _ _).alloc (by omega) _), k2.alloc _, (Below.heap_alloc _ _ _ (by omega)).trans n1, World.alloc_heap_new w1 _, Nat.le_refl _, by omega, by omega, by omega⟩
  clear h1 k1 N R0 HZ HBZ
  go_upto_region 2 with fail
  generalize w1.alloc (.cells #[.int .i64 op, .int .i64 0, .int .i64 0, .string ⟨#[]⟩, .string ⟨#[]⟩, .int .i64 0, .int .i64 0, .string ⟨#[]⟩, .int .i64 0, .int .i64 0, .slice none 0 0] 52) = V2 at RI2 ⊢
  generalize w1.heap.size = N2 at RI2 ⊢
  obtain ⟨N1, hN1⟩ : ∃ n, n = w.heap.size := ⟨_, rfl⟩
  have HN1 := hidd hN1
  rw [← hN1] at RI2 ⊢
  clear hN1
  have p0 : V2.cell? ⟨N2, 0, none⟩ = some (.int .i64 op) := (cellO RI2.out.n2).trans rfl
  have pz : ∀ q, V2.frozen? ⟨N2, q, none⟩ = false := fun q => looseO RI2.out.n2
  go_wp2_with fail
  refine (LY.out _).mono ?_
  rintro e w3 ⟨rfl, rfl⟩
  clear LY
  have N := hidd (rtext_any M b l1 b1 w3 RI2.out.rd)
  have HS1 := hidd (textR_len l1 b1 RI2.out.rd.len)
  rw [hy2] at N HS1
  clear hy2
  obtain ⟨s, l2, b2⟩ := y2
  simp only at HS1
  go_wp2_with fail
  refine N.out.mono ?_
  rintro e w4 ⟨rfl, h1, k1⟩
  have RI3 := hidd (RI2.out.call h1 k1)
  simp only at RI3
  have RI4 := hidd (RI3.out.set 4 (.string ⟨s.toArray⟩))
  have p4 : w4.cell? ⟨N2, 4, none⟩ = some (.string ⟨#[]⟩) := (cellO RI3.out.n2).trans rfl
  have pz4 : w4.frozen? ⟨N2, 4, none⟩ = false := looseO RI3.out.n2
  clear h1 k1 N p0 pz
  go_upto_region 16 with fail
  generalize w4.setCell ⟨N2, 4, none⟩ (.string ⟨s.toArray⟩) = W at RI4 ⊢
  rw [show (#[.int .i64 op, .int .i64 0, .int .i64 0, .string ⟨#[]⟩, .string ⟨#[]⟩, .int .i64 0, .int .i64 0, .string ⟨#[]⟩, .int .i64 0, .int .i64 0, .slice none 0 0] : Array Value).setIfInBounds 4 (.string ⟨s.toArray⟩) = #[.int .i64 op, .int .i64 0, .int .i64 0, .string ⟨#[]⟩, .string ⟨s.toArray⟩, .int .i64 0, .int .i64 0, .string ⟨#[]⟩, .int .i64 0, .int .i64 0, .slice none 0 0] from rfl] at RI4
  clear RI2 RI3 p4 pz4
  have e0 : W.cell? ⟨N2, 0, none⟩ = some (.int .i64 op) := (cellO RI4.out.n2).trans rfl
  have e1 : W.cell? ⟨N2, 1, none⟩ = some (.int .i64 0) := (cellO RI4.out.n2).trans rfl
  have e2 : W.cell? ⟨N2, 2, none⟩ = some (.int .i64 0) := (cellO RI4.out.n2).trans rfl
  have e3 : W.cell? ⟨N2, 3, none⟩ = some (.string ⟨#[]⟩) := (cellO RI4.out.n2).trans rfl
  have e4 : W.cell? ⟨N2, 4, none⟩ = some (.string ⟨s.toArray⟩) := (cellO RI4.out.n2).trans rfl
  have e5 : W.cell? ⟨N2, 5, none⟩ = some (.int .i64 0) := (cellO RI4.out.n2).trans rfl
  have e6 : W.cell? ⟨N2, 6, none⟩ = some (.int .i64 0) := (cellO RI4.out.n2).trans rfl
  have e7 : W.cell? ⟨N2, 7, none⟩ = some (.string ⟨#[]⟩) := (cellO RI4.out.n2).trans rfl
  have e8 : W.cell? ⟨N2, 8, none⟩ = some (.int .i64 0) := (cellO RI4.out.n2).trans rfl
  have e9 : W.cell? ⟨N2, 9, none⟩ = some (.int .i64 0) := (cellO RI4.out.n2).trans rfl
  have e10 : W.cell? ⟨N2, 10, none⟩ = some (.slice none 0 0) := (cellO RI4.out.n2).trans rfl
  have r0 : W.cell? ⟨N1, 0, none⟩ = some (.int .i64 0) := (cellO RI4.out.n1).trans rfl
  have r1 : W.cell? ⟨N1, 1, none⟩ = some (.int .i64 0) := (cellO RI4.out.n1).trans rfl
  have r2 : W.cell? ⟨N1, 2, none⟩ = some (.int .i64 0) := (cellO RI4.out.n1).trans rfl
  have r3 : W.cell? ⟨N1, 3, none⟩ = some (.string ⟨#[]⟩) := (cellO RI4.out.n1).trans rfl
  have r4 : W.cell? ⟨N1, 4, none⟩ = some (.string ⟨#[]⟩) := (cellO RI4.out.n1).trans rfl
  have r5 : W.cell? ⟨N1, 5, none⟩ = some (.int .i64 0) := (cellO RI4.out.n1).trans rfl
  have r6 : W.cell? ⟨N1, 6, none⟩ = some (.int .i64 0) := (cellO RI4.out.n1).trans rfl
  have r7 : W.cell? ⟨N1, 7, none⟩ = some (.string ⟨#[]⟩) := (cellO RI4.out.n1).trans rfl
  have r8 : W.cell? ⟨N1, 8, none⟩ = some (.int .i64 0) := (cellO RI4.out.n1).trans rfl
  have r9 : W.cell? ⟨N1, 9, none⟩ = some (.int .i64 0) := (cellO RI4.out.n1).trans rfl
  have r10 : W.cell? ⟨N1, 10, none⟩ = some (.slice none 0 0) := (cellO RI4.out.n1).trans rfl
  have rz : ∀ q, W.frozen? ⟨N1, q, none⟩ = false := fun q => looseO RI4.out.n1
  have END := hidd (fill11_heap RI4.out.n1 (.int .i64 op) (.int .i64 0) (.int .i64 0) (.string ⟨#[]⟩) (.string ⟨s.toArray⟩) (.int .i64 0) (.int .i64 0) (.string ⟨#[]⟩) (.int .i64 0) (.int .i64 0) (.slice none 0 0))
  have FIL := hidd (RI4.out.fill (.int .i64 op) (.int .i64 0) (.int .i64 0) (.string ⟨#[]⟩) (.string ⟨s.toArray⟩) (.int .i64 0) (.int .i64 0) (.string ⟨#[]⟩) (.int .i64 0) (.int .i64 0) (.slice none 0 0))
  have FSZ := hidd (fill11_size W N1 (.int .i64 op) (.int .i64 0) (.int .i64 0) (.string ⟨#[]⟩) (.string ⟨s.toArray⟩) (.int .i64 0) (.int .i64 0) (.string ⟨#[]⟩) (.int .i64 0) (.int .i64 0) (.slice none 0 0))
  have FKP := hidd (fill11_keep W N1 (.int .i64 op) (.int .i64 0) (.int .i64 0) (.string ⟨#[]⟩) (.string ⟨s.toArray⟩) (.int .i64 0) (.int .i64 0) (.string ⟨#[]⟩) (.int .i64 0) (.int .i64 0) (.slice none 0 0))
  go_wp2_with fail
  exact bodyPost_ret (ret92 END.out rfl) rfl ⟨none, 0, rfl, FIL.out.1, FIL.out.2, Nat.zero_le _, HS1.out, Nat.zero_le _, Nat.le_refl _, 0, Dc.nil _ _ _ _⟩
set_option maxRecDepth 100000 in
set_option maxHeartbeats 3200000 in
theorem rins_4 (M b : Nat) (l : List UInt8) (bad : Bool) (w : World) (h : RD M b l bad w) (y : Int × List UInt8 × Bool) (hy : numR l bad = y) (hla : layW y.1 = 4) (y2 y3 : List UInt8 × List UInt8 × Bool) (hy2 : textR y.2.1 y.2.2 = y2) (hy3 : textR y2.2.1 y2.2.2 = y3) :
    Calls Tryz.prog 92 #[.pointer (some ⟨b, 0, none⟩)] w (ToldRI M b (insG y.1 ⟨y2.1.toArray⟩ ⟨y3.1.toArray⟩, y3.2) w) := by
  have LY := hidd (fun w => layoutOf_any y.1 w)
  rw [hla] at LY
  have bz : Below w.heap.size w (w.alloc (.cells #[.int .i64 0, .int .i64 0, .int .i64 0, .string ⟨#[]⟩, .string ⟨#[]⟩, .int .i64 0, .int .i64 0, .string ⟨#[]⟩, .int .i64 0, .int .i64 0, .slice none 0 0] 52)) := (Below.refl _ _).alloc (Nat.le_refl _) _
  have HZ := hidd (World.alloc_heap_new w (.cells #[.int .i64 0, .int .i64 0, .int .i64 0, .string ⟨#[]⟩, .string ⟨#[]⟩, .int .i64 0, .int .i64 0, .string ⟨#[]⟩, .int .i64 0, .int .i64 0, .slice none 0 0] 52))
  have R0 := hidd (h.below (bz.mono h.2.1))
  have N := hidd (rnumber_any M b l bad _ R0.out)
  rw [hy] at N
  have HBM : Hid (b < M ∧ M ≤ w.heap.size) := ⟨h.1, h.2.1⟩
  have HBZ := hidd bz
  clear hy hla h bz
  go_enter Tryz.func92, Tryz.ntmps92
  go_upto_region 1 with fail
  generalize w.alloc (.cells #[.int .i64 0, .int .i64 0, .int .i64 0, .string ⟨#[]⟩, .string ⟨#[]⟩, .int .i64 0, .int .i64 0, .string ⟨#[]⟩, .int .i64 0, .int .i64 0, .slice none 0 0] 52) = V0 at HZ R0 N HBZ ⊢
  go_wp2_with fail
  refine N.out.mono ?_
  rintro e w1 ⟨rfl, h1, k1⟩
  obtain ⟨op, l1, b1⟩ := y
  simp only at h1 LY hy2 ⊢
  have RI2 : Hid (RI M b w.heap.size w1.heap.size l1 b1 #[.int .i64 op, .int .i64 0, .int .i64 0, .string ⟨#[]⟩, .string ⟨#[]⟩, .int .i64 0, .int .i64 0, .string ⟨#[]⟩, .int .i64 0, .int .i64 0, .slice none 0 0] w (w1.alloc (.cells #[.int .i64 op, .int .i64 0, .int .i64 0, .string ⟨#[]⟩, .string ⟨#[]⟩, .int .i64 0, .int .i64 0, .string ⟨#[]⟩, .int .i64 0, .int .i64 0, .slice none 0 0] 52))) := by
    have hlt := (Array.getElem?_eq_some_iff.1 HZ.out).1
    have hsz := k1.size
    have n1 := (k1.block _ hlt (by have := HBM.out; simp; omega)).trans HZ.out
    have k2 := (Keep.below (Keep.refl b w) HBZ.out).trans k1
    have hbm := HBM.out
    exact ⟨h1.below ((Below.refl _ _).alloc (by omega) _), k2.alloc _, (Below.heap_alloc _ _ _ (by omega)).trans n1, World.alloc_heap_new w1 _, Nat.le_refl _, by omega, by omega, by omega⟩
  clear h1 k1 N R0 HZ HBZ
  go_upto_region 2 with fail
  generalize w1.alloc (.cells #[.int .i64 op, .int .i64 0, .int .i64 0, .string ⟨#[]⟩, .string ⟨#[]⟩, .int .i64 0, .int .i64 0, .string ⟨#[]⟩, .int .i64 0, .int .i64 0, .slice none 0 0] 52) = V2 at RI2 ⊢
  generalize w1.heap.size = N2 at RI2 ⊢
  obtain ⟨N1, hN1⟩ : ∃ n, n = w.heap.size := ⟨_, rfl⟩
  have HN1 := hidd hN1
  rw [← hN1] at RI2 ⊢
  clear hN1
  have p0 : V2.cell? ⟨N2, 0, none⟩ = some (.int .i64 op) := (cellO RI2.out.n2).trans rfl
  have pz : ∀ q, V2.frozen? ⟨N2, q, none⟩ = false := fun q => looseO RI2.out.n2
  go_wp2_with fail
  refine (LY.out _).mono ?_
  rintro e w3 ⟨rfl, rfl⟩
  clear LY
  have N := hidd (rtext_any M b l1 b1 w3 RI2.out.rd)
  have HS0 := hidd (textR_len l1 b1 RI2.out.rd.len)
  rw [hy2] at N HS0
  clear hy2
  obtain ⟨s, l2, b2⟩ := y2
  simp only at HS0 hy3
  have HY3 := hidd hy3
  clear hy3
  go_wp2_with fail
  refine N.out.mono ?_
  rintro e w4 ⟨rfl, h1, k1⟩
  have RI3 := hidd (RI2.out.call h1 k1)
  simp only at RI3
  have RI4 := hidd (RI3.out.set 3 (.string ⟨s.toArray⟩))
  have p3 : w4.cell? ⟨N2, 3, none⟩ = some (.string ⟨#[]⟩) := (cellO RI3.out.n2).trans rfl
  have pz4 : w4.frozen? ⟨N2, 3, none⟩ = false := looseO RI3.out.n2
  clear h1 k1 N p0 pz
  go_upto_region 11 with fail
  generalize w4.setCell ⟨N2, 3, none⟩ (.string ⟨s.toArray⟩) = V4 at RI4 ⊢
  rw [show (#[.int .i64 op, .int .i64 0, .int .i64 0, .string ⟨#[]⟩, .string ⟨#[]⟩, .int .i64 0, .int .i64 0, .string ⟨#[]⟩, .int .i64 0, .int .i64 0, .slice none 0 0] : Array Value).setIfInBounds 3 (.string ⟨s.toArray⟩) = #[.int .i64 op, .int .i64 0, .int .i64 0, .string ⟨s.toArray⟩, .string ⟨#[]⟩, .int .i64 0, .int .i64 0, .string ⟨#[]⟩, .int .i64 0, .int .i64 0, .slice none 0 0] from rfl] at RI4
  clear RI2 RI3 p3 pz4
  have N := hidd (rtext_any M b l2 b2 V4 RI4.out.rd)
  have HS1 := hidd (textR_len l2 b2 RI4.out.rd.len)
  rw [HY3.out] at N HS1
  clear HY3
  obtain ⟨t, l3, b3⟩ := y3
  simp only at HS1
  go_wp2_with fail
  refine N.out.mono ?_
  rintro e w5 ⟨rfl, h1, k1⟩
  have RI5 := hidd (RI4.out.call h1 k1)
  simp only at RI5
  have RI6 := hidd (RI5.out.set 4 (.string ⟨t.toArray⟩))
  have p4 : w5.cell? ⟨N2, 4, none⟩ = some (.string ⟨#[]⟩) := (cellO RI5.out.n2).trans rfl
  have pz4 : w5.frozen? ⟨N2, 4, none⟩ = false := looseO RI5.out.n2
  clear h1 k1 N
  go_upto_region 16 with fail
  generalize w5.setCell ⟨N2, 4, none⟩ (.string ⟨t.toArray⟩) = W at RI6 ⊢
  rw [show (#[.int .i64 op, .int .i64 0, .int .i64 0, .string ⟨s.toArray⟩, .string ⟨#[]⟩, .int .i64 0, .int .i64 0, .string ⟨#[]⟩, .int .i64 0, .int .i64 0, .slice none 0 0] : Array Value).setIfInBounds 4 (.string ⟨t.toArray⟩) = #[.int .i64 op, .int .i64 0, .int .i64 0, .string ⟨s.toArray⟩, .string ⟨t.toArray⟩, .int .i64 0, .int .i64 0, .string ⟨#[]⟩, .int .i64 0, .int .i64 0, .slice none 0 0] from rfl] at RI6
  clear RI4 RI5 p4 pz4
  have e0 : W.cell? ⟨N2, 0, none⟩ = some (.int .i64 op) := (cellO RI6.out.n2).trans rfl
  have e1 : W.cell? ⟨N2, 1, none⟩ = some (.int .i64 0) := (cellO RI6.out.n2).trans rfl
  have e2 : W.cell? ⟨N2, 2, none⟩ = some (.int .i64 0) := (cellO RI6.out.n2).trans rfl
  have e3 : W.cell? ⟨N2, 3, none⟩ = some (.string ⟨s.toArray⟩) := (cellO RI6.out.n2).trans rfl
  have e4 : W.cell? ⟨N2, 4, none⟩ = some (.string ⟨t.toArray⟩) := (cellO RI6.out.n2).trans rfl
  have e5 : W.cell? ⟨N2, 5, none⟩ = some (.int .i64 0) := (cellO RI6.out.n2).trans rfl
  have e6 : W.cell? ⟨N2, 6, none⟩ = some (.int .i64 0) := (cellO RI6.out.n2).trans rfl
  have e7 : W.cell? ⟨N2, 7, none⟩ = some (.string ⟨#[]⟩) := (cellO RI6.out.n2).trans rfl
  have e8 : W.cell? ⟨N2, 8, none⟩ = some (.int .i64 0) := (cellO RI6.out.n2).trans rfl
  have e9 : W.cell? ⟨N2, 9, none⟩ = some (.int .i64 0) := (cellO RI6.out.n2).trans rfl
  have e10 : W.cell? ⟨N2, 10, none⟩ = some (.slice none 0 0) := (cellO RI6.out.n2).trans rfl
  have r0 : W.cell? ⟨N1, 0, none⟩ = some (.int .i64 0) := (cellO RI6.out.n1).trans rfl
  have r1 : W.cell? ⟨N1, 1, none⟩ = some (.int .i64 0) := (cellO RI6.out.n1).trans rfl
  have r2 : W.cell? ⟨N1, 2, none⟩ = some (.int .i64 0) := (cellO RI6.out.n1).trans rfl
  have r3 : W.cell? ⟨N1, 3, none⟩ = some (.string ⟨#[]⟩) := (cellO RI6.out.n1).trans rfl
  have r4 : W.cell? ⟨N1, 4, none⟩ = some (.string ⟨#[]⟩) := (cellO RI6.out.n1).trans rfl
  have r5 : W.cell? ⟨N1, 5, none⟩ = some (.int .i64 0) := (cellO RI6.out.n1).trans rfl
  have r6 : W.cell? ⟨N1, 6, none⟩ = some (.int .i64 0) := (cellO RI6.out.n1).trans rfl
  have r7 : W.cell? ⟨N1, 7, none⟩ = some (.string ⟨#[]⟩) := (cellO RI6.out.n1).trans rfl
  have r8 : W.cell? ⟨N1, 8, none⟩ = some (.int .i64 0) := (cellO RI6.out.n1).trans rfl
  have r9 : W.cell? ⟨N1, 9, none⟩ = some (.int .i64 0) := (cellO RI6.out.n1).trans rfl
  have r10 : W.cell? ⟨N1, 10, none⟩ = some (.slice none 0 0) := (cellO RI6.out.n1).trans rfl
  have rz : ∀ q, W.frozen? ⟨N1, q, none⟩ = false := fun q => looseO RI6.out.n1
  have END := hidd (fill11_heap RI6.out.n1 (.int .i64 op) (.int .i64 0) (.int .i64 0) (.string ⟨s.toArray⟩) (.string ⟨t.toArray⟩) (.int .i64 0) (.int .i64 0) (.string ⟨#[]⟩) (.int .i64 0) (.int .i64 0) (.slice none 0 0))
  have FIL := hidd (RI6.out.fill (.int .i64 op) (.int .i64 0) (.int .i64 0) (.string ⟨s.toArray⟩) (.string ⟨t.toArray⟩) (.int .i64 0) (.int .i64 0) (.string ⟨#[]⟩) (.int .i64 0) (.int .i64 0) (.slice none 0 0))
  have FSZ := hidd (fill11_size W N1 (.int .i64 op) (.int .i64 0) (.int .i64 0) (.string ⟨s.toArray⟩) (.string ⟨t.toArray⟩) (.int .i64 0) (.int .i64 0) (.string ⟨#[]⟩) (.int .i64 0) (.int .i64 0) (.slice none 0 0))
  have FKP := hidd (fill11_keep W N1 (.int .i64 op) (.int .i64 0) (.int .i64 0) (.string ⟨s.toArray⟩) (.string ⟨t.toArray⟩) (.int .i64 0) (.int .i64 0) (.string ⟨#[]⟩) (.int .i64 0) (.int .i64 0) (.slice none 0 0))
  go_wp2_with fail
  exact bodyPost_ret (ret92 END.out rfl) rfl ⟨none, 0, rfl, FIL.out.1, FIL.out.2, HS0.out, HS1.out, Nat.zero_le _, Nat.le_refl _, 0, Dc.nil _ _ _ _⟩
set_option maxRecDepth 100000 in
set_option maxHeartbeats 3200000 in
theorem rins_3 (M b : Nat) (l : List UInt8) (bad : Bool) (w : World) (h : RD M b l bad w) (y : Int × List UInt8 × Bool) (hy : numR l bad = y) (hla : layW y.1 = 3) (qr : QR) (hq : Qok qr) (d : Dat) (l' : List UInt8) (bad' : Bool) (hqq : qr y.2.1 y.2.2 = some (d, l', bad')) :
    Calls Tryz.prog 92 #[.pointer (some ⟨b, 0, none⟩)] w (ToldRI M b (⟨y.1, 0, 0, ⟨#[]⟩, ⟨#[]⟩, d⟩, l', bad') w) := by
  have LY := hidd (fun w => layoutOf_any y.1 w)
  rw [hla] at LY
  have bz : Below w.heap.size w (w.alloc (.cells #[.int .i64 0, .int .i64 0, .int .i64 0, .string ⟨#[]⟩, .string ⟨#[]⟩, .int .i64 0, .int .i64 0, .string ⟨#[]⟩, .int .i64 0, .int .i64 0, .slice none 0 0] 52)) := (Below.refl _ _).alloc (Nat.le_refl _) _
  have HZ := hidd (World.alloc_heap_new w (.cells #[.int .i64 0, .int .i64 0, .int .i64 0, .string ⟨#[]⟩, .string ⟨#[]⟩, .int .i64 0, .int .i64 0, .string ⟨#[]⟩, .int .i64 0, .int .i64 0, .slice none 0 0] 52))
  have R0 := hidd (h.below (bz.mono h.2.1))
  have N := hidd (rnumber_any M b l bad _ R0.out)
  rw [hy] at N
  have HBM : Hid (b < M ∧ M ≤ w.heap.size) := ⟨h.1, h.2.1⟩
  have HBZ := hidd bz
  clear hy hla h bz
  go_enter Tryz.func92, Tryz.ntmps92
  go_upto_region 1 with fail
  generalize w.alloc (.cells #[.int .i64 0, .int .i64 0, .int .i64 0, .string ⟨#[]⟩, .string ⟨#[]⟩, .int .i64 0, .int .i64 0, .string ⟨#[]⟩, .int .i64 0, .int .i64 0, .slice none 0 0] 52) = V0 at HZ R0 N HBZ ⊢
  go_wp2_with fail
  refine N.out.mono ?_
  rintro e w1 ⟨rfl, h1, k1⟩
  obtain ⟨op, l1, b1⟩ := y
  simp only at h1 LY hqq ⊢
  have RI2 : Hid (RI M b w.heap.size w1.heap.size l1 b1 #[.int .i64 op, .int .i64 0, .int .i64 0, .string ⟨#[]⟩, .string ⟨#[]⟩, .int .i64 0, .int .i64 0, .string ⟨#[]⟩, .int .i64 0, .int .i64 0, .slice none 0 0] w (w1.alloc (.cells #[.int .i64 op, .int .i64 0, .int .i64 0, .string ⟨#[]⟩, .string ⟨#[]⟩, .int .i64 0, .int .i64 0, .string ⟨#[]⟩, .int .i64 0, .int .i64 0, .slice none 0 0] 52))) := by
    have hlt := (Array.getElem?_eq_some_iff.1 HZ.out).1
    have hsz := k1.size
    have n1 := (k1.block _ hlt (by have := HBM.out; simp; omega)).trans HZ.out
    have k2 := (Keep.below (Keep.refl b w) HBZ.out).trans k1
    have hbm := HBM.out
    exact ⟨h1.below ((Below.refl _ _).alloc (by omega) _), k2.alloc _, (Below.heap_alloc _ _ _ (by omega)).trans n1, World.alloc_heap_new w1 _, Nat.le_refl _, by omega, by omega, by omega⟩
  clear h1 k1 N R0 HZ HBZ
  go_upto_region 2 with fail
  generalize w1.alloc (.cells #[.int .i64 op, .int .i64 0, .int .i64 0, .string ⟨#[]⟩, .string ⟨#[]⟩, .int .i64 0, .int .i64 0, .string ⟨#[]⟩, .int .i64 0, .int .i64 0, .slice none 0 0] 52) = V2 at RI2 ⊢
  generalize w1.heap.size = N2 at RI2 ⊢
  obtain ⟨N1, hN1⟩ : ∃ n, n = w.heap.size := ⟨_, rfl⟩
  have HN1 := hidd hN1
  rw [← hN1] at RI2 ⊢
  clear hN1
  have p0 : V2.cell? ⟨N2, 0, none⟩ = some (.int .i64 op) := (cellO RI2.out.n2).trans rfl
  have pz : ∀ q, V2.frozen? ⟨N2, q, none⟩ = false := fun q => looseO RI2.out.n2
  go_wp2_with fail
  refine (LY.out _).mono ?_
  rintro e w3 ⟨rfl, rfl⟩
  clear LY
  have N := hidd (hq M b l1 b1 w3 d l' bad' RI2.out.rd hqq)
  clear hqq
  go_wp2_with fail
  refine N.out.mono ?_
  rintro e w4 ⟨qa, qc, rfl, h1, k1, q1, q2, f, q3⟩
  have RI3 := hidd (RI2.out.call h1 k1)
  have HQ : Hid (d.kids.length ≤ qc ∧ d.name.size ≤ maxLen ∧ Dc (fun k => w3.heap.size ≤ k ∧ k < w4.heap.size) w4 f qa d.kids) := ⟨q1, q2, q3⟩
  have RI4 := hidd (((((((RI3.out.set 5 (.int .i64 d.kind)).set 6 (.int .i64 d.n)).set 7 (.string d.name)).set 8 (.int .i64 d.stamp)).set 9 (.int .i64 d.lib)).set 10 (.slice qa d.kids.length qc)))
  have p5 : w4.cell? ⟨N2, 5, none⟩ = some (.int .i64 0) := (cellO RI3.out.n2).trans rfl
  have p6 : w4.cell? ⟨N2, 6, none⟩ = some (.int .i64 0) := (cellO RI3.out.n2).trans rfl
  have p7 : w4.cell? ⟨N2, 7, none⟩ = some (.string ⟨#[]⟩) := (cellO RI3.out.n2).trans rfl
  have p8 : w4.cell? ⟨N2, 8, none⟩ = some (.int .i64 0) := (cellO RI3.out.n2).trans rfl
  have p9 : w4.cell? ⟨N2, 9, none⟩ = some (.int .i64 0) := (cellO RI3.out.n2).trans rfl
  have p10 : w4.cell? ⟨N2, 10, none⟩ = some (.slice none 0 0) := (cellO RI3.out.n2).trans rfl
  have pz4 : ∀ q, w4.frozen? ⟨N2, q, none⟩ = false := fun q => looseO RI3.out.n2
  have HDC : Hid (Dc (fun k => w.heap.size ≤ k ∧ k < w4.heap.size ∧ k ≠ N1) ((((((w4.setCell ⟨N2, 5, none⟩ (.int .i64 d.kind)).setCell ⟨N2, 6, none⟩ (.int .i64 d.n)).setCell ⟨N2, 7, none⟩ (.string d.name)).setCell ⟨N2, 8, none⟩ (.int .i64 d.stamp)).setCell ⟨N2, 9, none⟩ (.int .i64 d.lib)).setCell ⟨N2, 10, none⟩ (.slice qa d.kids.length qc)) f qa d.kids) := by
    have hlt := (Array.getElem?_eq_some_iff.1 RI2.out.n2).1
    have hlt1 := (Array.getElem?_eq_some_iff.1 RI2.out.n1).1
    refine Dc.stay (fun k hk => ?_) (fun k hk => ⟨by have := RI2.out.kb.size; omega, hk.2, by omega⟩) f _ _ HQ.out.2.2
    have hne : k ≠ N2 := by omega
    rw [Below.heap_setCell _ _ _ _ hne, Below.heap_setCell _ _ _ _ hne, Below.heap_setCell _ _ _ _ hne, Below.heap_setCell _ _ _ _ hne, Below.heap_setCell _ _ _ _ hne, Below.heap_setCell _ _ _ _ hne]
  have HSZ : Hid ((((((((w4.setCell ⟨N2, 5, none⟩ (.int .i64 d.kind)).setCell ⟨N2, 6, none⟩ (.int .i64 d.n)).setCell ⟨N2, 7, none⟩ (.string d.name)).setCell ⟨N2, 8, none⟩ (.int .i64 d.stamp)).setCell ⟨N2, 9, none⟩ (.int .i64 d.lib)).setCell ⟨N2, 10, none⟩ (.slice qa d.kids.length qc))).heap.size = w4.heap.size) := by unfold Hid; simp [World.setCell]
  clear h1 k1 N p0 pz q1 q2 q3
  go_upto_region 16 with fail
  rw [show (((((((#[.int .i64 op, .int .i64 0, .int .i64 0, .string ⟨#[]⟩, .string ⟨#[]⟩, .int .i64 0, .int .i64 0, .string ⟨#[]⟩, .int .i64 0, .int .i64 0, .slice none 0 0] : Array Value).setIfInBounds 5 (.int .i64 d.kind)).setIfInBounds 6 (.int .i64 d.n)).setIfInBounds 7 (.string d.name)).setIfInBounds 8 (.int .i64 d.stamp)).setIfInBounds 9 (.int .i64 d.lib)).setIfInBounds 10 (.slice qa d.kids.length qc)) = #[.int .i64 op, .int .i64 0, .int .i64 0, .string ⟨#[]⟩, .string ⟨#[]⟩, .int .i64 d.kind, .int .i64 d.n, .string d.name, .int .i64 d.stamp, .int .i64 d.lib, .slice qa d.kids.length qc] from rfl] at RI4
  generalize ((((((w4.setCell ⟨N2, 5, none⟩ (.int .i64 d.kind)).setCell ⟨N2, 6, none⟩ (.int .i64 d.n)).setCell ⟨N2, 7, none⟩ (.string d.name)).setCell ⟨N2, 8, none⟩ (.int .i64 d.stamp)).setCell ⟨N2, 9, none⟩ (.int .i64 d.lib)).setCell ⟨N2, 10, none⟩ (.slice qa d.kids.length qc)) = W at RI4 HDC HSZ ⊢
  clear RI2 RI3 p5 p6 p7 p8 p9 p10 pz4
  have e0 : W.cell? ⟨N2, 0, none⟩ = some (.int .i64 op) := (cellO RI4.out.n2).trans rfl
  have e1 : W.cell? ⟨N2, 1, none⟩ = some (.int .i64 0) := (cellO RI4.out.n2).trans rfl
  have e2 : W.cell? ⟨N2, 2, none⟩ = some (.int .i64 0) := (cellO RI4.out.n2).trans rfl
  have e3 : W.cell? ⟨N2, 3, none⟩ = some (.string ⟨#[]⟩) := (cellO RI4.out.n2).trans rfl
  have e4 : W.cell? ⟨N2, 4, none⟩ = some (.string ⟨#[]⟩) := (cellO RI4.out.n2).trans rfl
  have e5 : W.cell? ⟨N2, 5, none⟩ = some (.int .i64 d.kind) := (cellO RI4.out.n2).trans rfl
  have e6 : W.cell? ⟨N2, 6, none⟩ = some (.int .i64 d.n) := (cellO RI4.out.n2).trans rfl
  have e7 : W.cell? ⟨N2, 7, none⟩ = some (.string d.name) := (cellO RI4.out.n2).trans rfl
  have e8 : W.cell? ⟨N2, 8, none⟩ = some (.int .i64 d.stamp) := (cellO RI4.out.n2).trans rfl
  have e9 : W.cell? ⟨N2, 9, none⟩ = some (.int .i64 d.lib) := (cellO RI4.out.n2).trans rfl
  have e10 : W.cell? ⟨N2, 10, none⟩ = some (.slice qa d.kids.length qc) := (cellO RI4.out.n2).trans rfl
  have r0 : W.cell? ⟨N1, 0, none⟩ = some (.int .i64 0) := (cellO RI4.out.n1).trans rfl
  have r1 : W.cell? ⟨N1, 1, none⟩ = some (.int .i64 0) := (cellO RI4.out.n1).trans rfl
  have r2 : W.cell? ⟨N1, 2, none⟩ = some (.int .i64 0) := (cellO RI4.out.n1).trans rfl
  have r3 : W.cell? ⟨N1, 3, none⟩ = some (.string ⟨#[]⟩) := (cellO RI4.out.n1).trans rfl
  have r4 : W.cell? ⟨N1, 4, none⟩ = some (.string ⟨#[]⟩) := (cellO RI4.out.n1).trans rfl
  have r5 : W.cell? ⟨N1, 5, none⟩ = some (.int .i64 0) := (cellO RI4.out.n1).trans rfl
  have r6 : W.cell? ⟨N1, 6, none⟩ = some (.int .i64 0) := (cellO RI4.out.n1).trans rfl
  have r7 : W.cell? ⟨N1, 7, none⟩ = some (.string ⟨#[]⟩) := (cellO RI4.out.n1).trans rfl
  have r8 : W.cell? ⟨N1, 8, none⟩ = some (.int .i64 0) := (cellO RI4.out.n1).trans rfl
  have r9 : W.cell? ⟨N1, 9, none⟩ = some (.int .i64 0) := (cellO RI4.out.n1).trans rfl
  have r10 : W.cell? ⟨N1, 10, none⟩ = some (.slice none 0 0) := (cellO RI4.out.n1).trans rfl
  have rz : ∀ q, W.frozen? ⟨N1, q, none⟩ = false := fun q => looseO RI4.out.n1
  have END := hidd (fill11_heap RI4.out.n1 (.int .i64 op) (.int .i64 0) (.int .i64 0) (.string ⟨#[]⟩) (.string ⟨#[]⟩) (.int .i64 d.kind) (.int .i64 d.n) (.string d.name) (.int .i64 d.stamp) (.int .i64 d.lib) (.slice qa d.kids.length qc))
  have FIL := hidd (RI4.out.fill (.int .i64 op) (.int .i64 0) (.int .i64 0) (.string ⟨#[]⟩) (.string ⟨#[]⟩) (.int .i64 d.kind) (.int .i64 d.n) (.string d.name) (.int .i64 d.stamp) (.int .i64 d.lib) (.slice qa d.kids.length qc))
  have FSZ := hidd (fill11_size W N1 (.int .i64 op) (.int .i64 0) (.int .i64 0) (.string ⟨#[]⟩) (.string ⟨#[]⟩) (.int .i64 d.kind) (.int .i64 d.n) (.string d.name) (.int .i64 d.stamp) (.int .i64 d.lib) (.slice qa d.kids.length qc))
  have FKP := hidd (fill11_keep W N1 (.int .i64 op) (.int .i64 0) (.int .i64 0) (.string ⟨#[]⟩) (.string ⟨#[]⟩) (.int .i64 d.kind) (.int .i64 d.n) (.string d.name) (.int .i64 d.stamp) (.int .i64 d.lib) (.slice qa d.kids.length qc))
  have HDE : Hid (Dc (fun k => w.heap.size ≤ k ∧ k < (fill11 W N1 (.int .i64 op) (.int .i64 0) (.int .i64 0) (.string ⟨#[]⟩) (.string ⟨#[]⟩) (.int .i64 d.kind) (.int .i64 d.n) (.string d.name) (.int .i64 d.stamp) (.int .i64 d.lib) (.slice qa d.kids.length qc)).heap.size) (fill11 W N1 (.int .i64 op) (.int .i64 0) (.int .i64 0) (.string ⟨#[]⟩) (.string ⟨#[]⟩) (.int .i64 d.kind) (.int .i64 d.n) (.string d.name) (.int .i64 d.stamp) (.int .i64 d.lib) (.slice qa d.kids.length qc)) f qa d.kids) := by
    have hsz := HSZ.out
    refine Dc.stay (fun k hk => FKP.out.block k (by omega) (by simp; exact hk.2.2)) (fun k hk => ⟨hk.1, by rw [FSZ.out]; omega⟩) f _ _ HDC.out
  go_wp2_with fail
  exact bodyPost_ret (ret92 END.out rfl) rfl ⟨qa, qc, rfl, FIL.out.1, FIL.out.2, Nat.zero_le _, Nat.zero_le _, HQ.out.2.1, HQ.out.1, f, HDE.out⟩
end Go.Proofs.YtfmanhkeclogfaaGreatDoor
