/- Instructions: package code's named and last. Chapter 9: the document's own Kind, and Own of a global. -/
import Derived.Laws.Rows
import Derived.Test.YtfmanhkeclogfaaGreatDoorK12
import Derived.Test.YtfmanhkeclogfaaGreatDoorK14
namespace Go.Proofs.YtfmanhkeclogfaaGreatDoor
section
set_option linter.unusedVariables false
set_option linter.unusedSimpArgs false
open Go.RowKit

/-- An instruction's cells, its value. -/
def ic (i : In) (q : Value) : Array Value := #[.int .i64 i.op, .int .i64 i.a, .int .i64 i.n, .string i.lib, .string i.own, .int .i64 i.quote.kind, .int .i64 i.quote.n, .string i.quote.name, .int .i64 i.quote.stamp, .int .i64 i.quote.lib, q]
def iv (i : In) (qa : Option Addr) (qc : Nat) : Value := .agg (ic i (.slice qa i.quote.kids.length qc))
def fill11 (W : World) (N : Nat) (x0 x1 x2 x3 x4 x5 x6 x7 x8 x9 x10 : Value) : World := (((((((((((W).setCell ⟨N, 0, none⟩ x0).setCell ⟨N, 1, none⟩ x1).setCell ⟨N, 2, none⟩ x2).setCell ⟨N, 3, none⟩ x3).setCell ⟨N, 4, none⟩ x4).setCell ⟨N, 5, none⟩ x5).setCell ⟨N, 6, none⟩ x6).setCell ⟨N, 7, none⟩ x7).setCell ⟨N, 8, none⟩ x8).setCell ⟨N, 9, none⟩ x9).setCell ⟨N, 10, none⟩ x10
theorem fill11_keep (W : World) (N : Nat) (x0 x1 x2 x3 x4 x5 x6 x7 x8 x9 x10 : Value) : Keep N W (fill11 W N x0 x1 x2 x3 x4 x5 x6 x7 x8 x9 x10) := by
  unfold fill11
  exact (((((((((((Keep.refl N W).setCell ⟨N, 0, none⟩ rfl x0).setCell ⟨N, 1, none⟩ rfl x1).setCell ⟨N, 2, none⟩ rfl x2).setCell ⟨N, 3, none⟩ rfl x3).setCell ⟨N, 4, none⟩ rfl x4).setCell ⟨N, 5, none⟩ rfl x5).setCell ⟨N, 6, none⟩ rfl x6).setCell ⟨N, 7, none⟩ rfl x7).setCell ⟨N, 8, none⟩ rfl x8).setCell ⟨N, 9, none⟩ rfl x9).setCell ⟨N, 10, none⟩ rfl x10
theorem fill11_heap {W : World} {N : Nat} {y0 y1 y2 y3 y4 y5 y6 y7 y8 y9 y10 : Value} (h : W.heap[N]? = some (.cells #[y0, y1, y2, y3, y4, y5, y6, y7, y8, y9, y10] 52 (0, 0))) (x0 x1 x2 x3 x4 x5 x6 x7 x8 x9 x10 : Value) :
    (fill11 W N x0 x1 x2 x3 x4 x5 x6 x7 x8 x9 x10).heap[N]? = some (.cells #[x0, x1, x2, x3, x4, x5, x6, x7, x8, x9, x10] 52 (0, 0)) := by
  have h0 := heap_setCell_same (W) N 0 #[y0, y1, y2, y3, y4, y5, y6, y7, y8, y9, y10] 52 x0 h
  rw [show (#[y0, y1, y2, y3, y4, y5, y6, y7, y8, y9, y10] : Array Value).setIfInBounds 0 x0 = #[x0, y1, y2, y3, y4, y5, y6, y7, y8, y9, y10] from rfl] at h0
  have h1 := heap_setCell_same ((W).setCell ⟨N, 0, none⟩ x0) N 1 #[x0, y1, y2, y3, y4, y5, y6, y7, y8, y9, y10] 52 x1 h0
  rw [show (#[x0, y1, y2, y3, y4, y5, y6, y7, y8, y9, y10] : Array Value).setIfInBounds 1 x1 = #[x0, x1, y2, y3, y4, y5, y6, y7, y8, y9, y10] from rfl] at h1
  have h2 := heap_setCell_same (((W).setCell ⟨N, 0, none⟩ x0).setCell ⟨N, 1, none⟩ x1) N 2 #[x0, x1, y2, y3, y4, y5, y6, y7, y8, y9, y10] 52 x2 h1
  rw [show (#[x0, x1, y2, y3, y4, y5, y6, y7, y8, y9, y10] : Array Value).setIfInBounds 2 x2 = #[x0, x1, x2, y3, y4, y5, y6, y7, y8, y9, y10] from rfl] at h2
  have h3 := heap_setCell_same ((((W).setCell ⟨N, 0, none⟩ x0).setCell ⟨N, 1, none⟩ x1).setCell ⟨N, 2, none⟩ x2) N 3 #[x0, x1, x2, y3, y4, y5, y6, y7, y8, y9, y10] 52 x3 h2
  rw [show (#[x0, x1, x2, y3, y4, y5, y6, y7, y8, y9, y10] : Array Value).setIfInBounds 3 x3 = #[x0, x1, x2, x3, y4, y5, y6, y7, y8, y9, y10] from rfl] at h3
  have h4 := heap_setCell_same (((((W).setCell ⟨N, 0, none⟩ x0).setCell ⟨N, 1, none⟩ x1).setCell ⟨N, 2, none⟩ x2).setCell ⟨N, 3, none⟩ x3) N 4 #[x0, x1, x2, x3, y4, y5, y6, y7, y8, y9, y10] 52 x4 h3
  rw [show (#[x0, x1, x2, x3, y4, y5, y6, y7, y8, y9, y10] : Array Value).setIfInBounds 4 x4 = #[x0, x1, x2, x3, x4, y5, y6, y7, y8, y9, y10] from rfl] at h4
  have h5 := heap_setCell_same ((((((W).setCell ⟨N, 0, none⟩ x0).setCell ⟨N, 1, none⟩ x1).setCell ⟨N, 2, none⟩ x2).setCell ⟨N, 3, none⟩ x3).setCell ⟨N, 4, none⟩ x4) N 5 #[x0, x1, x2, x3, x4, y5, y6, y7, y8, y9, y10] 52 x5 h4
  rw [show (#[x0, x1, x2, x3, x4, y5, y6, y7, y8, y9, y10] : Array Value).setIfInBounds 5 x5 = #[x0, x1, x2, x3, x4, x5, y6, y7, y8, y9, y10] from rfl] at h5
  have h6 := heap_setCell_same (((((((W).setCell ⟨N, 0, none⟩ x0).setCell ⟨N, 1, none⟩ x1).setCell ⟨N, 2, none⟩ x2).setCell ⟨N, 3, none⟩ x3).setCell ⟨N, 4, none⟩ x4).setCell ⟨N, 5, none⟩ x5) N 6 #[x0, x1, x2, x3, x4, x5, y6, y7, y8, y9, y10] 52 x6 h5
  rw [show (#[x0, x1, x2, x3, x4, x5, y6, y7, y8, y9, y10] : Array Value).setIfInBounds 6 x6 = #[x0, x1, x2, x3, x4, x5, x6, y7, y8, y9, y10] from rfl] at h6
  have h7 := heap_setCell_same ((((((((W).setCell ⟨N, 0, none⟩ x0).setCell ⟨N, 1, none⟩ x1).setCell ⟨N, 2, none⟩ x2).setCell ⟨N, 3, none⟩ x3).setCell ⟨N, 4, none⟩ x4).setCell ⟨N, 5, none⟩ x5).setCell ⟨N, 6, none⟩ x6) N 7 #[x0, x1, x2, x3, x4, x5, x6, y7, y8, y9, y10] 52 x7 h6
  rw [show (#[x0, x1, x2, x3, x4, x5, x6, y7, y8, y9, y10] : Array Value).setIfInBounds 7 x7 = #[x0, x1, x2, x3, x4, x5, x6, x7, y8, y9, y10] from rfl] at h7
  have h8 := heap_setCell_same (((((((((W).setCell ⟨N, 0, none⟩ x0).setCell ⟨N, 1, none⟩ x1).setCell ⟨N, 2, none⟩ x2).setCell ⟨N, 3, none⟩ x3).setCell ⟨N, 4, none⟩ x4).setCell ⟨N, 5, none⟩ x5).setCell ⟨N, 6, none⟩ x6).setCell ⟨N, 7, none⟩ x7) N 8 #[x0, x1, x2, x3, x4, x5, x6, x7, y8, y9, y10] 52 x8 h7
  rw [show (#[x0, x1, x2, x3, x4, x5, x6, x7, y8, y9, y10] : Array Value).setIfInBounds 8 x8 = #[x0, x1, x2, x3, x4, x5, x6, x7, x8, y9, y10] from rfl] at h8
  have h9 := heap_setCell_same ((((((((((W).setCell ⟨N, 0, none⟩ x0).setCell ⟨N, 1, none⟩ x1).setCell ⟨N, 2, none⟩ x2).setCell ⟨N, 3, none⟩ x3).setCell ⟨N, 4, none⟩ x4).setCell ⟨N, 5, none⟩ x5).setCell ⟨N, 6, none⟩ x6).setCell ⟨N, 7, none⟩ x7).setCell ⟨N, 8, none⟩ x8) N 9 #[x0, x1, x2, x3, x4, x5, x6, x7, x8, y9, y10] 52 x9 h8
  rw [show (#[x0, x1, x2, x3, x4, x5, x6, x7, x8, y9, y10] : Array Value).setIfInBounds 9 x9 = #[x0, x1, x2, x3, x4, x5, x6, x7, x8, x9, y10] from rfl] at h9
  have h10 := heap_setCell_same (((((((((((W).setCell ⟨N, 0, none⟩ x0).setCell ⟨N, 1, none⟩ x1).setCell ⟨N, 2, none⟩ x2).setCell ⟨N, 3, none⟩ x3).setCell ⟨N, 4, none⟩ x4).setCell ⟨N, 5, none⟩ x5).setCell ⟨N, 6, none⟩ x6).setCell ⟨N, 7, none⟩ x7).setCell ⟨N, 8, none⟩ x8).setCell ⟨N, 9, none⟩ x9) N 10 #[x0, x1, x2, x3, x4, x5, x6, x7, x8, x9, y10] 52 x10 h9
  rw [show (#[x0, x1, x2, x3, x4, x5, x6, x7, x8, x9, y10] : Array Value).setIfInBounds 10 x10 = #[x0, x1, x2, x3, x4, x5, x6, x7, x8, x9, x10] from rfl] at h10
  exact h10
theorem ret47 {ts : Array Value} {W : World} {N : Nat} {x0 x1 x2 x3 x4 x5 x6 x7 x8 x9 x10 : Value} (h : W.heap[N]? = some (.cells #[x0, x1, x2, x3, x4, x5, x6, x7, x8, x9, x10] 52 (0, 0))) (h4 : ts[4]? = some (.pointer (some ⟨N, 0, none⟩))) :
    (results Tryz.f125 ts).run Tryz.prog W = .ok (.agg #[x0, x1, x2, x3, x4, x5, x6, x7, x8, x9, x10]) W := by
  have cc : ∀ q, W.cell? ⟨N, q, none⟩ = #[x0, x1, x2, x3, x4, x5, x6, x7, x8, x9, x10][q]? := fun q => by simp [World.cell?, h]
  have q0 := cc 0
  have q1 := cc 1
  have q2 := cc 2
  have q3 := cc 3
  have q4 := cc 4
  have q5 := cc 5
  have q6 := cc 6
  have q7 := cc 7
  have q8 := cc 8
  have q9 := cc 9
  have q10 := cc 10
  simp at q0 q1 q2 q3 q4 q5 q6 q7 q8 q9 q10
  simp [results, Tryz.results125, go_sem, h4, q0, q1, q2, q3, q4, q5, q6, q7, q8, q9, q10]
theorem ret40 {ts : Array Value} {W : World} {N : Nat} {x0 x1 x2 x3 x4 x5 x6 x7 x8 x9 x10 : Value} (h : W.heap[N]? = some (.cells #[x0, x1, x2, x3, x4, x5, x6, x7, x8, x9, x10] 52 (0, 0))) (h4 : ts[2]? = some (.pointer (some ⟨N, 0, none⟩))) :
    (results Tryz.f104 ts).run Tryz.prog W = .ok (.agg #[x0, x1, x2, x3, x4, x5, x6, x7, x8, x9, x10]) W := by
  have cc : ∀ q, W.cell? ⟨N, q, none⟩ = #[x0, x1, x2, x3, x4, x5, x6, x7, x8, x9, x10][q]? := fun q => by simp [World.cell?, h]
  have q0 := cc 0
  have q1 := cc 1
  have q2 := cc 2
  have q3 := cc 3
  have q4 := cc 4
  have q5 := cc 5
  have q6 := cc 6
  have q7 := cc 7
  have q8 := cc 8
  have q9 := cc 9
  have q10 := cc 10
  simp at q0 q1 q2 q3 q4 q5 q6 q7 q8 q9 q10
  simp [results, Tryz.results104, go_sem, h4, q0, q1, q2, q3, q4, q5, q6, q7, q8, q9, q10]

set_option maxRecDepth 100000 in
set_option maxHeartbeats 800000 in
theorem named_any (op : Int) (b o : Nat) (lb ow : ByteArray) (w : World) (hbw : b < w.heap.size) (hc3 : w.cell? ⟨b, o + 3, none⟩ = some (.string lb)) (hc4 : w.cell? ⟨b, o + 4, none⟩ = some (.string ow)) (hlb : lb.size ≤ 281474976710656) (how : ow.size ≤ 281474976710656) :
    Calls Tryz.prog 125 #[.int .i64 op, .pointer (some ⟨b, o, none⟩)] w fun e w' => e = .returned (.agg #[.int .i64 op, .int .i64 0, .int .i64 0, .string lb, .string ow, .int .i64 0, .int .i64 0, .string ⟨#[]⟩, .int .i64 0, .int .i64 0, .slice none 0 0]) ∧ Below w.heap.size w w' := by
  have HB : Hid (Below w.heap.size w (w.alloc (.cells #[.int .i64 0, .int .i64 0, .int .i64 0, .string ⟨#[]⟩, .string ⟨#[]⟩, .int .i64 0, .int .i64 0, .string ⟨#[]⟩, .int .i64 0, .int .i64 0, .slice none 0 0] 52))) := (Below.refl _ _).alloc (Nat.le_refl _) _
  have c3 := (HB.out.cell (p := ⟨b, o + 3, none⟩) hbw).trans hc3
  have c4 := (HB.out.cell (p := ⟨b, o + 4, none⟩) hbw).trans hc4
  have hbW : b < (w.alloc (.cells #[.int .i64 0, .int .i64 0, .int .i64 0, .string ⟨#[]⟩, .string ⟨#[]⟩, .int .i64 0, .int .i64 0, .string ⟨#[]⟩, .int .i64 0, .int .i64 0, .slice none 0 0] 52)).heap.size := Nat.lt_of_lt_of_le hbw HB.out.size
  have RB_0 := hidd (World.alloc_heap_new w (.cells #[.int .i64 0, .int .i64 0, .int .i64 0, .string ⟨#[]⟩, .string ⟨#[]⟩, .int .i64 0, .int .i64 0, .string ⟨#[]⟩, .int .i64 0, .int .i64 0, .slice none 0 0] 52))
  go_enter Tryz.func125, Tryz.ntmps125
  go_upto_region 1 with fail
  generalize w.alloc (.cells #[.int .i64 0, .int .i64 0, .int .i64 0, .string ⟨#[]⟩, .string ⟨#[]⟩, .int .i64 0, .int .i64 0, .string ⟨#[]⟩, .int .i64 0, .int .i64 0, .slice none 0 0] 52) = W0 at HB c3 c4 hbW RB_0 ⊢
  refine wp_region_held_drew (S := fun u => Below w.heap.size w u) (by kernel_rfl) (HB.out.trans (Below.drew (Below.refl _ _))) (fun hS => ?_)
  refine wpAnyH_take (i := 0) (oi := { dst := some 5, op := Op.move (Operand.tmp 0), type := 3, pos := _, after := _, guard := none }) (v := .int .i64 op) rfl (by kernel_rfl) (by kernel_rfl) (by kernel_rfl) (fun _ _ _ h => h) (Or.inl ⟨by rfl, fun u hu => by go_simp⟩) hS ?_
  simp only [Act.put, List.setIfInBounds_toArray, List.set_cons_zero, List.set_cons_succ]
  refine wpAnyH_take (i := 1) (oi := { dst := some 6, op := Op.move (Operand.tmp 1), type := 129, pos := _, after := _, guard := none }) (v := .pointer (some ⟨b, o, none⟩)) rfl (by kernel_rfl) (by kernel_rfl) (by kernel_rfl) (fun _ _ _ h => h) (Or.inl ⟨by rfl, fun u hu => by go_simp⟩) hS ?_
  simp only [Act.put, List.setIfInBounds_toArray, List.set_cons_zero, List.set_cons_succ]
  refine wpAnyH_take (i := 2) (oi := { dst := some 7, op := Op.nilCheck (Operand.tmp 6), type := 0, pos := _, after := _, guard := none }) (v := .pointer (some ⟨b, o, none⟩)) rfl (by kernel_rfl) (by kernel_rfl) (by kernel_rfl) (fun _ _ _ h => h) (Or.inl ⟨by rfl, fun u hu => by go_simp⟩) hS ?_
  simp only [Act.put, List.setIfInBounds_toArray, List.set_cons_zero, List.set_cons_succ]
  refine wpAnyH_take (i := 3) (oi := { dst := some 8, op := Op.fieldAddr 90 (Operand.tmp 7) 3, type := 0, pos := _, after := _, guard := none }) (v := .pointer (some ⟨b, o + 3, none⟩)) rfl (by kernel_rfl) (by kernel_rfl) (by kernel_rfl) (fun _ _ _ h => h) (Or.inl ⟨by rfl, fun u hu => by go_simp⟩) hS ?_
  simp only [Act.put, List.setIfInBounds_toArray, List.set_cons_zero, List.set_cons_succ]
  refine wpAnyH_take (i := 4) (oi := { dst := some 9, op := Op.load 9 (Operand.tmp 8), type := 9, pos := _, after := _, guard := none }) (v := .string lb) rfl (by kernel_rfl) (by kernel_rfl) (by kernel_rfl) (fun _ _ _ h => h) (Or.inl ⟨by rfl, fun u hu => by (have z := (hu.cell (p := ⟨b, o + 3, none⟩) hbw).trans hc3; go_simp)⟩) hS ?_
  simp only [Act.put, List.setIfInBounds_toArray, List.set_cons_zero, List.set_cons_succ]
  refine wpAnyH_take (i := 6) (oi := { dst := some 11, op := Op.move (Operand.tmp 1), type := 129, pos := _, after := _, guard := none }) (v := .pointer (some ⟨b, o, none⟩)) rfl (by kernel_rfl) (by kernel_rfl) (by kernel_rfl) (fun _ _ _ h => h) (Or.inl ⟨by rfl, fun u hu => by go_simp⟩) hS ?_
  simp only [Act.put, List.setIfInBounds_toArray, List.set_cons_zero, List.set_cons_succ]
  refine wpAnyH_take (i := 7) (oi := { dst := some 12, op := Op.nilCheck (Operand.tmp 11), type := 0, pos := _, after := _, guard := none }) (v := .pointer (some ⟨b, o, none⟩)) rfl (by kernel_rfl) (by kernel_rfl) (by kernel_rfl) (fun _ _ _ h => h) (Or.inl ⟨by rfl, fun u hu => by go_simp⟩) hS ?_
  simp only [Act.put, List.setIfInBounds_toArray, List.set_cons_zero, List.set_cons_succ]
  refine wpAnyH_take (i := 8) (oi := { dst := some 13, op := Op.fieldAddr 90 (Operand.tmp 12) 4, type := 0, pos := _, after := _, guard := none }) (v := .pointer (some ⟨b, o + 4, none⟩)) rfl (by kernel_rfl) (by kernel_rfl) (by kernel_rfl) (fun _ _ _ h => h) (Or.inl ⟨by rfl, fun u hu => by go_simp⟩) hS ?_
  simp only [Act.put, List.setIfInBounds_toArray, List.set_cons_zero, List.set_cons_succ]
  refine wpAnyH_take (i := 9) (oi := { dst := some 14, op := Op.load 9 (Operand.tmp 13), type := 9, pos := _, after := _, guard := none }) (v := .string ow) rfl (by kernel_rfl) (by kernel_rfl) (by kernel_rfl) (fun _ _ _ h => h) (Or.inl ⟨by rfl, fun u hu => by (have z := (hu.cell (p := ⟨b, o + 4, none⟩) hbw).trans hc4; go_simp)⟩) hS ?_
  simp only [Act.put, List.setIfInBounds_toArray, List.set_cons_zero, List.set_cons_succ]
  refine wpAnyH_ready (rs := [5]) (by kernel_rfl) (by simp) (AllReadyH.cons (o := { dst := some 10, op := Op.call { callee := Callee.value (Operand.func 43), args := #[Operand.tmp 9], argTypes := #[9] }, type := 9, pos := _, after := _, guard := none }) rfl (fun K hK => ?_) AllReadyH.nil)
  go_simp
  refine Calls.mono (Clone_any lb W0.drew hlb) ?_
  rintro e W1 ⟨rfl, hb1⟩
  have RB_1 := hidd ((hb1.block _ (Array.getElem?_eq_some_iff.1 RB_0.out).1).trans RB_0.out)
  have hS1 := hS.trans (hb1.mono hS.size)
  clear hb1 RB_0
  show K _ W1
  refine hK.out _ _ hS1 (fun hS => ?_)
  clear hK K
  refine wpAnyH_ready (rs := [10]) (by kernel_rfl) (by simp) (AllReadyH.cons (o := { dst := some 15, op := Op.call { callee := Callee.value (Operand.func 43), args := #[Operand.tmp 14], argTypes := #[9] }, type := 9, pos := _, after := _, guard := none }) rfl (fun K hK => ?_) AllReadyH.nil)
  go_simp
  refine Calls.mono (Clone_any ow W1 how) ?_
  rintro e W2 ⟨rfl, hb2⟩
  have RB_2 := hidd ((hb2.block _ (Array.getElem?_eq_some_iff.1 RB_1.out).1).trans RB_1.out)
  have hS2 := hS.trans (hb2.mono hS.size)
  clear hb2 RB_1
  show K _ W2
  refine hK.out _ _ hS2 (fun hS => ?_)
  clear hK K
  refine wpAnyH_take (i := 11) (oi := { dst := some 16, op := Op.build 52 #[(0, Operand.tmp 5), (3, Operand.tmp 10), (4, Operand.tmp 15)], type := 52, pos := _, after := _, guard := none }) (v := .agg #[.int .i64 op, .int .i64 0, .int .i64 0, .string lb, .string ow, .int .i64 0, .int .i64 0, .string ⟨#[]⟩, .int .i64 0, .int .i64 0, .slice none 0 0]) rfl (by kernel_rfl) (by kernel_rfl) (by kernel_rfl) (fun _ _ _ h => h) (Or.inl ⟨by rfl, fun u hu => by go_simp⟩) hS ?_
  simp only [Act.put, List.setIfInBounds_toArray, List.set_cons_zero, List.set_cons_succ]
  refine wpAnyH_ready (rs := [12]) (by kernel_rfl) (by simp) (AllReadyH.cons (o := { dst := none, op := Op.store 52 (Operand.tmp 4) (Operand.tmp 16), type := 0, pos := _, after := _, guard := none }) rfl (fun K hK => ?_) AllReadyH.nil)
  have cc : ∀ q, W2.cell? ⟨w.heap.size, q, none⟩ = #[.int .i64 0, .int .i64 0, .int .i64 0, .string ⟨#[]⟩, .string ⟨#[]⟩, .int .i64 0, .int .i64 0, .string ⟨#[]⟩, .int .i64 0, .int .i64 0, .slice none 0 0][q]? := fun q => by simp [World.cell?, RB_2.out]
  have q0 := cc 0
  have q1 := cc 1
  have q2 := cc 2
  have q3 := cc 3
  have q4 := cc 4
  have q5 := cc 5
  have q6 := cc 6
  have q7 := cc 7
  have q8 := cc 8
  have q9 := cc 9
  have q10 := cc 10
  have qz : ∀ q, W2.frozen? ⟨w.heap.size, q, none⟩ = false := fun q => by simp [World.frozen?, RB_2.out]
  simp at q0 q1 q2 q3 q4 q5 q6 q7 q8 q9 q10
  clear cc
  go_simp
  change K _ (fill11 W2 w.heap.size (.int .i64 op) (.int .i64 0) (.int .i64 0) (.string lb) (.string ow) (.int .i64 0) (.int .i64 0) (.string ⟨#[]⟩) (.int .i64 0) (.int .i64 0) (.slice none 0 0))
  have END := hidd (fill11_heap RB_2.out (.int .i64 op) (.int .i64 0) (.int .i64 0) (.string lb) (.string ow) (.int .i64 0) (.int .i64 0) (.string ⟨#[]⟩) (.int .i64 0) (.int .i64 0) (.slice none 0 0))
  have hke := fill11_keep W2 w.heap.size (.int .i64 op) (.int .i64 0) (.int .i64 0) (.string lb) (.string ow) (.int .i64 0) (.int .i64 0) (.string ⟨#[]⟩) (.int .i64 0) (.int .i64 0) (.slice none 0 0)
  have hSE : Below w.heap.size w (fill11 W2 w.heap.size (.int .i64 op) (.int .i64 0) (.int .i64 0) (.string lb) (.string ow) (.int .i64 0) (.int .i64 0) (.string ⟨#[]⟩) (.int .i64 0) (.int .i64 0) (.slice none 0 0)) := hS.trans (hke.toBelow (Nat.le_refl _) hS.size)
  have BE := hidd hSE
  generalize fill11 W2 w.heap.size (.int .i64 op) (.int .i64 0) (.int .i64 0) (.string lb) (.string ow) (.int .i64 0) (.int .i64 0) (.string ⟨#[]⟩) (.int .i64 0) (.int .i64 0) (.slice none 0 0) = W9 at END hke BE ⊢
  clear q0 q1 q2 q3 q4 q5 q6 q7 q8 q9 q10 qz hSE
  refine hK.out _ _ BE.out (fun hS => ?_)
  clear hK K
  refine wpAnyH_done (by kernel_rfl) ?_ _
  go_wp2_with fail
  exact bodyPost_ret (ret47 END.out rfl) rfl ⟨rfl, BE.out⟩
end
section
set_option linter.unusedVariables false
set_option linter.unusedSimpArgs false
open Go.RowKit

def kindTab : List Int := [110, 110, 113, 108, 103, 112, 99, 97, 106, 106, 108, 103, 103, 45, 45]
/-- What an instruction has, by a letter. -/
def kindB (op : Int) : Int := if op < 1 ∨ 15 < op then 0 else kindTab.getD (op - 1).toNat 0
set_option maxHeartbeats 800000 in
theorem Kind_any (op : Int) (w : World) : Calls Tryz.prog 29 #[.int .i64 op] w fun r w' => r = .returned (.int .u8 (kindB op)) ∧ w' = w := by
  by_cases c1 : op < 1
  · rw [show kindB op = 0 by unfold kindB; rw [if_pos (Or.inl c1)]]
    go_enter Tryz.func29, Tryz.ntmps29
    go_wp2_with fail
    go_ret
    exact ⟨rfl, rfl⟩
  by_cases c2 : 15 < op
  · rw [show kindB op = 0 by unfold kindB; rw [if_pos (Or.inr c2)]]
    go_enter Tryz.func29, Tryz.ntmps29
    go_wp2_with fail
    go_ret
    exact ⟨rfl, rfl⟩
  have kk : op = 1 ∨ op = 2 ∨ op = 3 ∨ op = 4 ∨ op = 5 ∨ op = 6 ∨ op = 7 ∨ op = 8 ∨ op = 9 ∨ op = 10 ∨ op = 11 ∨ op = 12 ∨ op = 13 ∨ op = 14 ∨ op = 15 := by omega
  clear c1 c2
  rcases kk with rfl | rfl | rfl | rfl | rfl | rfl | rfl | rfl | rfl | rfl | rfl | rfl | rfl | rfl | rfl <;>
  · go_enter Tryz.func29, Tryz.ntmps29
    go_wp2_with fail
    go_ret
    exact ⟨rfl, rfl⟩
theorem ownIn_any (b : Bool) (e : Int) (w : World) : Calls Tryz.prog 45 #[.bool b, .int .i64 e] w fun r w' => r = .returned (.int .i64 (if b then 0 else e)) ∧ w' = w := by
  cases b <;>
  · go_enter Tryz.func45, Tryz.ntmps45
    go_wp2_with fail
    go_ret
    exact ⟨rfl, rfl⟩
set_option maxRecDepth 100000 in
set_option maxHeartbeats 1600000 in
theorem Own_global (x : In) (qa : Option Addr) (qc : Nat) (w : World) (hop : x.op = 5 ∨ x.op = 12 ∨ x.op = 13) (hl : x.lib.size ≤ maxLen) (ho : x.own.size ≤ maxLen) :
    Calls Tryz.prog 19 #[iv x qa qc, .int .i64 0, .int .i64 0, .int .i64 (-1)] w fun r w' => r = .returned (.int .i64 (nameW x)) ∧ Below w.heap.size w w' := by
  unfold iv ic
  have hk : kindB x.op = 103 := by rcases hop with e | e | e <;> rw [e] <;> rfl
  have K := hidd (fun w => Kind_any x.op w)
  rw [hk] at K
  have P := hidd (fun w => Plain_any x.lib hl w)
  have N := hidd (fun w => refNamed_any x.own ho w)
  have O := hidd (fun b w => ownIn_any b 7 w)
  unfold nameW
  generalize plainB x.lib = p at P ⊢
  generalize namedB x.own = q at N ⊢
  clear hl ho hop hk
  obtain ⟨op, a, n, lb, ow, qq⟩ := x
  simp only at K P N ⊢
  cases p
  · go_enter Tryz.func19, Tryz.ntmps19
    go_wp2_with fail
    refine (K.out _).mono ?_
    rintro e w1 ⟨rfl, rfl⟩
    go_wp2_with fail
    refine (P.out _).mono ?_
    rintro e w2 ⟨rfl, hb2⟩
    have HB := hidd (((Below.refl w.heap.size w).alloc (Nat.le_refl _) _).trans (hb2.mono (by simp)))
    clear hb2
    go_wp2_with fail
    refine (O.out _ _).mono ?_
    rintro e w3 ⟨rfl, rfl⟩
    go_wp2_with fail
    go_ret
    exact ⟨rfl, HB.out⟩
  · go_enter Tryz.func19, Tryz.ntmps19
    go_wp2_with fail
    refine (K.out _).mono ?_
    rintro e w1 ⟨rfl, rfl⟩
    go_wp2_with fail
    refine (P.out _).mono ?_
    rintro e w2 ⟨rfl, hb2⟩
    have HB := hidd (((Below.refl w.heap.size w).alloc (Nat.le_refl _) _).trans (hb2.mono (by simp)))
    have z4 := hb2.cell (p := ⟨w.heap.size, 4, none⟩) (by simp)
    have hsz := hb2.size
    clear hb2
    rw [World.cell?_alloc_mark w _ 52 _ 4] at z4
    simp at z4
    go_wp2_with fail
    refine (N.out _).mono ?_
    rintro e w3 ⟨rfl, hb3⟩
    have HB3 := hidd (HB.out.trans (hb3.mono (by simp at hsz; omega)))
    clear hb3 HB
    cases q <;>
    · go_wp2_with fail
      refine (O.out _ _).mono ?_
      rintro e w4 ⟨rfl, rfl⟩
      go_wp2_with fail
      go_ret
      exact ⟨rfl, HB3.out⟩
end
end Go.Proofs.YtfmanhkeclogfaaGreatDoor
