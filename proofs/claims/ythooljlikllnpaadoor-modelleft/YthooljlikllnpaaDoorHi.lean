/- Chapter 7: package value: a truth value is written; what put puts out. -/
import Derived.Test.YthooljlikllnpaaDoorHh
namespace Go.Proofs.YthooljlikllnpaaDoor
set_option linter.unusedVariables false
set_option linter.unusedSimpArgs false
open Go.RowKit

def truthB (q : Bool) : List UInt8 := [35, if q then 116 else 102]
theorem assertNo (v : Value) (w : World) : (Instr.typeAssert (.iface 105 v) 77 104 true).run Tryd.prog w = .ok (.tuple #[.int .i64 0, .bool false]) w := by
  obtain ⟨i, hi, hz⟩ := Option.map_eq_some_iff.1 (show (Tryd.prog.info? 104).map (·.zero) = some (some (.int .i64 0)) by kernel_rfl)
  simp [Instr.typeAssert, run_underlying Tryd.underlying104, hi, hz]
theorem assertT (v : Value) (w : World) : (Instr.typeAssert (.iface 105 v) 77 105 true).run Tryd.prog w = .ok (.tuple #[v, .bool true]) w := by
  simp [Instr.typeAssert, run_underlying Tryd.underlying105]
set_option maxRecDepth 100000 in
set_option maxHeartbeats 1600000 in
theorem truth_any (B b : Nat) (k : Int) (q : Bool) (l : List UInt8) (w : World) (h : Wr B b k l w) (hl : l.length ≤ 10000) (hBw : B ≤ w.heap.size) :
    Calls Tryd.prog 89 #[.pointer (some ⟨b, 0, none⟩), .bool q] w fun e w' => e = .returned (.tuple #[]) ∧ Wr B b k (l ++ truthB q) w' ∧ Below B w w' := by
  have WS : Hid (Calls Tryd.prog 88 #[.pointer (some ⟨b, 0, none⟩), .string ⟨(truthB q).toArray⟩] w fun e w' => e = .returned (.tuple #[.int .i64 2, .nilIface]) ∧ Wr B b k (l ++ truthB q) w' ∧ Below B w w') := by
    have := WriteString_any B b k l ⟨(truthB q).toArray⟩ w h (by show l.length + (truthB q).toArray.size ≤ _; simp [truthB]; omega) hBw
    have e : ByteArray.size ⟨(truthB q).toArray⟩ = 2 := by cases q <;> rfl
    rw [e] at this
    exact this
  clear h
  cases q
  · go_enter Tryd.func89, Tryd.ntmps89
    go_wp2_with fail
    refine WS.out.mono ?_
    rintro e w3 ⟨rfl, hw3, hb3⟩
    go_wp2_with fail
    go_end0
    exact ⟨rfl, hw3, hb3⟩
  · go_enter Tryd.func89, Tryd.ntmps89
    go_wp2_with fail
    refine WS.out.mono ?_
    rintro e w3 ⟨rfl, hw3, hb3⟩
    go_wp2_with fail
    go_end0
    exact ⟨rfl, hw3, hb3⟩
set_option maxRecDepth 100000 in
set_option maxHeartbeats 3200000 in
theorem value_truth (B b : Nat) (k : Int) (q : Bool) (l : List UInt8) (w : World) (h : Wr B b k l w) (hk0 : 0 ≤ k) (hk : k ≤ 299) (hl : l.length ≤ 10000) (hBw : B ≤ w.heap.size) :
    Calls Tryd.prog 81 #[.pointer (some ⟨b, 0, none⟩), .iface 105 (.bool q)] w fun e w' => e = .returned (.tuple #[]) ∧ Wr B b (k + 1) (l ++ truthB q) w' ∧ Below B w w' := by
  obtain ⟨hB, c2, z2⟩ := h.parts
  have hta := assertNo (.bool q)
  have htb := assertT (.bool q)
  have hkk : decide (k + 1 ≤ 300) = true := by simp; omega
  have HW := hidd (h.node (k + 1))
  have HB : Hid (Below B w (w.setCell ⟨b, 2, none⟩ (.int .i64 (k + 1)))) := (Below.refl B w).setCell (p := ⟨b, 2, none⟩) hB _
  have HSZ : Hid (B ≤ (w.setCell ⟨b, 2, none⟩ (.int .i64 (k + 1))).heap.size) := by
    have e : (w.setCell ⟨b, 2, none⟩ (.int .i64 (k + 1))).heap.size = w.heap.size := by simp
    exact e ▸ hBw
  have TR := hidd (truth_any B b (k + 1) q l _ HW.out hl HSZ.out)
  clear h
  obtain ⟨W1, hW1⟩ : ∃ W1, W1 = w.setCell ⟨b, 2, none⟩ (.int .i64 (k + 1)) := ⟨_, rfl⟩
  have d2 : W1.cell? ⟨b, 2, none⟩ = some (.int .i64 (k + 1)) := by rw [hW1]; exact HW.out.parts.2.1
  rw [← hW1] at HW HB HSZ TR
  have hw1 := hW1.symm
  clear hW1
  go_enter Tryd.func81, Tryd.ntmps81
  go_wp2_with fail
  refine (Must_yes _ _).mono ?_
  rintro e w1 ⟨rfl, rfl⟩
  go_wp2_with fail
  refine TR.out.mono ?_
  rintro e w3 ⟨rfl, hw3, hb3⟩
  go_wp2_with fail
  go_end0
  exact ⟨rfl, hw3, HB.out.trans hb3⟩
end Go.Proofs.YthooljlikllnpaaDoor
