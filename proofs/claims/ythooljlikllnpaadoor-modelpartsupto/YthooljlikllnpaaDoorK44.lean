/- Chapter 7: calls of procedures: the walk. Chapter 7: calls of procedures. -/
import Derived.Test.YthooljlikllnpaaDoorK25
import Derived.Test.YthooljlikllnpaaDoorK43
namespace Go.Proofs.YthooljlikllnpaaDoor
section
set_option linter.unusedVariables false
set_option linter.unusedSimpArgs false
open Go.RowKit

set_option maxRecDepth 100000 in
set_option maxHeartbeats 3200000 in
theorem call_raw6 (rb N P lb lo fp : Nat) (calls : Int) (G : Nat → World → Prop) (Q : Ending → World → Prop) (w W1 : World) (h0 : 0 ≤ calls) (h9 : calls < 200)
    (k0 : w.cell? ⟨N, 0, none⟩ = some (.iface 115 (.pointer (some ⟨P, 0, none⟩)))) (p0 : w.cell? ⟨P, 0, none⟩ = some (.int .i64 0)) (c2 : w.cell? ⟨rb, 2, none⟩ = some (.int .i64 calls)) (z2 : w.frozen? ⟨rb, 2, none⟩ = false) (hw1 : w.setCell ⟨rb, 2, none⟩ (.int .i64 (calls + 1)) = W1)
    (HXX : ∀ W, Below W1.heap.size W1 W → W.cell? ⟨P, 1, none⟩ = some (.pointer (some ⟨lb, lo, none⟩)) ∧ W.cell? ⟨P, 2, none⟩ = some (.pointer (some ⟨fp, 0, none⟩)))
    (HWW : ∀ W, Below W1.heap.size W1 W → Calls Tryd.prog 60 #[.pointer (some ⟨fp, 0, none⟩), .slice (some ⟨N, 0, none⟩) 0 0] W fun e w' => ∃ g, e = .returned (.pointer (some ⟨g, 0, none⟩)) ∧ Below W.heap.size W w' ∧ G g w')
    (HEE : ∀ g W, Below W1.heap.size W1 W → G g W → Calls Tryd.prog 28 #[.pointer (some ⟨rb, 0, none⟩), .pointer (some ⟨lb, lo, none⟩), .pointer (some ⟨g, 0, none⟩)] W fun e w' => (∃ t x, e = .returned (.iface t x) ∧ (w'.cell? ⟨P, 1, none⟩ = some (.pointer (some ⟨lb, lo, none⟩)) ∧ w'.cell? ⟨P, 2, none⟩ = some (.pointer (some ⟨fp, 0, none⟩))) ∧ w'.cell? ⟨rb, 2, none⟩ = some (.int .i64 (calls + 1)) ∧ w'.frozen? ⟨rb, 2, none⟩ = false ∧ Q (.returned (.iface t x)) (w'.setCell ⟨rb, 2, none⟩ (.int .i64 calls))) ∨ ∃ q, e = .panicked q ∧ Q (.panicked q) w') :
    Calls Tryd.prog 44 #[.pointer (some ⟨rb, 0, none⟩), .slice (some ⟨N, 0, none⟩) 1 1] w (Thru Q) := by
  have HX := hidd HXX
  have HW := hidd HWW
  have HE := hidd HEE
  clear HXX HWW HEE
  have ha1 := assertNoPr (.pointer (some ⟨P, 0, none⟩))
  have ha2 := assertProc (.pointer (some ⟨P, 0, none⟩))
  have hd2 : decide (calls < 200) = true := by simp; omega
  go_enter Tryd.func44, Tryd.ntmps44
  go_wp2_with fail
  refine (Must_yes _ _).mono ?_
  rintro en w2 ⟨rfl, rfl⟩
  go_wp2_with fail
  refine (Must_yes _ _).mono ?_
  rintro en w2 ⟨rfl, rfl⟩
  go_wp2_with fail
  refine (Must_yes _ _).mono ?_
  rintro en w2 ⟨rfl, rfl⟩
  go_wp2_with fail
  refine wp_region_held_drew (S := fun u => u.cell? ⟨P, 1, none⟩ = some (.pointer (some ⟨lb, lo, none⟩)) ∧ u.cell? ⟨P, 2, none⟩ = some (.pointer (some ⟨fp, 0, none⟩))) (by kernel_rfl) (HX.out _ (Below.drew (Below.refl _ _))) (fun hS => ?_)
  refine wpAnyH_take (i := 0) (oi := { dst := some 57, op := Op.move (Operand.tmp 0), type := 75, pos := _, after := _, guard := none }) (v := .pointer (some ⟨rb, 0, none⟩)) rfl (by kernel_rfl) (by kernel_rfl) (by kernel_rfl) (fun _ _ _ h => h) (Or.inl ⟨by rfl, fun u hu => by go_simp⟩) hS ?_
  simp only [Act.put, List.setIfInBounds_toArray, List.set_cons_zero, List.set_cons_succ]
  refine wpAnyH_take (i := 1) (oi := { dst := some 58, op := Op.move (Operand.tmp 8), type := 115, pos := _, after := _, guard := none }) (v := .pointer (some ⟨P, 0, none⟩)) rfl (by kernel_rfl) (by kernel_rfl) (by kernel_rfl) (fun _ _ _ h => h) (Or.inl ⟨by rfl, fun u hu => by go_simp⟩) hS ?_
  simp only [Act.put, List.setIfInBounds_toArray, List.set_cons_zero, List.set_cons_succ]
  refine wpAnyH_take (i := 2) (oi := { dst := some 59, op := Op.nilCheck (Operand.tmp 58), type := 0, pos := _, after := _, guard := none }) (v := .pointer (some ⟨P, 0, none⟩)) rfl (by kernel_rfl) (by kernel_rfl) (by kernel_rfl) (fun _ _ _ h => h) (Or.inl ⟨by rfl, fun u hu => by go_simp⟩) hS ?_
  simp only [Act.put, List.setIfInBounds_toArray, List.set_cons_zero, List.set_cons_succ]
  refine wpAnyH_take (i := 3) (oi := { dst := some 60, op := Op.fieldAddr 117 (Operand.tmp 59) 1, type := 0, pos := _, after := _, guard := none }) (v := .pointer (some ⟨P, 1, none⟩)) rfl (by kernel_rfl) (by kernel_rfl) (by kernel_rfl) (fun _ _ _ h => h) (Or.inl ⟨by rfl, fun u hu => by go_simp⟩) hS ?_
  simp only [Act.put, List.setIfInBounds_toArray, List.set_cons_zero, List.set_cons_succ]
  refine wpAnyH_take (i := 4) (oi := { dst := some 61, op := Op.load 79 (Operand.tmp 60), type := 79, pos := _, after := _, guard := none }) (v := .pointer (some ⟨lb, lo, none⟩)) rfl (by kernel_rfl) (by kernel_rfl) (by kernel_rfl) (fun _ _ _ h => h) (Or.inl ⟨by rfl, fun u hu => by (have z := hu.1; go_simp)⟩) hS ?_
  simp only [Act.put, List.setIfInBounds_toArray, List.set_cons_zero, List.set_cons_succ]
  refine wpAnyH_take (i := 5) (oi := { dst := some 62, op := Op.move (Operand.tmp 8), type := 115, pos := _, after := _, guard := none }) (v := .pointer (some ⟨P, 0, none⟩)) rfl (by kernel_rfl) (by kernel_rfl) (by kernel_rfl) (fun _ _ _ h => h) (Or.inl ⟨by rfl, fun u hu => by go_simp⟩) hS ?_
  simp only [Act.put, List.setIfInBounds_toArray, List.set_cons_zero, List.set_cons_succ]
  refine wpAnyH_take (i := 6) (oi := { dst := some 63, op := Op.nilCheck (Operand.tmp 62), type := 0, pos := _, after := _, guard := none }) (v := .pointer (some ⟨P, 0, none⟩)) rfl (by kernel_rfl) (by kernel_rfl) (by kernel_rfl) (fun _ _ _ h => h) (Or.inl ⟨by rfl, fun u hu => by go_simp⟩) hS ?_
  simp only [Act.put, List.setIfInBounds_toArray, List.set_cons_zero, List.set_cons_succ]
  refine wpAnyH_take (i := 7) (oi := { dst := some 64, op := Op.fieldAddr 117 (Operand.tmp 63) 2, type := 0, pos := _, after := _, guard := none }) (v := .pointer (some ⟨P, 2, none⟩)) rfl (by kernel_rfl) (by kernel_rfl) (by kernel_rfl) (fun _ _ _ h => h) (Or.inl ⟨by rfl, fun u hu => by go_simp⟩) hS ?_
  simp only [Act.put, List.setIfInBounds_toArray, List.set_cons_zero, List.set_cons_succ]
  refine wpAnyH_take (i := 8) (oi := { dst := some 65, op := Op.load 80 (Operand.tmp 64), type := 80, pos := _, after := _, guard := none }) (v := .pointer (some ⟨fp, 0, none⟩)) rfl (by kernel_rfl) (by kernel_rfl) (by kernel_rfl) (fun _ _ _ h => h) (Or.inl ⟨by rfl, fun u hu => by (have z := hu.2; go_simp)⟩) hS ?_
  simp only [Act.put, List.setIfInBounds_toArray, List.set_cons_zero, List.set_cons_succ]
  refine wpAnyH_take (i := 9) (oi := { dst := some 66, op := Op.move (Operand.tmp 5), type := 81, pos := _, after := _, guard := none }) (v := .slice (some ⟨N, 0, none⟩) 0 0) rfl (by kernel_rfl) (by kernel_rfl) (by kernel_rfl) (fun _ _ _ h => h) (Or.inl ⟨by rfl, fun u hu => by go_simp⟩) hS ?_
  simp only [Act.put, List.setIfInBounds_toArray, List.set_cons_zero, List.set_cons_succ]
  refine wpAnyH_ready (rs := [10]) (by kernel_rfl) (by simp) (AllReadyH.cons (o := { dst := some 67, op := Op.call { callee := Callee.value (Operand.func 60), args := #[Operand.tmp 65, Operand.tmp 66], argTypes := #[80, 81] }, type := 80, pos := _, after := _, guard := none }) rfl (fun K hK => ?_) AllReadyH.nil)
  go_simp
  refine Calls.mono (HW.out W1.drew (Below.drew (Below.refl _ _))) ?_
  rintro en w3 ⟨g, rfl, hb3, hG⟩
  have HB3 : Hid (Below W1.heap.size W1 w3) := (Below.drew (Below.refl _ _)).trans hb3
  have HG := hidd hG
  clear hG hb3
  show K _ w3
  refine hK.out _ _ (HX.out w3 HB3.out) (fun hS => ?_)
  clear hK K
  refine wpAnyH_ready (rs := [11]) (by kernel_rfl) (by simp) (AllReadyH.cons (o := { dst := some 68, op := Op.call { callee := Callee.value (Operand.func 28), args := #[Operand.tmp 57, Operand.tmp 61, Operand.tmp 67], argTypes := #[75, 79, 80] }, type := 77, pos := _, after := _, guard := none }) rfl (fun K hK => ?_) AllReadyH.nil)
  go_simp
  refine Calls.mono (HE.out g w3 HB3.out HG.out) ?_
  intro en w4 hq
  rcases hq with ⟨t, x, rfl, p4, r4, z4, hQ⟩ | ⟨q, rfl, hQ⟩
  case inr =>
    exact ⟨rfl, hQ⟩
  have HQ := hidd hQ
  clear hQ
  show K _ w4
  refine hK.out _ _ p4 (fun hS => ?_)
  clear hK K
  refine wpAnyH_take (i := 12) (oi := { dst := some 10, op := Op.assign (Operand.tmp 68), type := 77, pos := _, after := _, guard := none }) (v := .iface t x) rfl (by kernel_rfl) (by kernel_rfl) (by kernel_rfl) (fun _ _ _ h => h) (Or.inl ⟨by rfl, fun u hu => by go_simp⟩) hS ?_
  simp only [Act.put, List.setIfInBounds_toArray, List.set_cons_zero, List.set_cons_succ]
  refine wpAnyH_done (by kernel_rfl) ?_ _
  clear hS HX HW HE HB3 HG
  go_wp2_with fail
  go_ret
  exact HQ.out
set_option maxRecDepth 100000 in
set_option maxHeartbeats 3200000 in
theorem call_raw7 (rb N k P lb lo fp : Nat) (calls : Int) (G : Nat → World → Prop) (Q : Ending → World → Prop) (w W1 : World) (hk : 0 < k) (hk9 : k ≤ 3000) (h0 : 0 ≤ calls) (h9 : calls < 200)
    (k0 : w.cell? ⟨N, 0, none⟩ = some (.iface 115 (.pointer (some ⟨P, 0, none⟩)))) (p0 : w.cell? ⟨P, 0, none⟩ = some (.int .i64 (k : Int))) (c2 : w.cell? ⟨rb, 2, none⟩ = some (.int .i64 calls)) (z2 : w.frozen? ⟨rb, 2, none⟩ = false) (hw1 : w.setCell ⟨rb, 2, none⟩ (.int .i64 (calls + 1)) = W1)
    (HXX : ∀ W, Below W1.heap.size W1 W → W.cell? ⟨P, 1, none⟩ = some (.pointer (some ⟨lb, lo, none⟩)) ∧ W.cell? ⟨P, 2, none⟩ = some (.pointer (some ⟨fp, 0, none⟩)))
    (HWW : ∀ W, Below W1.heap.size W1 W → Calls Tryd.prog 60 #[.pointer (some ⟨fp, 0, none⟩), .slice (some ⟨N, 1, none⟩) k k] W fun e w' => ∃ g, e = .returned (.pointer (some ⟨g, 0, none⟩)) ∧ Below W.heap.size W w' ∧ G g w')
    (HEE : ∀ g W, Below W1.heap.size W1 W → G g W → Calls Tryd.prog 28 #[.pointer (some ⟨rb, 0, none⟩), .pointer (some ⟨lb, lo, none⟩), .pointer (some ⟨g, 0, none⟩)] W fun e w' => (∃ t x, e = .returned (.iface t x) ∧ (w'.cell? ⟨P, 1, none⟩ = some (.pointer (some ⟨lb, lo, none⟩)) ∧ w'.cell? ⟨P, 2, none⟩ = some (.pointer (some ⟨fp, 0, none⟩))) ∧ w'.cell? ⟨rb, 2, none⟩ = some (.int .i64 (calls + 1)) ∧ w'.frozen? ⟨rb, 2, none⟩ = false ∧ Q (.returned (.iface t x)) (w'.setCell ⟨rb, 2, none⟩ (.int .i64 calls))) ∨ ∃ q, e = .panicked q ∧ Q (.panicked q) w') :
    Calls Tryd.prog 44 #[.pointer (some ⟨rb, 0, none⟩), .slice (some ⟨N, 0, none⟩) (k + 1) (k + 1)] w (Thru Q) := by
  have HX := hidd HXX
  have HW := hidd HWW
  have HE := hidd HEE
  clear HXX HWW HEE
  have ha1 := assertNoPr (.pointer (some ⟨P, 0, none⟩))
  have ha2 := assertProc (.pointer (some ⟨P, 0, none⟩))
  have hq : (((k + 1 : Nat) : Int) - 1) = k := by omega
  have hd1 : decide (((k + 1 : Nat) : Int) < 1) = false := by simp; omega
  have hk0 : ¬ k = 0 := by omega
  have hd2 : decide (calls < 200) = true := by simp; omega
  go_enter Tryd.func44, Tryd.ntmps44
  go_wp2_with fail
  refine (Must_yes _ _).mono ?_
  rintro en w2 ⟨rfl, rfl⟩
  go_wp2_with fail
  refine (Must_yes _ _).mono ?_
  rintro en w2 ⟨rfl, rfl⟩
  go_wp2_with fail
  refine (Must_yes _ _).mono ?_
  rintro en w2 ⟨rfl, rfl⟩
  go_wp2_with fail
  refine wp_region_held_drew (S := fun u => u.cell? ⟨P, 1, none⟩ = some (.pointer (some ⟨lb, lo, none⟩)) ∧ u.cell? ⟨P, 2, none⟩ = some (.pointer (some ⟨fp, 0, none⟩))) (by kernel_rfl) (HX.out _ (Below.drew (Below.refl _ _))) (fun hS => ?_)
  refine wpAnyH_take (i := 0) (oi := { dst := some 57, op := Op.move (Operand.tmp 0), type := 75, pos := _, after := _, guard := none }) (v := .pointer (some ⟨rb, 0, none⟩)) rfl (by kernel_rfl) (by kernel_rfl) (by kernel_rfl) (fun _ _ _ h => h) (Or.inl ⟨by rfl, fun u hu => by go_simp⟩) hS ?_
  simp only [Act.put, List.setIfInBounds_toArray, List.set_cons_zero, List.set_cons_succ]
  refine wpAnyH_take (i := 1) (oi := { dst := some 58, op := Op.move (Operand.tmp 8), type := 115, pos := _, after := _, guard := none }) (v := .pointer (some ⟨P, 0, none⟩)) rfl (by kernel_rfl) (by kernel_rfl) (by kernel_rfl) (fun _ _ _ h => h) (Or.inl ⟨by rfl, fun u hu => by go_simp⟩) hS ?_
  simp only [Act.put, List.setIfInBounds_toArray, List.set_cons_zero, List.set_cons_succ]
  refine wpAnyH_take (i := 2) (oi := { dst := some 59, op := Op.nilCheck (Operand.tmp 58), type := 0, pos := _, after := _, guard := none }) (v := .pointer (some ⟨P, 0, none⟩)) rfl (by kernel_rfl) (by kernel_rfl) (by kernel_rfl) (fun _ _ _ h => h) (Or.inl ⟨by rfl, fun u hu => by go_simp⟩) hS ?_
  simp only [Act.put, List.setIfInBounds_toArray, List.set_cons_zero, List.set_cons_succ]
  refine wpAnyH_take (i := 3) (oi := { dst := some 60, op := Op.fieldAddr 117 (Operand.tmp 59) 1, type := 0, pos := _, after := _, guard := none }) (v := .pointer (some ⟨P, 1, none⟩)) rfl (by kernel_rfl) (by kernel_rfl) (by kernel_rfl) (fun _ _ _ h => h) (Or.inl ⟨by rfl, fun u hu => by go_simp⟩) hS ?_
  simp only [Act.put, List.setIfInBounds_toArray, List.set_cons_zero, List.set_cons_succ]
  refine wpAnyH_take (i := 4) (oi := { dst := some 61, op := Op.load 79 (Operand.tmp 60), type := 79, pos := _, after := _, guard := none }) (v := .pointer (some ⟨lb, lo, none⟩)) rfl (by kernel_rfl) (by kernel_rfl) (by kernel_rfl) (fun _ _ _ h => h) (Or.inl ⟨by rfl, fun u hu => by (have z := hu.1; go_simp)⟩) hS ?_
  simp only [Act.put, List.setIfInBounds_toArray, List.set_cons_zero, List.set_cons_succ]
  refine wpAnyH_take (i := 5) (oi := { dst := some 62, op := Op.move (Operand.tmp 8), type := 115, pos := _, after := _, guard := none }) (v := .pointer (some ⟨P, 0, none⟩)) rfl (by kernel_rfl) (by kernel_rfl) (by kernel_rfl) (fun _ _ _ h => h) (Or.inl ⟨by rfl, fun u hu => by go_simp⟩) hS ?_
  simp only [Act.put, List.setIfInBounds_toArray, List.set_cons_zero, List.set_cons_succ]
  refine wpAnyH_take (i := 6) (oi := { dst := some 63, op := Op.nilCheck (Operand.tmp 62), type := 0, pos := _, after := _, guard := none }) (v := .pointer (some ⟨P, 0, none⟩)) rfl (by kernel_rfl) (by kernel_rfl) (by kernel_rfl) (fun _ _ _ h => h) (Or.inl ⟨by rfl, fun u hu => by go_simp⟩) hS ?_
  simp only [Act.put, List.setIfInBounds_toArray, List.set_cons_zero, List.set_cons_succ]
  refine wpAnyH_take (i := 7) (oi := { dst := some 64, op := Op.fieldAddr 117 (Operand.tmp 63) 2, type := 0, pos := _, after := _, guard := none }) (v := .pointer (some ⟨P, 2, none⟩)) rfl (by kernel_rfl) (by kernel_rfl) (by kernel_rfl) (fun _ _ _ h => h) (Or.inl ⟨by rfl, fun u hu => by go_simp⟩) hS ?_
  simp only [Act.put, List.setIfInBounds_toArray, List.set_cons_zero, List.set_cons_succ]
  refine wpAnyH_take (i := 8) (oi := { dst := some 65, op := Op.load 80 (Operand.tmp 64), type := 80, pos := _, after := _, guard := none }) (v := .pointer (some ⟨fp, 0, none⟩)) rfl (by kernel_rfl) (by kernel_rfl) (by kernel_rfl) (fun _ _ _ h => h) (Or.inl ⟨by rfl, fun u hu => by (have z := hu.2; go_simp)⟩) hS ?_
  simp only [Act.put, List.setIfInBounds_toArray, List.set_cons_zero, List.set_cons_succ]
  refine wpAnyH_take (i := 9) (oi := { dst := some 66, op := Op.move (Operand.tmp 5), type := 81, pos := _, after := _, guard := none }) (v := .slice (some ⟨N, 1, none⟩) k k) rfl (by kernel_rfl) (by kernel_rfl) (by kernel_rfl) (fun _ _ _ h => h) (Or.inl ⟨by rfl, fun u hu => by go_simp⟩) hS ?_
  simp only [Act.put, List.setIfInBounds_toArray, List.set_cons_zero, List.set_cons_succ]
  refine wpAnyH_ready (rs := [10]) (by kernel_rfl) (by simp) (AllReadyH.cons (o := { dst := some 67, op := Op.call { callee := Callee.value (Operand.func 60), args := #[Operand.tmp 65, Operand.tmp 66], argTypes := #[80, 81] }, type := 80, pos := _, after := _, guard := none }) rfl (fun K hK => ?_) AllReadyH.nil)
  go_simp
  refine Calls.mono (HW.out W1.drew (Below.drew (Below.refl _ _))) ?_
  rintro en w3 ⟨g, rfl, hb3, hG⟩
  have HB3 : Hid (Below W1.heap.size W1 w3) := (Below.drew (Below.refl _ _)).trans hb3
  have HG := hidd hG
  clear hG hb3
  show K _ w3
  refine hK.out _ _ (HX.out w3 HB3.out) (fun hS => ?_)
  clear hK K
  refine wpAnyH_ready (rs := [11]) (by kernel_rfl) (by simp) (AllReadyH.cons (o := { dst := some 68, op := Op.call { callee := Callee.value (Operand.func 28), args := #[Operand.tmp 57, Operand.tmp 61, Operand.tmp 67], argTypes := #[75, 79, 80] }, type := 77, pos := _, after := _, guard := none }) rfl (fun K hK => ?_) AllReadyH.nil)
  go_simp
  refine Calls.mono (HE.out g w3 HB3.out HG.out) ?_
  intro en w4 hq
  rcases hq with ⟨t, x, rfl, p4, r4, z4, hQ⟩ | ⟨q, rfl, hQ⟩
  case inr =>
    exact ⟨rfl, hQ⟩
  have HQ := hidd hQ
  clear hQ
  show K _ w4
  refine hK.out _ _ p4 (fun hS => ?_)
  clear hK K
  refine wpAnyH_take (i := 12) (oi := { dst := some 10, op := Op.assign (Operand.tmp 68), type := 77, pos := _, after := _, guard := none }) (v := .iface t x) rfl (by kernel_rfl) (by kernel_rfl) (by kernel_rfl) (fun _ _ _ h => h) (Or.inl ⟨by rfl, fun u hu => by go_simp⟩) hS ?_
  simp only [Act.put, List.setIfInBounds_toArray, List.set_cons_zero, List.set_cons_succ]
  refine wpAnyH_done (by kernel_rfl) ?_ _
  clear hS HX HW HE HB3 HG
  go_wp2_with fail
  go_ret
  exact HQ.out
end
section
set_option linter.unusedVariables false
set_option linter.unusedSimpArgs false
open Go.RowKit

/-- A cell of the runner is set. -/
theorem Rel.runner {B rb gb : Nat} {m : Mm} {σ : St} {w : World} (h : Rel B rb gb m σ w) (hs : B ≤ w.heap.size) (q : Nat) (v : Value) (l c : Nat) (hr : RT B rb σ.out l c (.map (some gb)) (w.setCell ⟨rb, q, none⟩ v)) : Rel B rb gb m { σ with left := l, calls := c } (w.setCell ⟨rb, q, none⟩ v) ∧ KR B rb gb m w (w.setCell ⟨rb, q, none⟩ v) := by
  obtain ⟨tv, hR, _⟩ := h.run
  have hw : ∀ k, k ≠ rb → (w.setCell ⟨rb, q, none⟩ v).heap[k]? = w.heap[k]? := fun k hk => Below.heap_setCell _ _ _ _ (by simpa using hk)
  have hz : (w.setCell ⟨rb, q, none⟩ v).heap.size = w.heap.size := by simp
  have hbB : Below B w (w.setCell ⟨rb, q, none⟩ v) := ⟨rfl, rfl, rfl, by omega, fun k hk => hw k (by have := h.hB; omega)⟩
  refine ⟨h.keep (fun k cs t hk ht => (hw k ?_).trans hk) hbB (hw gb (h.gl.ne hR)) σ.out l c hr, ⟨rfl, rfl, rfl, by omega, fun k _ h1 _ _ _ _ => hw k h1⟩⟩
  rintro rfl
  rw [show w.heap[k]? = _ from hR] at hk
  simp only [Option.some.injEq, Obj.cells.injEq] at hk
  obtain ⟨_, rfl, _⟩ := hk
  simp at ht
theorem Cur.callsTo {B rb gb : Nat} {m0 m : Mm} {σ0 σ : St} {w0 w : World} (c : Cur B rb gb m0 σ0 w0 m σ w) (hs : B ≤ w.heap.size) (n : Nat) : Cur B rb gb m0 σ0 w0 m { σ with calls := n } (w.setCell ⟨rb, 2, none⟩ (.int .i64 (n : Int))) := by
  obtain ⟨g1, g2⟩ := c.rel.runner hs 2 (.int .i64 (n : Int)) σ.left n (c.rel.run.calls n)
  exact c.trans ⟨g1, c.sc.rx rfl (RX.of rfl), RX.of rfl, New.refl m w, g2⟩
/-- Behind the body of a procedure. -/
theorem call_end {B rb gb P : Nat} {m0 m2 : Mm} {σ0 σ σ2 : St} {w0 W w' : World} {r : Res Val × St} {e : Ending} {a0 a1 a2 : Value} (C2 : Cur B rb gb m0 σ0 w0 m2 σ2 W) (hc2 : σ2.calls = σ.calls + 1) (hcal : σ.calls = σ0.calls) (hs : B ≤ W.heap.size) (hP : W.heap[P]? = some (.cells #[a0, a1, a2] 117 (0, 0))) (ht : ToldE B rb gb m2 σ2 W r e w') :
    (∃ t x, e = .returned (.iface t x) ∧ (w'.cell? ⟨P, 1, none⟩ = some a1 ∧ w'.cell? ⟨P, 2, none⟩ = some a2) ∧ w'.cell? ⟨rb, 2, none⟩ = some (.int .i64 ((σ.calls : Int) + 1)) ∧ w'.frozen? ⟨rb, 2, none⟩ = false ∧ ToldE B rb gb m0 σ0 w0 (bindR r fun v σ3 => (.ok v, { σ3 with calls := σ3.calls - 1 })) (.returned (.iface t x)) (w'.setCell ⟨rb, 2, none⟩ (.int .i64 (σ.calls : Int)))) ∨
    ∃ q, e = .panicked q ∧ ToldE B rb gb m0 σ0 w0 (bindR r fun v σ3 => (.ok v, { σ3 with calls := σ3.calls - 1 })) (.panicked q) w' := by
  obtain ⟨m3, C3, h3⟩ := ht
  obtain ⟨r, s⟩ := r
  have hC := C2.trans C3
  cases r with
  | bad q => exact Or.inr ⟨_, h3, m3, hC, rfl⟩
  | ok v =>
    obtain ⟨h1, h2, h4⟩ := h3
    simp only at h4
    have hP' := C3.kr.at C2.rel hP (by decide) (by decide) (by decide) (by decide)
    have hs' : B ≤ w'.heap.size := Nat.le_trans hs C3.kr.size
    obtain ⟨c2, z2⟩ := C3.rel.run.cell2
    simp only at c2
    rw [h4, hc2] at c2
    have hk := hC.callsTo hs' σ.calls
    refine Or.inl ⟨_, _, h1, ⟨(cellO hP').trans rfl, (cellO hP').trans rfl⟩, by rw [c2]; simp, z2, m3, ?_⟩
    show Cur B rb gb m0 σ0 w0 m3 { s with calls := s.calls - 1 } _ ∧ _
    have e : s.calls - 1 = σ.calls := by omega
    rw [e]
    exact ⟨hk, rfl, h2, by show s.calls - 1 = σ0.calls; omega⟩
set_option maxRecDepth 100000 in
set_option maxHeartbeats 1600000 in
theorem call_raw4 (rb N P : Nat) (args : Int) (Q : Ending → World → Prop) (w : World) (hne : ¬ (0 : Int) = args) (k0 : w.cell? ⟨N, 0, none⟩ = some (.iface 115 (.pointer (some ⟨P, 0, none⟩)))) (p0 : w.cell? ⟨P, 0, none⟩ = some (.int .i64 args)) (HQ : Q (.panicked (endP 5)) w) :
    Calls Tryd.prog 44 #[.pointer (some ⟨rb, 0, none⟩), .slice (some ⟨N, 0, none⟩) 1 1] w (Thru Q) := by
  have HPP : Hid (Thru Q (.panicked (endP 5)) w) := HQ
  clear HQ
  have ha1 := assertNoPr (.pointer (some ⟨P, 0, none⟩))
  have ha2 := assertProc (.pointer (some ⟨P, 0, none⟩))
  have hd : ((0 : Int) == args) = false := by simpa using hne
  clear hne
  go_enter Tryd.func44, Tryd.ntmps44
  go_wp2_with fail
  refine (Must_yes _ _).mono ?_
  rintro en w3 ⟨rfl, rfl⟩
  go_wp2_with fail
  refine (Must_no _ _).mono ?_
  rintro en w3 ⟨rfl, rfl⟩
  go_wp2_with fail
  exact ⟨rfl, HPP.out⟩
set_option maxRecDepth 100000 in
set_option maxHeartbeats 1600000 in
theorem call_raw8 (rb N k P : Nat) (args : Int) (Q : Ending → World → Prop) (w : World) (hk : 0 < k) (hk9 : k ≤ 3000) (hne : ¬ (k : Int) = args) (k0 : w.cell? ⟨N, 0, none⟩ = some (.iface 115 (.pointer (some ⟨P, 0, none⟩)))) (p0 : w.cell? ⟨P, 0, none⟩ = some (.int .i64 args)) (HQ : Q (.panicked (endP 5)) w) :
    Calls Tryd.prog 44 #[.pointer (some ⟨rb, 0, none⟩), .slice (some ⟨N, 0, none⟩) (k + 1) (k + 1)] w (Thru Q) := by
  have HPP : Hid (Thru Q (.panicked (endP 5)) w) := HQ
  clear HQ
  have ha1 := assertNoPr (.pointer (some ⟨P, 0, none⟩))
  have ha2 := assertProc (.pointer (some ⟨P, 0, none⟩))
  have hq : (((k + 1 : Nat) : Int) - 1) = k := by omega
  have hd1 : decide (((k + 1 : Nat) : Int) < 1) = false := by simp; omega
  have hk0 : ¬ k = 0 := by omega
  have hd : ((k : Int) == args) = false := by simpa using hne
  clear hne
  go_enter Tryd.func44, Tryd.ntmps44
  go_wp2_with fail
  refine (Must_yes _ _).mono ?_
  rintro en w3 ⟨rfl, rfl⟩
  go_wp2_with fail
  refine (Must_no _ _).mono ?_
  rintro en w3 ⟨rfl, rfl⟩
  go_wp2_with fail
  exact ⟨rfl, HPP.out⟩
set_option maxRecDepth 100000 in
set_option maxHeartbeats 1600000 in
theorem call_raw5 (rb N k P : Nat) (calls : Int) (Q : Ending → World → Prop) (w : World) (hk9 : k ≤ 3000) (h9 : 200 ≤ calls) (k0 : w.cell? ⟨N, 0, none⟩ = some (.iface 115 (.pointer (some ⟨P, 0, none⟩)))) (p0 : w.cell? ⟨P, 0, none⟩ = some (.int .i64 (k : Int))) (c2 : w.cell? ⟨rb, 2, none⟩ = some (.int .i64 calls)) (HQ : Q (.panicked (endP 7)) w) :
    Calls Tryd.prog 44 #[.pointer (some ⟨rb, 0, none⟩), .slice (some ⟨N, 0, none⟩) (k + 1) (k + 1)] w (Thru Q) := by
  have HPP : Hid (Thru Q (.panicked (endP 7)) w) := HQ
  clear HQ
  have ha1 := assertNoPr (.pointer (some ⟨P, 0, none⟩))
  have ha2 := assertProc (.pointer (some ⟨P, 0, none⟩))
  have hq : (((k + 1 : Nat) : Int) - 1) = k := by omega
  have hd1 : decide (((k + 1 : Nat) : Int) < 1) = false := by simp; omega
  have hd : decide (calls < 200) = false := by simp; omega
  have hd' : ¬ calls < 200 := by omega
  clear h9
  go_enter Tryd.func44, Tryd.ntmps44
  go_wp2_with fail
  all_goals
    refine (Must_yes _ _).mono ?_
    rintro en w3 ⟨rfl, rfl⟩
    go_wp2_with fail
    refine (Must_yes _ _).mono ?_
    rintro en w3 ⟨rfl, rfl⟩
    go_wp2_with fail
    refine (Must_no _ _).mono ?_
    rintro en w3 ⟨rfl, rfl⟩
    go_wp2_with fail
    exact ⟨rfl, HPP.out⟩
/-- A PROCEDURE IS CALLED. -/
theorem call_procE {B rb gb T f : Nat} (IH : EOK B rb gb T f) {m0 : Mm} {σ0 : St} {w0 : World} {m : Mm} {σ : St} {w : World} {N i : Nat} {vs : List Val} (h : CA B rb gb T f m0 σ0 w0 m σ w N (.proc i) vs) :
    Calls Tryd.prog 44 #[.pointer (some ⟨rb, 0, none⟩), .slice (some ⟨N, 0, none⟩) (vs.length + 1) (vs.length + 1)] w (ToldE B rb gb m0 σ0 w0 (callF (evalF f) (.proc i :: vs) σ)) := by
  have hi : i < m.pc.length := h.ok (.proc i) (by simp)
  obtain ⟨q, lb, lo, g, fp, hq, hP, hC, hF⟩ := h.cur.rel.procAt hi
  obtain ⟨s1, s2, s3, s4⟩ := h.cur.sc q (List.mem_of_getElem? hq)
  have k0 : w.cell? ⟨N, 0, none⟩ = some (.iface 115 (.pointer (some ⟨m.pc.getD i 0, 0, none⟩))) := h.first
  have p0 : w.cell? ⟨m.pc.getD i 0, 0, none⟩ = some (.int .i64 q.args) := (cellO hP).trans rfl
  obtain ⟨c2, z2⟩ := h.cur.rel.run.cell2
  rw [show callF (evalF f) (.proc i :: vs) σ = (if (vs.length : Int) = q.args then (if σ.calls < 200 then bindR (evalF f q.body (withE vs q.env σ) (withF vs σ)) (fun v σ2 => (.ok v, { σ2 with calls := σ2.calls - 1 })) else (.bad 7, σ)) else (.bad 5, σ)) by simp only [callF, hq]]
  generalize m.pc.getD i 0 = P at *
  by_cases e1 : (vs.length : Int) = q.args
  · rw [if_pos e1]
    rw [← e1] at p0 s4
    by_cases e2 : σ.calls < 200
    · rw [if_pos e2]
      obtain ⟨W1, hW1⟩ : ∃ W1, W1 = w.setCell ⟨rb, 2, none⟩ (.int .i64 ((σ.calls : Int) + 1)) := ⟨_, rfl⟩
      have hcc : ((σ.calls : Int) + 1) = ((σ.calls + 1 : Nat) : Int) := by omega
      have C1 : Cur B rb gb m0 σ0 w0 m { σ with calls := σ.calls + 1 } W1 := by
        rw [hW1, hcc]
        exact h.cur.callsTo h.hs (σ.calls + 1)
      have K1 : Cur B rb gb m σ w m { σ with calls := σ.calls + 1 } W1 := by
        rw [hW1, hcc]
        exact (Cur.refl h.cur.rel h.cur.sc).callsTo h.hs (σ.calls + 1)
      have hs1 : B ≤ W1.heap.size := Nat.le_trans h.hs K1.kr.size
      have hP1 := K1.kr.at h.cur.rel hP (by decide) (by decide) (by decide) (by decide)
      have HXX : ∀ W, Below W1.heap.size W1 W → W.cell? ⟨P, 1, none⟩ = some (.pointer (some ⟨lb, lo, none⟩)) ∧ W.cell? ⟨P, 2, none⟩ = some (.pointer (some ⟨fp, 0, none⟩)) := fun W hb => by
        have := (hb.block P (Array.getElem?_eq_some_iff.1 hP1).1).trans hP1
        exact ⟨(cellO this).trans rfl, (cellO this).trans rfl⟩
      have hN1 := K1.kr.row h.cur.rel h.blk h.nr
      have hF1 : Fr W1 m σ.rows fp q.env := Fr.go (σ' := { σ with calls := σ.calls + 1 }) hF h.cur.rel K1
      have hT1 : Tab T W1 := h.tab.below ((K1.kr.toBelow h.cur.rel h.hs).mono h.hT)
      have hC1 : Cn B W1 g lb lo q.body := hC.below (K1.kr.toBelow h.cur.rel h.hs)
      cases hvs : vs with
      | nil =>
        rw [hvs] at p0 s4
        refine call_raw6 rb N P lb lo fp σ.calls (fun g _ => g = fp) _ w W1 (by omega) (by omega) k0 p0 c2 z2 hW1.symm HXX ?_ ?_
        · intro W hb
          refine (With_none fp _ _ W).mono ?_
          rintro e w' ⟨rfl, rfl⟩
          exact ⟨fp, rfl, Below.refl _ _, rfl⟩
        · intro g' W hb hg
          subst hg
          have CW := C1.below hb hs1
          have hsW : B ≤ W.heap.size := Nat.le_trans hs1 hb.size
          have hPW := (hb.block P (Array.getElem?_eq_some_iff.1 hP1).1).trans hP1
          refine (IH m { σ with calls := σ.calls + 1 } q.body q.env g' lb lo g W CW.rel CW.sc hsW (hT1.below (hb.mono (by have := h.hT; omega))) (hC1.below (hb.mono hs1)) ?_ (hF1.stay hb) h.left (by show σ.calls + 1 ≤ 200; omega) h.fuel).mono ?_
          · simpa using s4
          · intro e w' ht
            exact call_end (σ := σ) CW rfl h.calls hsW hPW ht
      | cons a t =>
        have hbl := h.blk
        rw [← hvs]
        have hlen : 0 < vs.length := by rw [hvs]; simp
        have hcnt : vs.length + cnt σ.rows q.env ≤ 600000 := by
          cases s4 with
          | mk _ _ z => omega
        refine call_raw7 rb N vs.length P lb lo fp σ.calls (fun g W => ∃ far e', Fr W m σ.rows fp q.env ∧ Fr W m σ.rows far e' ∧ (∃ t, q.env = t ++ e') ∧ W.heap[g]? = some (.cells #[.slice (some ⟨N, 1, none⟩) vs.length vs.length, .int .i64 ((vs.length + cnt σ.rows q.env : Nat) : Int), .int .i64 ((q.env.length + 1 : Nat) : Int), .pointer (some ⟨fp, 0, none⟩), .pointer (some ⟨far, 0, none⟩)] 83 (0, 0))) _ w W1 hlen h.len (by omega) (by omega) k0 p0 c2 z2 hW1.symm HXX ?_ ?_
        · intro W hb
          refine (With_any m σ.rows fp q.env N vs.length W (hF1.stay hb) hcnt hlen).mono ?_
          rintro e w' ⟨g', far, e', rfl, h1, h2, h3, h4, h5, h6⟩
          exact ⟨g', rfl, h4, far, e', h1, h2, h3, h6⟩
        · rintro g' W hb ⟨far, e', f1, f2, f3, f4⟩
          have CW := C1.below hb hs1
          have hsW : B ≤ W.heap.size := Nat.le_trans hs1 hb.size
          have hPW := (hb.block P (Array.getElem?_eq_some_iff.1 hP1).1).trans hP1
          have hNW : W.heap[N]? = some (.cells (#[vV m (.proc i)] ++ ((a :: t).map (vV m)).toArray) 77 (0, 0)) := by
            rw [(hb.block N (Array.getElem?_eq_some_iff.1 hN1).1).trans hN1, hvs]
            simp
          have hNB : B ≤ N := Nat.le_trans h.hs0 h.hN
          have R2 := CW.rel.with hNW h.nr hNB (fun v hv => h.ok v (by rw [hvs]; simp at hv ⊢; exact Or.inr hv))
          have x : MmX m { m with rw := m.rw ++ [N] } := ⟨⟨[], by simp⟩, ⟨[], by simp⟩, ⟨_, rfl⟩⟩
          have ew : withF vs σ = { σ with calls := σ.calls + 1, rows := σ.rows ++ [a :: t] } := by rw [hvs]; rfl
          have ee : withE vs q.env σ = σ.rows.length :: q.env := by rw [hvs]; rfl
          have rx : RX σ (withF vs σ) := RX.with vs σ
          have hcn : cnt (withF vs σ).rows (σ.rows.length :: q.env) = vs.length + cnt σ.rows q.env := by
            rw [cnt, cnt_rx rx q.env s3, ew, hvs]
            simp [List.getD]
          have C2 : Cur B rb gb m0 σ0 w0 { m with rw := m.rw ++ [N] } (withF vs σ) W := by
            refine ⟨by rw [ew]; exact R2, h.cur.sc.rx (by rw [ew]) rx, h.cur.rx.trans rx, ⟨h.cur.nw.x.trans x, h.cur.nw.pr, fun k hk => ?_⟩, CW.kr⟩
            rcases List.mem_append.1 hk with hk | hk
            · exact h.cur.nw.rw k hk
            · simp at hk; subst hk; exact Or.inr h.hN
          have hFr : Fr W { m with rw := m.rw ++ [N] } (withF vs σ).rows g' (σ.rows.length :: q.env) := by
            have hr : (withF vs σ).rows = σ.rows ++ [a :: t] := by rw [ew]
            refine .step g' fp far σ.rows.length q.env e' ⟨by rw [hr]; simp, by rw [hr]; simp [List.getD]⟩ (by simp [h.cur.rel.lr]) ?_ ((f1.up x).rx rx) ((f2.up x).rx rx) f3
            rw [hcn, hr]
            have e3 : (m.rw ++ [N]).getD σ.rows.length 0 = N := by rw [← h.cur.rel.lr]; simp [List.getD]
            have e4 : ((σ.rows ++ [a :: t]).getD σ.rows.length []).length = vs.length := by rw [hvs]; simp [List.getD]
            rw [e4]
            show W.heap[g']? = some (.cells #[.slice (some ⟨(m.rw ++ [N]).getD σ.rows.length 0, 1, none⟩) _ _, _, _, _, _] 83 (0, 0))
            rw [e3]
            exact f4
          have hG : Gd ((cnt (withF vs σ).rows (σ.rows.length :: q.env) : Nat) : Int) q.body := by
            rw [hcn]
            have e5 : ((vs.length + cnt σ.rows q.env : Nat) : Int) = ((cnt σ.rows q.env : Nat) : Int) + (vs.length : Int) := by omega
            rw [e5]
            exact s4
          rw [ee]
          refine (IH { m with rw := m.rw ++ [N] } (withF vs σ) q.body (σ.rows.length :: q.env) g' lb lo g W C2.rel C2.sc hsW (hT1.below (hb.mono (by have := h.hT; omega))) (hC1.below (hb.mono hs1)) hG hFr (by rw [ew]; exact h.left) (by rw [ew]; show σ.calls + 1 ≤ 200; omega) (by rw [ew]; exact h.fuel)).mono ?_
          intro e w' ht
          exact call_end (σ := σ) C2 (by rw [ew]) h.calls hsW hPW ht
    · rw [if_neg e2]
      exact call_raw5 rb N vs.length P σ.calls _ w h.len (by omega) k0 p0 c2 ⟨m, h.cur, rfl⟩
  · rw [if_neg e1]
    by_cases hv0 : vs.length = 0
    · rw [hv0] at e1 ⊢
      exact call_raw4 rb N P q.args _ w e1 k0 p0 ⟨m, h.cur, rfl⟩
    · exact call_raw8 rb N vs.length P q.args _ w (by omega) h.len e1 k0 p0 ⟨m, h.cur, rfl⟩
/-- WHATEVER IS CALLED. -/
theorem callE {B rb gb T f : Nat} (IH : EOK B rb gb T f) {m0 : Mm} {σ0 : St} {w0 : World} {m : Mm} {σ : St} {w : World} {N : Nat} {v0 : Val} {vs : List Val} (h : CA B rb gb T f m0 σ0 w0 m σ w N v0 vs) :
    Calls Tryd.prog 44 #[.pointer (some ⟨rb, 0, none⟩), .slice (some ⟨N, 0, none⟩) (vs.length + 1) (vs.length + 1)] w (ToldE B rb gb m0 σ0 w0 (callF (evalF f) (v0 :: vs) σ)) := by
  cases v0 with
  | prim p => exact call_primE h
  | proc i => exact call_procE IH h
  | num n => exact call_elseE h (by simp [vT]) (by simp [vT])
  | tru b => exact call_elseE h (by simp [vT]) (by simp [vT])
  | sym s => exact call_elseE h (by simp [vT]) (by simp [vT])
  | nil => exact call_elseE h (by simp [vT]) (by simp [vT])
  | pair i => exact call_elseE h (by simp [vT]) (by simp [vT])
end
end Go.Proofs.YthooljlikllnpaaDoor
