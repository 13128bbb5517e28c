/- Chapter 7: package value: put, where nothing was put out so far. Chapter 7: package value: out, where nothing was put out so far. -/
import Derived.Test.YthooljlikllnpaaDoorK18
namespace Go.Proofs.YthooljlikllnpaaDoor
section
set_option linter.unusedVariables false
set_option linter.unusedSimpArgs false
open Go.RowKit

theorem infoStr : (Tryd.prog.info? 9).map (fun i => (i.zero, i.size, i.bytes)) = some (some (.string ⟨#[]⟩), 1, 16) := by kernel_rfl
/-- The first text of a row. -/
theorem append_one (W : World) (g : Nat) (s : ByteArray) (h : W.cell? ⟨g, 0, none⟩ = some (.string s)) :
    ∃ cap cs, (Builtin.append_ #[23, 23] 23 #[.slice none 0 0, .slice (some ⟨g, 0, none⟩) 1 1]).run Tryd.prog W = .ok (.slice (some ⟨W.heap.size, 0, none⟩) 1 cap) (W.drew.alloc (.cells (#[.string s] ++ cs) 9)) := by
  obtain ⟨i0, hi, hz0, hz1, hz2⟩ := info_parts infoStr
  refine ⟨_, _, run_append_nil (P := Tryd.prog) (w := W) 23 23 9 i0 _ Tryd.underlying23 hi hz0 ⟨g, 0, none⟩ 1 1 [.string s] (by rw [hz1]; rfl) ?_ (by omega) (by omega) (by rw [hz2]; omega)⟩
  intro j v hj
  match j, hj with
  | 0, hj => simp at hj; subst hj; simpa [Addr.add] using h
theorem fresh_Wr (w : World) : Wr w.heap.size w.heap.size 0 [] (w.alloc (.cells #[.pointer none, .slice none 0 0, .int .i64 0] 175)) :=
  Or.inl ⟨Nat.le_refl _, .slice none 0 0, World.alloc_heap_new w _, World.ownsRowF_nil _ _ _ _, by simp [Value.ownBlock]⟩
/-- The end of put. -/
theorem put_end {rb : Nat} {left calls : Int} {gm : Value} {s : ByteArray} {w w3 : World} (cap : Nat) (A : Obj) (zs : Array Value) (hr : RN rb (.slice none 0 0) left calls gm w) (hrb : rb < w.heap.size) (hb : Below w.heap.size w w3) :
    Keep rb w (((w3.setCell ⟨rb, 0, none⟩ (.slice (some ⟨w3.heap.size + 1, 0, none⟩) 1 cap)).alloc A).alloc (.cells (#[.string s] ++ zs) 9)).drew ∧ ∃ G c, RN rb (.slice (some ⟨G, 0, none⟩) 1 c) left calls gm (((w3.setCell ⟨rb, 0, none⟩ (.slice (some ⟨w3.heap.size + 1, 0, none⟩) 1 cap)).alloc A).alloc (.cells (#[.string s] ++ zs) 9)).drew ∧
      (((w3.setCell ⟨rb, 0, none⟩ (.slice (some ⟨w3.heap.size + 1, 0, none⟩) 1 cap)).alloc A).alloc (.cells (#[.string s] ++ zs) 9)).drew.cell? ⟨G, 0, none⟩ = some (.string s) := by
  obtain ⟨W, hW⟩ : ∃ W, W = w3.setCell ⟨rb, 0, none⟩ (.slice (some ⟨w3.heap.size + 1, 0, none⟩) 1 cap) := ⟨_, rfl⟩
  have hk : Keep rb w W := by rw [hW]; exact ((Keep.refl rb w).below hb).setCell _ rfl _
  have hR : RN rb (.slice (some ⟨w3.heap.size + 1, 0, none⟩) 1 cap) left calls gm W := by rw [hW]; exact cell_setV ((hb.block rb hrb).trans hr) _
  have hs : W.heap.size = w3.heap.size := by rw [hW]; simp
  rw [← hW]
  clear hW
  have hlt : rb < W.heap.size := Nat.lt_of_lt_of_le hrb hk.size
  have e1 : (W.alloc A).heap.size = w3.heap.size + 1 := by show (W.heap.push A).size = _; rw [Array.size_push, hs]
  refine ⟨((hk.alloc _).alloc _).drew, w3.heap.size + 1, cap, ?_, ?_⟩
  · exact RN.stay ((Below.heap_alloc _ _ rb (Nat.lt_trans hlt (alloc_lt _ _))).trans (Below.heap_alloc _ _ rb hlt)) hR
  · rw [← e1]
    refine (cellO (World.alloc_heap_new (W.alloc A) _)).trans ?_
    rw [Array.getElem?_append_left (by simp)]
    rfl
set_option maxRecDepth 100000 in
set_option maxHeartbeats 3200000 in
theorem put_nil (rb T : Nat) (t : TypeId) (x : Value) (s : List UInt8) (left calls : Int) (gm : Value) (w : World) (hr : RN rb (.slice none 0 0) left calls gm w) (ht : Tab T w) (hT : T ≤ w.heap.size) (hrb : rb < w.heap.size) (hs : s ≠ [])
    (VAL : ∀ W, Wr w.heap.size w.heap.size 0 [] W → w.heap.size ≤ W.heap.size → Tab T W → Calls Tryd.prog 81 #[.pointer (some ⟨w.heap.size, 0, none⟩), .iface t x] W fun e w' => e = .returned (.tuple #[]) ∧ Wr w.heap.size w.heap.size 1 s w' ∧ Below w.heap.size W w') :
    Calls Tryd.prog 72 #[.pointer (some ⟨rb, 0, none⟩), .iface t x] w fun e w' => e = .returned (.tuple #[]) ∧ Keep rb w w' ∧ ∃ G cap, RN rb (.slice (some ⟨G, 0, none⟩) 1 cap) left calls gm w' ∧ w'.cell? ⟨G, 0, none⟩ = some (.string ⟨s.toArray⟩) := by
  have c0 : w.cell? ⟨rb, 0, none⟩ = some (.slice none 0 0) := (cellO hr).trans rfl
  have z0 := looseO (q := 0) hr
  have HBA : Hid (Below w.heap.size w (w.alloc (.cells #[.pointer none, .slice none 0 0, .int .i64 0] 175))) := (Below.refl w.heap.size w).alloc (Nat.le_refl _) _
  have HV := hidd (VAL _ (fresh_Wr w) HBA.out.size (ht.below (HBA.out.mono hT)))
  have ST : Hid (∀ W, Wr w.heap.size w.heap.size 1 s W → Calls Tryd.prog 82 #[.pointer (some ⟨w.heap.size, 0, none⟩)] W fun e w' => e = .returned (.string ⟨s.toArray⟩) ∧ Below w.heap.size W w') := fun W hW => String_some _ _ 1 s W hW hs
  have HR := hidd hr
  have HAP := hidd append_one
  clear VAL hr ht
  go_enter Tryd.func72, Tryd.ntmps72
  go_wp2_with fail
  refine (Must_yes _ _).mono ?_
  rintro e w1 ⟨rfl, rfl⟩
  go_wp2_with fail
  refine HV.out.mono ?_
  rintro e w2 ⟨rfl, hw2, hb2⟩
  have HB2 := hidd (HBA.out.trans hb2)
  have HW2 := hidd hw2
  have d0 : w2.cell? ⟨rb, 0, none⟩ = some (.slice none 0 0) := (HB2.out.cell (p := ⟨rb, 0, none⟩) hrb).trans c0
  clear hw2 hb2 HV HBA
  go_wp2_with fail
  go_region_with (go_at_call 82; refine (ST.out _ HW2.out.drew).mono ?_; rintro e w3 ⟨rfl, hb3⟩; have hb3' := HB2.out.trans ((Below.drew (Below.refl _ w2)).trans hb3); have hlt3 : rb < w3.heap.size := Nat.lt_of_lt_of_le hrb hb3'.size; have d3 : w3.cell? ⟨rb, 0, none⟩ = some (.slice none 0 0) := (hb3'.cell (p := ⟨rb, 0, none⟩) hrb).trans c0; have z3 : w3.frozen? ⟨rb, 0, none⟩ = false := (hb3'.frozen (p := ⟨rb, 0, none⟩) hrb).trans z0; obtain ⟨cap, cs, hap⟩ := HAP.out (w3.alloc (.cells #[.string ⟨s.toArray⟩] 9)) w3.heap.size ⟨s.toArray⟩ ((cellO (World.alloc_heap_new w3 _)).trans rfl))
  all_goals
    go_wp2_with fail
    go_end0
    exact ⟨rfl, put_end _ _ _ HR.out hrb hb3'⟩
end
section
set_option linter.unusedVariables false
set_option linter.unusedSimpArgs false
open Go.RowKit

def outB : ByteArray := ⟨#[111, 117, 116]⟩
/-- The runner with one text put out. -/
def RN1 (rb : Nat) (s : List UInt8) (left calls : Int) (gm : Value) (w : World) : Prop := ∃ G cap, RN rb (.slice (some ⟨G, 0, none⟩) 1 cap) left calls gm w ∧ w.cell? ⟨G, 0, none⟩ = some (.string ⟨s.toArray⟩)
set_option maxRecDepth 100000 in
set_option maxHeartbeats 3200000 in
theorem prim_out (rb ab ao : Nat) (t : TypeId) (x : Value) (s : List UInt8) (left calls : Int) (gm : Value) (w : World) (k0 : w.cell? ⟨ab, ao, none⟩ = some (.iface t x)) (hab : ab < w.heap.size) (hne : ab ≠ rb)
    (PUT : Calls Tryd.prog 72 #[.pointer (some ⟨rb, 0, none⟩), .iface t x] w fun e w' => e = .returned (.tuple #[]) ∧ Keep rb w w' ∧ RN1 rb s left calls gm w') :
    Calls Tryd.prog 59 #[.pointer (some ⟨rb, 0, none⟩), .string outB, .slice (some ⟨ab, ao, none⟩) 1 1] w fun e w' => e = .returned (.iface t x) ∧ Keep rb w w' ∧ RN1 rb s left calls gm w' := by
  have HP := hidd PUT
  have AR : Hid (∀ w, Calls Tryd.prog 64 #[.string outB] w fun e w' => e = .returned (.int .i64 1) ∧ w' = w) := fun w => by
    have e : argsB outB = 1 := by decide +kernel
    have := argsOf_any outB w
    rw [e] at this
    exact this
  obtain ⟨o, ho⟩ : ∃ o, o = outB := ⟨_, rfl⟩
  have c1 : (o.toList == [111, 117, 116]) = true := by rw [ho]; decide +kernel
  rw [← ho] at AR ⊢
  clear ho PUT
  go_enter Tryd.func59, Tryd.ntmps59
  go_wp2_with fail
  refine (AR.out _).mono ?_
  rintro e w1 ⟨rfl, rfl⟩
  go_wp2_with fail
  refine (Must_yes _ _).mono ?_
  rintro e w1 ⟨rfl, rfl⟩
  go_wp2_with fail
  refine HP.out.mono ?_
  rintro e w2 ⟨rfl, hk2, hr2⟩
  have d0 : w2.cell? ⟨ab, ao, none⟩ = some (.iface t x) := (hk2.cell (p := ⟨ab, ao, none⟩) hab hne).trans k0
  go_wp2_with fail
  go_ret
  exact ⟨rfl, hk2, hr2⟩
end
end Go.Proofs.YthooljlikllnpaaDoor
