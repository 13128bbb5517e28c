/- Package text's Read: what is thrown is caught. Package text: Read, any text. -/
import Derived.Defers
import Derived.Recover
import Derived.Test.YtdnbingddbakaaaGreatDoorK41
namespace Go.Proofs.YtdnbingddbakaaaGreatDoor
section
set_option linter.unusedVariables false
set_option linter.unusedSimpArgs false
open Go.RowKit

theorem assert_thrown (v : Value) (w : World) : (Instr.typeAssert (.iface 250 v) 20 250 true).run Tryz.prog w = .ok (.tuple #[v, .bool true]) w := by
  simp [Instr.typeAssert, run_underlying Tryz.underlying250]

set_option maxRecDepth 100000 in
set_option maxHeartbeats 800000 in
theorem caught_any (x : Int × Int) (w : World) :
    Calls Tryz.prog 165 #[.iface 250 (.agg #[.int .i64 x.1, .int .i64 x.2])] w fun e w' => e = .returned (.agg #[.int .i64 x.1, .int .i64 x.2]) ∧ Below w.heap.size w w' := by
  obtain ⟨x1, x2⟩ := x
  simp only
  have hta := assert_thrown (.agg #[.int .i64 x1, .int .i64 x2])
  go_enter Tryz.func165, Tryz.ntmps165
  go_wp2_with fail
  refine bodyPost_ret (v := .agg #[.int .i64 x1, .int .i64 x2]) (by simp [results, Tryz.results165, go_sem]) rfl ⟨rfl, ?_⟩
  exact ((Below.refl _ _).alloc (Nat.le_refl _) _).alloc (by simp) _

set_option maxRecDepth 100000 in
set_option maxHeartbeats 1600000 in
theorem catch_thrown (N : Nat) (x : Int × Int) (y1 y2 : Int) (w : World) (hN : N < w.heap.size) (q0 : w.cell? ⟨N, 0, none⟩ = some (.int .i64 y1)) (q1 : w.cell? ⟨N, 1, none⟩ = some (.int .i64 y2)) (z0 : w.frozen? ⟨N, 0, none⟩ = false) (z1 : w.frozen? ⟨N, 1, none⟩ = false) :
    CallsD Tryz.prog 164 #[.pointer (some ⟨N, 0, none⟩)] (.panicking [{ v := .iface 250 (.agg #[.int .i64 x.1, .int .i64 x.2]), recovered := false }]) w fun e u' w' =>
      e = .returned (.tuple #[]) ∧ u' = .panicking [{ v := .iface 250 (.agg #[.int .i64 x.1, .int .i64 x.2]), recovered := true }] ∧ ∃ w1, Below w.heap.size w w1 ∧ w' = (w1.setCell ⟨N, 0, none⟩ (.int .i64 x.1)).setCell ⟨N, 1, none⟩ (.int .i64 x.2) := by
  refine callsD_of_wpS Tryz.func164 rfl fun c₀ cs hu => ?_
  apply wpS_seq
  apply wpS_region
  simp [wpOpsS, go_sem, recoverD, hu, Tryz.ntmps164, Exit.thenS]
  refine wpS_of_wp ?_
  have harr : #[Value.pointer (some { block := N, off := 0 })] ++ ((Array.replicate 6 undef).setIfInBounds 1 (Value.iface 250 (Value.agg #[Value.int IntKind.i64 x.fst, Value.int IntKind.i64 x.snd]))).setIfInBounds 0 (Value.iface 250 (Value.agg #[Value.int IntKind.i64 x.fst, Value.int IntKind.i64 x.snd])) = #[Value.pointer (some { block := N, off := 0 }), Value.iface 250 (Value.agg #[Value.int IntKind.i64 x.fst, Value.int IntKind.i64 x.snd]), Value.iface 250 (Value.agg #[Value.int IntKind.i64 x.fst, Value.int IntKind.i64 x.snd]), undef, undef, undef, undef] := rfl
  rw [harr]
  have CA : Hid (∀ w, Calls Tryz.prog 165 #[.iface 250 (.agg #[.int .i64 x.1, .int .i64 x.2])] w fun e w' => e = .returned (.agg #[.int .i64 x.1, .int .i64 x.2]) ∧ Below w.heap.size w w') := fun w => caught_any x w
  clear harr
  go_wp2_with fail
  refine (CA.out _).mono ?_
  rintro e w1 ⟨rfl, hb⟩
  have p0 := (hb.cell (p := ⟨N, 0, none⟩) hN).trans q0
  have p1 := (hb.cell (p := ⟨N, 1, none⟩) hN).trans q1
  have f0 := (hb.frozen (p := ⟨N, 0, none⟩) hN).trans z0
  have f1 := (hb.frozen (p := ⟨N, 1, none⟩) hN).trans z1
  have HB : Hid (Below w.heap.size w w1) := hb
  clear hb q0 q1 z0 z1 CA
  go_wp2_with fail
  simp [bodyPostS, results, Tryz.results164]
  exact ⟨w1, HB.out, rfl⟩

set_option maxRecDepth 100000 in
set_option maxHeartbeats 1600000 in
theorem catch_idle (N : Nat) (w : World) :
    CallsD Tryz.prog 164 #[.pointer (some ⟨N, 0, none⟩)] .returning w fun e u' w' => e = .returned (.tuple #[]) ∧ u' = .returning ∧ w' = w := by
  refine callsD_of_wpS Tryz.func164 rfl fun c₀ cs hu => ?_
  apply wpS_seq
  apply wpS_region
  simp [wpOpsS, go_sem, recoverD, hu, Tryz.ntmps164, Exit.thenS]
  refine wpS_of_wp ?_
  have harr : #[Value.pointer (some { block := N, off := 0 })] ++ ((Array.replicate 6 undef).setIfInBounds 1 Value.nilIface).setIfInBounds 0 Value.nilIface = #[Value.pointer (some { block := N, off := 0 }), Value.nilIface, Value.nilIface, undef, undef, undef, undef] := rfl
  rw [harr]
  clear harr
  go_wp2_with fail
  cases c₀
  simp_all [bodyPostS, results, Tryz.results164]
end
section
set_option linter.unusedVariables false
set_option linter.unusedSimpArgs false
open Go.RowKit

/-- What text.Read leaves. -/
def OutR (r : Sum (Int × Int) (List Dat)) (w : World) (e : Ending) (w' : World) : Prop :=
  Below w.heap.size w w' ∧ match r with
    | .inl x => e = .returned (.tuple #[.slice none 0 0, fv x])
    | .inr ds => ∃ a cap f, e = .returned (.tuple #[.slice a ds.length cap, fv (0, 0)]) ∧ Dw (NewT w w') w' f a cap ds

set_option maxRecDepth 100000 in
set_option maxHeartbeats 1600000 in
theorem Read_long (s : ByteArray) (w : World) (hs : 6000 < s.size) (hm : s.size ≤ maxLen) :
    Calls Tryz.prog 144 #[.string s] w fun e w' => e = .returned (.tuple #[.slice none 0 0, fv (4, 0)]) ∧ Below w.heap.size w w' := by
  unfold maxLen at hm
  go_enter_defers Tryz.func144, Tryz.ntmps144
  go_wp2_with fail
  simp [bodyPostD, Leaves, settle, results, Tryz.results144, go_sem]
  exact ⟨rfl, (Below.refl _ _).alloc (Nat.le_refl _) _⟩

set_option maxRecDepth 100000 in
set_option maxHeartbeats 1600000 in
theorem Read_short (s : ByteArray) (w : World) (hs : s.size ≤ 6000) :
    Calls Tryz.prog 144 #[.string s] w (OutR (match alls s.data.toList (s.data.toList.length + 1) 0 0 with | .inl e => .inl e | .inr (ds, _, _) => .inr ds) w) := by
  have hmf : ∀ (fn : Fn) (first cap : Array Value) (w : World), (Instr.makeFunc fn first cap).run Tryz.prog w = .ok (.func fn first cap) w := fun _ _ _ _ => rfl
  have RD : Hid (Rdr (w.heap.size + 1) s 0 0 ((w.alloc (.cells #[.int .i64 0, .int .i64 0] 42)).alloc (.cells #[.string s, .int .i64 0, .int .i64 0] 242))) := ⟨by simp, by simp [go_sem], by simp [go_sem], by simp [go_sem], by simp [go_sem], by simp [go_sem]⟩
  have AR : Hid (∀ (rb : Nat) (w : World) (h : Rdr rb s 0 0 w), Calls Tryz.prog 166 #[.pointer (some ⟨rb, 0, none⟩)] w (OutA rb (alls s.data.toList (s.data.toList.length + 1) 0 0) w)) := fun rb w h => all_read rb s w h hs
  generalize alls s.data.toList (s.data.toList.length + 1) 0 0 = R at AR ⊢
  go_enter_defers Tryz.func144, Tryz.ntmps144
  go_wp2_with fail
  have hA := AR.out _ _ RD.out
  refine hA.mono ?_
  have h0 : ((w.alloc (.cells #[.int .i64 0, .int .i64 0] 42)).alloc (.cells #[.string s, .int .i64 0, .int .i64 0] 242)).cell? ⟨w.heap.size, 0, none⟩ = some (.int .i64 0) := by simp [go_sem]
  have h1 : ((w.alloc (.cells #[.int .i64 0, .int .i64 0] 42)).alloc (.cells #[.string s, .int .i64 0, .int .i64 0] 242)).cell? ⟨w.heap.size, 1, none⟩ = some (.int .i64 0) := by simp [go_sem]
  have z0 : ((w.alloc (.cells #[.int .i64 0, .int .i64 0] 42)).alloc (.cells #[.string s, .int .i64 0, .int .i64 0] 242)).frozen? ⟨w.heap.size, 0, none⟩ = false := by simp [go_sem]
  have z1 : ((w.alloc (.cells #[.int .i64 0, .int .i64 0] 42)).alloc (.cells #[.string s, .int .i64 0, .int .i64 0] 242)).frozen? ⟨w.heap.size, 1, none⟩ = false := by simp [go_sem]
  have BB : Below w.heap.size w ((w.alloc (.cells #[.int .i64 0, .int .i64 0] 42)).alloc (.cells #[.string s, .int .i64 0, .int .i64 0] 242)) := ((Below.refl _ _).alloc (Nat.le_refl _) _).alloc (by simp) _
  have SZ : ((w.alloc (.cells #[.int .i64 0, .int .i64 0] 42)).alloc (.cells #[.string s, .int .i64 0, .int .i64 0] 242)).heap.size = w.heap.size + 2 := by simp
  generalize hW : ((w.alloc (.cells #[.int .i64 0, .int .i64 0] 42)).alloc (.cells #[.string s, .int .i64 0, .int .i64 0] 242)) = W at *
  clear hA RD AR
  have hlt : w.heap.size < W.heap.size := by omega
  have hne : w.heap.size ≠ w.heap.size + 1 := by omega
  rintro e w1 ho
  unfold OutA at ho
  have hmono := fun (h : Keep (w.heap.size + 1) W w1) => (show Below w.heap.size w w1 from BB.trans (h.toBelow (by omega) (by omega)))
  rcases R with x | ⟨ds, j, m⟩
  · obtain ⟨rfl, hk⟩ := ho
    have hN : w.heap.size < w1.heap.size := by have := hk.size; omega
    have hb1 := hmono hk
    have g0 := (hk.cell (p := ⟨w.heap.size, 0, none⟩) hlt hne).trans h0
    have g1 := (hk.cell (p := ⟨w.heap.size, 1, none⟩) hlt hne).trans h1
    have y0 := (hk.frozen (p := ⟨w.heap.size, 0, none⟩) hlt hne).trans z0
    have y1 := (hk.frozen (p := ⟨w.heap.size, 1, none⟩) hlt hne).trans z1
    show bodyPostD _ _ _ _ _ _
    refine leaves_cons (f := 164) (args := #[.pointer (some ⟨w.heap.size, 0, none⟩)]) (by simp) (by simp [go_sem]) ?_
    refine (catch_thrown w.heap.size x 0 0 w1 hN g0 g1 y0 y1).mono ?_
    rintro e u' w'' ⟨rfl, rfl, w2, hb2, rfl⟩
    have k0 := (hb2.cell (p := ⟨w.heap.size, 0, none⟩) hN).trans g0
    have k1 := (hb2.cell (p := ⟨w.heap.size, 1, none⟩) hN).trans g1
    have HB : Below w.heap.size w ((w2.setCell ⟨w.heap.size, 0, none⟩ (.int .i64 x.1)).setCell ⟨w.heap.size, 1, none⟩ (.int .i64 x.2)) :=
      ((hb1.trans (hb2.mono (by omega))).setCell (Nat.le_refl _) _).setCell (Nat.le_refl _) _
    clear hmono hk hb1 h0 h1 z0 z1 BB SZ hW hb2 g0 g1 y0 y1
    simp [Leaves, settle, results, Tryz.results144, go_sem, k0, k1, OutR, fv, HB]
  · obtain ⟨hk, a, cap, f, rfl, hd⟩ := ho
    have hN : w.heap.size < w1.heap.size := by have := hk.size; omega
    have hb1 := hmono hk
    have g0 := (hk.cell (p := ⟨w.heap.size, 0, none⟩) hlt hne).trans h0
    have g1 := (hk.cell (p := ⟨w.heap.size, 1, none⟩) hlt hne).trans h1
    have y0 := (hk.frozen (p := ⟨w.heap.size, 0, none⟩) hlt hne).trans z0
    have y1 := (hk.frozen (p := ⟨w.heap.size, 1, none⟩) hlt hne).trans z1
    have HD : Hid (Dw (NewT W w1) w1 f a cap ds) := hd
    have HB : Hid (Below w.heap.size w w1) := hb1
    have HS : Hid (W.heap.size = w.heap.size + 2) := SZ
    clear hmono hk hd hb1 h0 h1 z0 z1 BB SZ
    clear hW
    go_wp2_with fail
    refine leaves_cons (f := 164) (args := #[.pointer (some ⟨w.heap.size, 0, none⟩)]) (by simp) (by simp [go_sem]) ?_
    refine (catch_idle w.heap.size _).mono ?_
    rintro e u' w'' ⟨rfl, rfl, rfl⟩
    have HB2 : Below w.heap.size w ((w1.setCell ⟨w.heap.size, 0, none⟩ (.int .i64 0)).setCell ⟨w.heap.size, 1, none⟩ (.int .i64 0)) :=
      (HB.out.setCell (Nat.le_refl _) _).setCell (Nat.le_refl _) _
    have HS2 := HS.out
    have hsz : ((w1.setCell ⟨w.heap.size, 0, none⟩ (.int .i64 0)).setCell ⟨w.heap.size, 1, none⟩ (.int .i64 0)).heap.size = w1.heap.size := by simp
    have HD2 : Dw (NewT w ((w1.setCell ⟨w.heap.size, 0, none⟩ (.int .i64 0)).setCell ⟨w.heap.size, 1, none⟩ (.int .i64 0))) ((w1.setCell ⟨w.heap.size, 0, none⟩ (.int .i64 0)).setCell ⟨w.heap.size, 1, none⟩ (.int .i64 0)) f a cap ds := by
      refine Dw.stay (ok := NewT W w1) (w := w1) ?_ ?_ f a cap ds HD.out
      · intro k hk
        have hk1 := hk.1
        have hkn : k ≠ w.heap.size := by omega
        rw [Below.heap_setCell _ _ _ _ hkn, Below.heap_setCell _ _ _ _ hkn]
      · intro k hk
        have hk1 := hk.1
        have hk2 := hk.2
        exact ⟨by omega, by omega⟩
    clear HD HB HS
    simp [Leaves, settle, results, Tryz.results144, go_sem, g0, g1, OutR, fv, HB2]
    exact ⟨a, cap, ⟨rfl, rfl⟩, f, HD2⟩

theorem Read_any (s : ByteArray) (w : World) (hm : s.size ≤ maxLen) : Calls Tryz.prog 144 #[.string s] w (OutR (readL s.data.toList) w) := by
  have hl : s.data.toList.length = s.size := Array.length_toList
  unfold readL
  rw [hl]
  by_cases h : 6000 < s.size
  · rw [if_pos h]
    refine (Read_long s w h hm).mono ?_
    rintro e w' ⟨rfl, hb⟩
    exact ⟨hb, rfl⟩
  · rw [if_neg h]
    have hr := Read_short s w (by omega)
    rw [hl] at hr
    exact hr
end
end Go.Proofs.YtdnbingddbakaaaGreatDoor
