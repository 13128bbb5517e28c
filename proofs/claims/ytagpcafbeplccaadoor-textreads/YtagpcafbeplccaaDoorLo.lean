/- Package text: Read, any text. -/
import Derived.Test.YtagpcafbeplccaaDoorLn
namespace Go.Proofs.YtagpcafbeplccaaDoor
set_option linter.unusedVariables false
set_option linter.unusedSimpArgs false
open Go.RowKit

/-- What text.Read leaves. -/
def OutR (r : Sum (Int × Int) (List Dat)) (w : World) (e : Ending) (w' : World) : Prop :=
  Below w.heap.size w w' ∧ match r with
    | .inl x => e = .returned (.tuple #[.slice none 0 0, fv x])
    | .inr ds => ∃ a cap f, e = .returned (.tuple #[.slice a ds.length cap, fv (0, 0)]) ∧ Dw (New w w') w' f a ds

set_option maxRecDepth 100000 in
set_option maxHeartbeats 1600000 in
theorem Read_long (s : ByteArray) (w : World) (hs : 6000 < s.size) (hm : s.size ≤ maxLen) :
    Calls Tryd.prog 8 #[.string s] w fun e w' => e = .returned (.tuple #[.slice none 0 0, fv (4, 0)]) ∧ Below w.heap.size w w' := by
  unfold maxLen at hm
  go_enter_defers Tryd.func8, Tryd.ntmps8
  go_wp2_with fail
  simp [bodyPostD, Leaves, settle, results, Tryd.results8, go_sem]
  exact ⟨rfl, (Below.refl _ _).alloc (Nat.le_refl _) _⟩

set_option maxRecDepth 100000 in
set_option maxHeartbeats 1600000 in
theorem Read_short (s : ByteArray) (w : World) (hs : s.size ≤ 6000) :
    Calls Tryd.prog 8 #[.string s] w (OutR (match alls s.data.toList (s.data.toList.length + 1) 0 0 with | .inl e => .inl e | .inr (ds, _, _) => .inr ds) w) := by
  have hmf : ∀ (fn : Fn) (first cap : Array Value) (w : World), (Instr.makeFunc fn first cap).run Tryd.prog w = .ok (.func fn first cap) w := fun _ _ _ _ => rfl
  have RD : Hid (Rdr (w.heap.size + 1) s 0 0 ((w.alloc (.cells #[.int .i64 0, .int .i64 0] 25)).alloc (.cells #[.string s, .int .i64 0, .int .i64 0] 40))) := ⟨by simp, by simp [go_sem], by simp [go_sem], by simp [go_sem], by simp [go_sem], by simp [go_sem]⟩
  have AR : Hid (∀ (rb : Nat) (w : World) (h : Rdr rb s 0 0 w), Calls Tryd.prog 20 #[.pointer (some ⟨rb, 0, none⟩)] w (OutA rb (alls s.data.toList (s.data.toList.length + 1) 0 0) w)) := fun rb w h => all_read rb s w h hs
  generalize alls s.data.toList (s.data.toList.length + 1) 0 0 = R at AR ⊢
  go_enter_defers Tryd.func8, Tryd.ntmps8
  go_wp2_with fail
  have hA := AR.out _ _ RD.out
  refine hA.mono ?_
  have h0 : ((w.alloc (.cells #[.int .i64 0, .int .i64 0] 25)).alloc (.cells #[.string s, .int .i64 0, .int .i64 0] 40)).cell? ⟨w.heap.size, 0, none⟩ = some (.int .i64 0) := by simp [go_sem]
  have h1 : ((w.alloc (.cells #[.int .i64 0, .int .i64 0] 25)).alloc (.cells #[.string s, .int .i64 0, .int .i64 0] 40)).cell? ⟨w.heap.size, 1, none⟩ = some (.int .i64 0) := by simp [go_sem]
  have z0 : ((w.alloc (.cells #[.int .i64 0, .int .i64 0] 25)).alloc (.cells #[.string s, .int .i64 0, .int .i64 0] 40)).frozen? ⟨w.heap.size, 0, none⟩ = false := by simp [go_sem]
  have z1 : ((w.alloc (.cells #[.int .i64 0, .int .i64 0] 25)).alloc (.cells #[.string s, .int .i64 0, .int .i64 0] 40)).frozen? ⟨w.heap.size, 1, none⟩ = false := by simp [go_sem]
  have BB : Below w.heap.size w ((w.alloc (.cells #[.int .i64 0, .int .i64 0] 25)).alloc (.cells #[.string s, .int .i64 0, .int .i64 0] 40)) := ((Below.refl _ _).alloc (Nat.le_refl _) _).alloc (by simp) _
  have SZ : ((w.alloc (.cells #[.int .i64 0, .int .i64 0] 25)).alloc (.cells #[.string s, .int .i64 0, .int .i64 0] 40)).heap.size = w.heap.size + 2 := by simp
  generalize hW : ((w.alloc (.cells #[.int .i64 0, .int .i64 0] 25)).alloc (.cells #[.string s, .int .i64 0, .int .i64 0] 40)) = W at *
  clear hA RD AR
  have hlt : w.heap.size < W.heap.size := by omega
  have hne : w.heap.size ≠ w.heap.size + 1 := by omega
  rintro e w1 ho
  unfold OutA at ho
  have hmono := fun (h : Keep (w.heap.size + 1) W w1) => (show Below w.heap.size w w1 from BB.trans (h.toBelow (by omega) (by omega)))
  rcases R with x | ⟨ds, j, m⟩
  · obtain ⟨rfl, hk⟩ := ho
    have hN : w.heap.size < w1.heap.size := by have := hk.size; omega
    have hb1 := hmono hk
    have g0 := (hk.cell (p := ⟨w.heap.size, 0, none⟩) hlt hne).trans h0
    have g1 := (hk.cell (p := ⟨w.heap.size, 1, none⟩) hlt hne).trans h1
    have y0 := (hk.frozen (p := ⟨w.heap.size, 0, none⟩) hlt hne).trans z0
    have y1 := (hk.frozen (p := ⟨w.heap.size, 1, none⟩) hlt hne).trans z1
    show bodyPostD _ _ _ _ _ _
    refine leaves_cons (f := 18) (args := #[.pointer (some ⟨w.heap.size, 0, none⟩)]) (by simp) (by simp [go_sem]) ?_
    refine (catch_thrown w.heap.size x 0 0 w1 hN g0 g1 y0 y1).mono ?_
    rintro e u' w'' ⟨rfl, rfl, w2, hb2, rfl⟩
    have k0 := (hb2.cell (p := ⟨w.heap.size, 0, none⟩) hN).trans g0
    have k1 := (hb2.cell (p := ⟨w.heap.size, 1, none⟩) hN).trans g1
    have HB : Below w.heap.size w ((w2.setCell ⟨w.heap.size, 0, none⟩ (.int .i64 x.1)).setCell ⟨w.heap.size, 1, none⟩ (.int .i64 x.2)) :=
      ((hb1.trans (hb2.mono (by omega))).setCell (Nat.le_refl _) _).setCell (Nat.le_refl _) _
    clear hmono hk hb1 h0 h1 z0 z1 BB SZ hW hb2 g0 g1 y0 y1
    simp [Leaves, settle, results, Tryd.results8, go_sem, k0, k1, OutR, fv, HB]
  · obtain ⟨hk, a, cap, f, rfl, hd⟩ := ho
    have hN : w.heap.size < w1.heap.size := by have := hk.size; omega
    have hb1 := hmono hk
    have g0 := (hk.cell (p := ⟨w.heap.size, 0, none⟩) hlt hne).trans h0
    have g1 := (hk.cell (p := ⟨w.heap.size, 1, none⟩) hlt hne).trans h1
    have y0 := (hk.frozen (p := ⟨w.heap.size, 0, none⟩) hlt hne).trans z0
    have y1 := (hk.frozen (p := ⟨w.heap.size, 1, none⟩) hlt hne).trans z1
    have HD : Hid (Dw (New W w1) w1 f a ds) := hd
    have HB : Hid (Below w.heap.size w w1) := hb1
    have HS : Hid (W.heap.size = w.heap.size + 2) := SZ
    clear hmono hk hd hb1 h0 h1 z0 z1 BB SZ
    clear hW
    go_wp2_with fail
    refine leaves_cons (f := 18) (args := #[.pointer (some ⟨w.heap.size, 0, none⟩)]) (by simp) (by simp [go_sem]) ?_
    refine (catch_idle w.heap.size _).mono ?_
    rintro e u' w'' ⟨rfl, rfl, rfl⟩
    have HB2 : Below w.heap.size w ((w1.setCell ⟨w.heap.size, 0, none⟩ (.int .i64 0)).setCell ⟨w.heap.size, 1, none⟩ (.int .i64 0)) :=
      (HB.out.setCell (Nat.le_refl _) _).setCell (Nat.le_refl _) _
    have HS2 := HS.out
    have hsz : ((w1.setCell ⟨w.heap.size, 0, none⟩ (.int .i64 0)).setCell ⟨w.heap.size, 1, none⟩ (.int .i64 0)).heap.size = w1.heap.size := by simp
    have HD2 : Dw (New w ((w1.setCell ⟨w.heap.size, 0, none⟩ (.int .i64 0)).setCell ⟨w.heap.size, 1, none⟩ (.int .i64 0))) ((w1.setCell ⟨w.heap.size, 0, none⟩ (.int .i64 0)).setCell ⟨w.heap.size, 1, none⟩ (.int .i64 0)) f a ds := by
      refine Dw.stay (ok := New W w1) (w := w1) ?_ ?_ f a ds HD.out
      · intro k hk
        have hk1 := hk.1
        have hkn : k ≠ w.heap.size := by omega
        rw [Below.heap_setCell _ _ _ _ hkn, Below.heap_setCell _ _ _ _ hkn]
      · intro k hk
        have hk1 := hk.1
        have hk2 := hk.2
        exact ⟨by omega, by omega⟩
    clear HD HB HS
    simp [Leaves, settle, results, Tryd.results8, go_sem, g0, g1, OutR, fv, HB2]
    exact ⟨f, HD2⟩

theorem Read_any (s : ByteArray) (w : World) (hm : s.size ≤ maxLen) : Calls Tryd.prog 8 #[.string s] w (OutR (readL s.data.toList) w) := by
  have hl : s.data.toList.length = s.size := Array.length_toList
  unfold readL
  rw [hl]
  by_cases h : 6000 < s.size
  · rw [if_pos h]
    refine (Read_long s w h hm).mono ?_
    rintro e w' ⟨rfl, hb⟩
    exact ⟨hb, rfl⟩
  · rw [if_neg h]
    have hr := Read_short s w (by omega)
    rw [hl] at hr
    exact hr
end Go.Proofs.YtagpcafbeplccaaDoor
