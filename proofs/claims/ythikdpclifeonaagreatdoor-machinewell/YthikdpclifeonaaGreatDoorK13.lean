/- text.Bare, on. -/
import Derived.Test.YthikdpclifeonaaGreatDoorK10
namespace Go.Proofs.YthikdpclifeonaaGreatDoor
set_option linter.unusedVariables false
set_option linter.unusedSimpArgs false
open Go.RowKit

theorem bare_end3 (w : World) (A C : Array Value) (k n : Int) (nm : ByteArray) (st lb : Int) :
    Nod (w.heap.size + 1) ⟨k, n, nm, st, lb, []⟩ (.slice none 0 0) (((w.alloc (.cells A 82)).alloc (.cells #[.int .i64 k, .int .i64 n, .string nm, .int .i64 st, .int .i64 lb, .slice none 0 0] 82)).alloc (.cells C 82)) ∧
    ToldB ⟨k, n, nm, st, lb, []⟩ w (.returned (.agg #[.int .i64 k, .int .i64 n, .string nm, .int .i64 st, .int .i64 lb, .slice none 0 0])) (((w.alloc (.cells A 82)).alloc (.cells #[.int .i64 k, .int .i64 n, .string nm, .int .i64 st, .int .i64 lb, .slice none 0 0] 82)).alloc (.cells C 82)) := by
  have h := Nod.made (w.alloc (.cells A 82)) ⟨k, n, nm, st, lb, []⟩ (.slice none 0 0)
  have hs : (w.alloc (.cells A 82)).heap.size = w.heap.size + 1 := by simp
  rw [hs] at h
  exact ⟨h.alloc _, (((Below.refl _ _).alloc (Nat.le_refl _) _).alloc (by simp) _).alloc (by simp; omega) _, none, 0, 0, rfl, Nat.le_refl _, rfl⟩

set_option maxRecDepth 100000 in
set_option maxHeartbeats 400000 in
theorem Bare_leaf (d : Dat) (a : Option Addr) (cap : Nat) (w : World) (hk4 : d.kind ≠ 4) (hf : smQ d) : Calls Tryz.prog 99 #[dv d a cap] w (ToldB (bareQ d) w) := by
  obtain ⟨k, n, nm, st, lb, ks⟩ := d
  rw [smQ] at hf
  have FL := hidd hf
  clear hf
  have h4 : ¬ k = 4 := hk4
  clear hk4
  have OLD := hidd (bareW_old w k n nm st lb (.slice a ks.length cap))
  have RES := hidd (bareW_res w k n nm st lb (.slice a ks.length cap))
  have OUT := hidd (bareW_out w k n nm st lb (.slice a ks.length cap))
  have INN := hidd (bareW_in w k n nm st lb (.slice a ks.length cap))
  have hsz := bareW_size w k n nm st lb (.slice a ks.length cap)
  unfold dv
  have h4' : (k == 4) = false := by simpa using h4
  obtain ⟨p, p0, p1, p2, p3, p4, p5, pz⟩ := OUT.out
  obtain ⟨q, q0, q1, q2, q3, q4, q5, qz⟩ := RES.out
  obtain ⟨r, r0, r1, r2, r3, r4, r5, rz⟩ := INN.out
  simp only [zeroD, emS] at p0 p1 p2 p3 p4 p5 q0 q1 q2 q3 q4 q5 r0 r1 r2 r3 r4 r5
  unfold bareW at p0 p1 p2 p3 p4 p5 pz q0 q1 q2 q3 q4 q5 qz r0 r1 r2 r3 r4 r5 rz
  by_cases h1 : k = 1 ∨ k = 2
  · have h3' : ¬ k = 3 := by omega
    rw [show bareQ ⟨k, n, nm, st, lb, ks⟩ = ⟨k, n, ⟨#[]⟩, 0, 0, []⟩ by rw [bareQ, if_pos h1, if_neg h3', if_neg h4]]
    clear OLD RES OUT INN
    rcases h1 with rfl | rfl
    all_goals
      go_enter Tryz.func99, Tryz.ntmps99
      go_wp2_with fail
      exact bodyPost_ret (ret46 (bare_end3 w _ _ _ _ _ _ _).1 rfl) rfl (bare_end3 w _ _ _ _ _ _ _).2
  · by_cases h3 : k = 3
    · subst h3
      rw [show bareQ ⟨3, n, nm, st, lb, ks⟩ = ⟨3, 0, nm, 0, 0, []⟩ by rw [bareQ]; simp]
      have CL := hidd (Clone_any nm (bareW w 3 n nm st lb (.slice a ks.length cap)) (FL.out.1 rfl))
      unfold bareW at CL
      go_enter Tryz.func99, Tryz.ntmps99
      go_wp2_with fail
      refine CL.out.mono ?_
      rintro e w1 ⟨rfl, hb1⟩
      clear p p0 p1 p2 p3 p4 p5 pz q q0 q1 q2 q3 q4 q5 qz r r0 r1 r2 r3 r4 r5 rz CL
      have hb2 : Below (bareW w 3 n nm st lb (.slice a ks.length cap)).heap.size (bareW w 3 n nm st lb (.slice a ks.length cap)) w1 := hb1
      have OLD2 := hidd (OLD.out.trans (hb2.mono OLD.out.size))
      have RES2 := hidd (RES.out.after hb2)
      have OUT2 := hidd (OUT.out.after hb2)
      clear hb1 hb2 OLD RES OUT INN
      obtain ⟨p, p0, p1, p2, p3, p4, p5, pz⟩ := OUT2.out
      obtain ⟨q, q0, q1, q2, q3, q4, q5, qz⟩ := RES2.out
      simp only [zeroD, emS] at p0 p1 p2 p3 p4 p5 q0 q1 q2 q3 q4 q5
      have hke : Keep (w.heap.size + 1 + 1) w1 (w1.setCell ⟨w.heap.size + 1 + 1, 2, none⟩ (.string nm)) := (Keep.refl _ _).setCell _ rfl _
      have END := hidd (bare_end (k := 3) (n := 0) (nm := nm) (st := 0) (lb := 0) (ks := []) (f := 0) (a := none) (cap := 0) (len := 0) rfl (OLD2.out.setCell (p := ⟨w.heap.size + 1 + 1, 2, none⟩) (by show w.heap.size ≤ w.heap.size + 1 + 1; omega) (.string nm)) (RES2.out.keep hke (by omega)) rfl (Nat.le_refl _))
      clear hke OLD2 RES2 OUT2
      go_wp2_with fail
      exact bodyPost_ret (ret46 END.out.1 rfl) rfl END.out.2
    · have h3' : (k == 3) = false := by simpa using h3
      have h1' : (k == 1) = false := by simp; omega
      have h2' : (k == 2) = false := by simp; omega
      rw [show bareQ ⟨k, n, nm, st, lb, ks⟩ = ⟨k, 0, ⟨#[]⟩, 0, 0, []⟩ by rw [bareQ, if_neg h1, if_neg h3, if_neg h4]]
      clear OLD RES OUT INN h1 h3 h4
      go_enter Tryz.func99, Tryz.ntmps99
      go_wp2_with fail
      exact bodyPost_ret (ret46 (bare_end3 w _ _ _ _ _ _ _).1 rfl) rfl (bare_end3 w _ _ _ _ _ _ _).2
  

/-- BARE. -/
theorem Bare_any : ∀ (f : Nat) (d : Dat) (a : Option Addr) (cap : Nat) (w : World), Dn w f a d.kids → smQ d → Calls Tryz.prog 99 #[dv d a cap] w (ToldB (bareQ d) w) := by
  intro f
  induction f with
  | zero =>
    intro d a cap w hl hf
    by_cases h4 : d.kind = 4
    case neg => exact Bare_leaf d a cap w h4 hf
    refine Bare_list 0 d a cap w h4 (Dc.upto hl 1) hf fun d' hd => ?_
    rw [show d.kids = [] from hl] at hd
    cases hd
  | succ f ih =>
    intro d a cap w hl hf
    by_cases h4 : d.kind = 4
    case neg => exact Bare_leaf d a cap w h4 hf
    exact Bare_list f d a cap w h4 hl hf fun d' hd a cap w h1 h2 => ih d' a cap w h1 h2
end Go.Proofs.YthikdpclifeonaaGreatDoor
