/- Chapter 3: what Show makes of a library. -/
import Derived.Test.YtonafbennobgdaaGreatDoorK43
import Derived.Test.YtonafbennobgdaaGreatDoorK40
namespace Go.Proofs.YtonafbennobgdaaGreatDoor
set_option linter.unusedVariables false
set_option linter.unusedSimpArgs false
open Go.RowKit

def SV42 (nm : ByteArray) (ea ia ba : Option Addr) (ne ec ni ic nb bc : Nat) (dI dB : Dat) (qa ra : Option Addr) (qc rc I B : Nat) (w wc u : World) : Prop := Below w.heap.size w u ∧ wc.heap.size ≤ u.heap.size ∧ u.heap[w.heap.size]? = some (.cells #[.string nm, .slice ea ne ec, .slice ia ni ic, .slice ba nb bc] 30 (0, 0)) ∧ u.heap[I]? = some (.cells #[.int .i64 dI.kind, .int .i64 dI.n, .string dI.name, .int .i64 dI.stamp, .int .i64 dI.lib, .slice qa dI.kids.length qc] 26 (0, 0)) ∧ u.heap[B]? = some (.cells #[.int .i64 dB.kind, .int .i64 dB.n, .string dB.name, .int .i64 dB.stamp, .int .i64 dB.lib, .slice ra dB.kids.length rc] 26 (0, 0))
set_option maxRecDepth 100000 in
set_option maxHeartbeats 25600000 in
theorem shown42_over (nm : ByteArray) (ea ia ba : Option Addr) (ne ec ni ic nb bc : Nat) (dI dB dC dE : Dat) (w : World)
    (C64 : ∀ W, Below w.heap.size w W → Calls Tryz.prog 64 #[.slice ia ni ic] W (TellF dI W)) (C65 : ∀ W, Below w.heap.size w W → Calls Tryz.prog 65 #[.slice ba nb bc] W (TellF dB W))
    (C68 : ∀ W, Below w.heap.size w W → Calls Tryz.prog 68 #[.string nm] W (TellF dC W)) (C69 : ∀ W, Below w.heap.size w W → Calls Tryz.prog 69 #[.slice ea ne ec] W (TellF dE W)) :
    Calls Tryz.prog 42 #[.agg #[.string nm, .slice ea ne ec, .slice ia ni ic, .slice ba nb bc]] w (TellF (if nm = ⟨#[]⟩ then liD [syD bProgram, dI, dB] else liD [syD bLibrary, dC, dE, dI, dB]) w) := by
  have SP : Hid (∀ W, Calls Tryz.prog 67 #[.string bProgram] W fun e w' => e = .returned (dv (syD bProgram) none 0) ∧ Below W.heap.size W w') := fun W => symbol67 bProgram W (by decide)
  have SL : Hid (∀ W, Calls Tryz.prog 67 #[.string bLibrary] W fun e w' => e = .returned (dv (syD bLibrary) none 0) ∧ Below W.heap.size W w') := fun W => symbol67 bLibrary W (by decide)
  have DPR : Hid (∀ ok W, DE ok W (syD bProgram) none 0) := fun ok W => DE.sym ok W (by decide)
  have DLI : Hid (∀ ok W, DE ok W (syD bLibrary) none 0) := fun ok W => DE.sym ok W (by decide)
  obtain ⟨dR, hR⟩ : ∃ d, d = (if nm = ⟨#[]⟩ then liD [syD bProgram, dI, dB] else liD [syD bLibrary, dC, dE, dI, dB]) := ⟨_, rfl⟩
  rw [← hR]
  have HR : Hid ((nm = ⟨#[]⟩ → dR = liD [syD bProgram, dI, dB]) ∧ (¬ nm = ⟨#[]⟩ → dR = liD [syD bLibrary, dC, dE, dI, dB])) := ⟨fun h => by rw [hR, if_pos h], fun h => by rw [hR, if_neg h]⟩
  clear hR
  generalize syD bProgram = dpr at *
  generalize syD bLibrary = dli at *
  obtain ⟨W1, hW1⟩ : ∃ W1, W1 = (w.alloc (.cells #[.string nm, .slice ea ne ec, .slice ia ni ic, .slice ba nb bc] 30)).alloc (.cells #[.int .i64 0, .int .i64 0, .string ⟨#[]⟩, .int .i64 0, .int .i64 0, .slice none 0 0] 26) := ⟨_, rfl⟩
  have hb1 : Below w.heap.size w W1 := by rw [hW1]; exact ((Below.refl _ _).alloc (Nat.le_refl _) _).alloc (by simp) _
  have hsz : W1.heap.size = w.heap.size + 2 := by rw [hW1]; simp
  have bx : W1.heap[w.heap.size]? = some (.cells #[.string nm, .slice ea ne ec, .slice ia ni ic, .slice ba nb bc] 30 (0, 0)) := by rw [hW1, Below.heap_alloc _ _ _ (by simp)]; exact World.alloc_heap_new w _
  have N1 : Hid (W1.heap[w.heap.size + 1]? = some (.cells #[.int .i64 0, .int .i64 0, .string ⟨#[]⟩, .int .i64 0, .int .i64 0, .slice none 0 0] 26 (0, 0))) := by
    have := World.alloc_heap_new (w.alloc (.cells #[.string nm, .slice ea ne ec, .slice ia ni ic, .slice ba nb bc] 30)) (.cells #[.int .i64 0, .int .i64 0, .string ⟨#[]⟩, .int .i64 0, .int .i64 0, .slice none 0 0] 26)
    show _ = _
    rw [hW1]
    simpa using this
  have HB1 : Hid (Below w.heap.size w W1 ∧ W1.heap.size = w.heap.size + 2) := ⟨hb1, hsz⟩
  have PX : Hid (∀ u, Below W1.heap.size W1 u → Below w.heap.size w u ∧ u.heap[w.heap.size]? = some (.cells #[.string nm, .slice ea ne ec, .slice ia ni ic, .slice ba nb bc] 30 (0, 0))) := fun u hu => ⟨hb1.trans (hu.mono hb1.size), (hu.block _ (by omega)).trans bx⟩
  have HW := hidd hW1.symm
  have H64 := hidd C64
  have H65 := hidd C65
  have H68 := hidd C68
  have H69 := hidd C69
  clear hW1 hb1 hsz bx C64 C65 C68 C69
  go_enter Tryz.func42, Tryz.ntmps42
  go_upto_region 1 with fail
  rw [HW.out]
  clear HW
  go_cut [3, 4] from 5 to 11 (fun s3 s4 wx => ∃ I B qa qc ra rc, s3 = .pointer (some ⟨I, 0, none⟩) ∧ s4 = .pointer (some ⟨B, 0, none⟩) ∧ wx.heap[I]? = some (.cells #[.int .i64 dI.kind, .int .i64 dI.n, .string dI.name, .int .i64 dI.stamp, .int .i64 dI.lib, .slice qa dI.kids.length qc] 26 (0, 0)) ∧ wx.heap[B]? = some (.cells #[.int .i64 dB.kind, .int .i64 dB.n, .string dB.name, .int .i64 dB.stamp, .int .i64 dB.lib, .slice ra dB.kids.length rc] 26 (0, 0)) ∧ DE (fun b => W1.heap.size ≤ b ∧ b ≠ I ∧ b ≠ B) wx dI qa qc ∧ DE (fun b => W1.heap.size ≤ b ∧ b ≠ I ∧ b ≠ B) wx dB ra rc ∧ Below W1.heap.size W1 wx ∧ W1.heap.size ≤ I ∧ W1.heap.size ≤ B)
  case first =>
    refine wp_region_held_drew (S := fun u => Below W1.heap.size W1 u) (by kernel_rfl) (Below.drew (Below.refl _ _)) (fun hS => ?_)
    refine tk 0 (.pointer (some ⟨w.heap.size, 2, none⟩)) rfl (Or.inl ⟨by rfl, fun u hu => by go_simp⟩) hS ?_
    simp only [Act.put, List.setIfInBounds_toArray, List.set_cons_zero, List.set_cons_succ]
    refine tk 1 (.slice ia ni ic) rfl (Or.inl ⟨by rfl, fun u hu => by (have z0 := (show u.cell? ⟨w.heap.size, 2, none⟩ = some (.slice ia ni ic) from (cellO (PX.out u hu).2).trans rfl); go_simp)⟩) hS ?_
    simp only [Act.put, List.setIfInBounds_toArray, List.set_cons_zero, List.set_cons_succ]
    refine tk 3 (.pointer (some ⟨w.heap.size, 3, none⟩)) rfl (Or.inl ⟨by rfl, fun u hu => by go_simp⟩) hS ?_
    simp only [Act.put, List.setIfInBounds_toArray, List.set_cons_zero, List.set_cons_succ]
    refine tk 4 (.slice ba nb bc) rfl (Or.inl ⟨by rfl, fun u hu => by (have z0 := (show u.cell? ⟨w.heap.size, 3, none⟩ = some (.slice ba nb bc) from (cellO (PX.out u hu).2).trans rfl); go_simp)⟩) hS ?_
    simp only [Act.put, List.setIfInBounds_toArray, List.set_cons_zero, List.set_cons_succ]
    refine rdy [2, 6, 7] (.cons rfl (fun K hK => ?_) (.cons rfl (fun K hK => ?_) (.cons rfl (fun K hK => ?_) .nil)))
    ·go_simp
     refine Calls.mono (H64.out W1.drew (PX.out _ hS).1) ?_
     rintro e U1 ⟨hb, qa, qc, rfl, hq⟩
     have DI_1 := hidd (hq.to (ok' := (fun b => W1.heap.size ≤ b)) (fun k hk _ => by have := hS.size; omega))
     have hS1 := hS.trans (hb.mono hS.size)
     clear hb hq
     unfold dv
     refine hK.out _ _ hS1 (fun hS => ?_)
     clear hK K
     refine rdy [5, 6, 7] (.cons rfl (fun K hK => ?_) (.cons rfl (fun K hK => ?_) (.cons rfl (fun K hK => ?_) .nil)))
     ·go_simp
      refine Calls.mono (H65.out U1 (PX.out _ hS).1) ?_
      rintro e U2 ⟨hb, ra, rc, rfl, hq⟩
      have DB_2 := hidd (hq.to (ok' := (fun b => W1.heap.size ≤ b)) (fun k hk _ => by have := hS.size; omega))
      have DI_2 := hidd (DI_1.out.lift hb)
      have hS2 := hS.trans (hb.mono hS.size)
      clear hb hq
      unfold dv
      refine hK.out _ _ hS2 (fun hS => ?_)
      clear hK K
      refine rdy [6, 7] (.cons rfl (fun K hK => ?_) (.cons rfl (fun K hK => ?_) .nil))
      ·go_simp
       refine allocK (K := K) (U2.heap.size) rfl (fun U3 hb hN => ?_)
       have ZI_3 := hidd hN
       have YI : Hid (W1.heap.size ≤ U2.heap.size) := hS.size
       have DI := hidd (DI_2.out.to (ok' := (fun b => W1.heap.size ≤ b ∧ b ≠ U2.heap.size)) (fun k h1 h2 => by omega))
       have DB := hidd (DB_2.out.to (ok' := (fun b => W1.heap.size ≤ b ∧ b ≠ U2.heap.size)) (fun k h1 h2 => by omega))
       have DI_3 := hidd (DI.out.lift hb)
       have DB_3 := hidd (DB.out.lift hb)
       have hS3 := hS.trans (hb.mono hS.size)
       clear hb hN
       refine hK.out _ _ hS3 (fun hS => ?_)
       clear hK K
       refine rdy [7] (.cons rfl (fun K hK => ?_) .nil)
       go_simp
       refine allocK (K := K) (U3.heap.size) rfl (fun U4 hb hN => ?_)
       have ZB_4 := hidd hN
       have YB : Hid (W1.heap.size ≤ U3.heap.size) := hS.size
       have YN := hidd (Nat.ne_of_lt (ltH ZI_3.out))
       have DI := hidd (DI_3.out.to (ok' := (fun b => W1.heap.size ≤ b ∧ b ≠ U2.heap.size ∧ b ≠ U3.heap.size)) (fun k h1 h2 => by omega))
       have DB := hidd (DB_3.out.to (ok' := (fun b => W1.heap.size ≤ b ∧ b ≠ U2.heap.size ∧ b ≠ U3.heap.size)) (fun k h1 h2 => by omega))
       have ZI_4 := hidd (upH ZI_3.out hb)
       have DI_4 := hidd (DI.out.lift hb)
       have DB_4 := hidd (DB.out.lift hb)
       have hS4 := hS.trans (hb.mono hS.size)
       clear hb hN
       refine hK.out _ _ hS4 (fun hS => ?_)
       clear hK K
       refine rdy [8] (.cons rfl (fun K hK => ?_) .nil)
       obtain ⟨q0, q1, q2, q3, q4, q5⟩ := six_at ZI_4.out
       obtain ⟨z0, z1, z2, z3, z4, z5⟩ := six_fz ZI_4.out
       go_simp
       clear q0 q1 q2 q3 q4 q5 z0 z1 z2 z3 z4 z5
       refine store6K (K := K) ZI_4.out YI.out (fun U5 s1 s2 s3 s4 _ => ?_)
       have VI_5 := hidd s1
       have ZB_5 := hidd ((s2 _ YN.out.symm).trans ZB_4.out)
       have DI_5 := hidd (DI_4.out.kept s2 s3 (fun k hk => by omega))
       have DB_5 := hidd (DB_4.out.kept s2 s3 (fun k hk => by omega))
       have hS5 := s4 _ hS
       clear s1 s2 s3 s4
       refine hK.out _ _ hS5 (fun hS => ?_)
       clear hK K
       refine rdy [9] (.cons rfl (fun K hK => ?_) .nil)
       obtain ⟨q0, q1, q2, q3, q4, q5⟩ := six_at ZB_5.out
       obtain ⟨z0, z1, z2, z3, z4, z5⟩ := six_fz ZB_5.out
       go_simp
       clear q0 q1 q2 q3 q4 q5 z0 z1 z2 z3 z4 z5
       refine store6K (K := K) ZB_5.out YB.out (fun U6 s1 s2 s3 s4 _ => ?_)
       have VB_6 := hidd s1
       have VI_6 := hidd ((s2 _ YN.out).trans VI_5.out)
       have DI_6 := hidd (DI_5.out.kept s2 s3 (fun k hk => by omega))
       have DB_6 := hidd (DB_5.out.kept s2 s3 (fun k hk => by omega))
       have hS6 := s4 _ hS
       clear s1 s2 s3 s4
       refine hK.out _ _ hS6 (fun hS => ?_)
       clear hK K
       refine wpAnyH_done (by kernel_rfl) ?_ _
       go_wp2_with fail
       go_meet
       case rel =>
         exact ⟨_, _, qa, qc, ra, rc, rfl, rfl, VI_6.out, VB_6.out, DI_6.out.to (fun k hk _ => by omega), DB_6.out.to (fun k hk _ => by omega), hS, YI.out, YB.out⟩
      ·go_simp
       refine allocK (K := K) (U2.heap.size) rfl (fun U3 hb hN => ?_)
       have ZB_3 := hidd hN
       have YB : Hid (W1.heap.size ≤ U2.heap.size) := hS.size
       have DI := hidd (DI_2.out.to (ok' := (fun b => W1.heap.size ≤ b ∧ b ≠ U2.heap.size)) (fun k h1 h2 => by omega))
       have DB := hidd (DB_2.out.to (ok' := (fun b => W1.heap.size ≤ b ∧ b ≠ U2.heap.size)) (fun k h1 h2 => by omega))
       have DI_3 := hidd (DI.out.lift hb)
       have DB_3 := hidd (DB.out.lift hb)
       have hS3 := hS.trans (hb.mono hS.size)
       clear hb hN
       refine hK.out _ _ hS3 (fun hS => ?_)
       clear hK K
       refine rdy [6] (.cons rfl (fun K hK => ?_) .nil)
       go_simp
       refine allocK (K := K) (U3.heap.size) rfl (fun U4 hb hN => ?_)
       have ZI_4 := hidd hN
       have YI : Hid (W1.heap.size ≤ U3.heap.size) := hS.size
       have YN := hidd (Nat.ne_of_lt (ltH ZB_3.out))
       have DI := hidd (DI_3.out.to (ok' := (fun b => W1.heap.size ≤ b ∧ b ≠ U2.heap.size ∧ b ≠ U3.heap.size)) (fun k h1 h2 => by omega))
       have DB := hidd (DB_3.out.to (ok' := (fun b => W1.heap.size ≤ b ∧ b ≠ U2.heap.size ∧ b ≠ U3.heap.size)) (fun k h1 h2 => by omega))
       have ZB_4 := hidd (upH ZB_3.out hb)
       have DI_4 := hidd (DI.out.lift hb)
       have DB_4 := hidd (DB.out.lift hb)
       have hS4 := hS.trans (hb.mono hS.size)
       clear hb hN
       refine hK.out _ _ hS4 (fun hS => ?_)
       clear hK K
       refine rdy [8] (.cons rfl (fun K hK => ?_) .nil)
       obtain ⟨q0, q1, q2, q3, q4, q5⟩ := six_at ZI_4.out
       obtain ⟨z0, z1, z2, z3, z4, z5⟩ := six_fz ZI_4.out
       go_simp
       clear q0 q1 q2 q3 q4 q5 z0 z1 z2 z3 z4 z5
       refine store6K (K := K) ZI_4.out YI.out (fun U5 s1 s2 s3 s4 _ => ?_)
       have VI_5 := hidd s1
       have ZB_5 := hidd ((s2 _ YN.out).trans ZB_4.out)
       have DI_5 := hidd (DI_4.out.kept s2 s3 (fun k hk => by omega))
       have DB_5 := hidd (DB_4.out.kept s2 s3 (fun k hk => by omega))
       have hS5 := s4 _ hS
       clear s1 s2 s3 s4
       refine hK.out _ _ hS5 (fun hS => ?_)
       clear hK K
       refine rdy [9] (.cons rfl (fun K hK => ?_) .nil)
       obtain ⟨q0, q1, q2, q3, q4, q5⟩ := six_at ZB_5.out
       obtain ⟨z0, z1, z2, z3, z4, z5⟩ := six_fz ZB_5.out
       go_simp
       clear q0 q1 q2 q3 q4 q5 z0 z1 z2 z3 z4 z5
       refine store6K (K := K) ZB_5.out YB.out (fun U6 s1 s2 s3 s4 _ => ?_)
       have VB_6 := hidd s1
       have VI_6 := hidd ((s2 _ YN.out.symm).trans VI_5.out)
       have DI_6 := hidd (DI_5.out.kept s2 s3 (fun k hk => by omega))
       have DB_6 := hidd (DB_5.out.kept s2 s3 (fun k hk => by omega))
       have hS6 := s4 _ hS
       clear s1 s2 s3 s4
       refine hK.out _ _ hS6 (fun hS => ?_)
       clear hK K
       refine wpAnyH_done (by kernel_rfl) ?_ _
       go_wp2_with fail
       go_meet
       case rel =>
         exact ⟨_, _, qa, qc, ra, rc, rfl, rfl, VI_6.out, VB_6.out, DI_6.out.to (fun k hk _ => by omega), DB_6.out.to (fun k hk _ => by omega), hS, YI.out, YB.out⟩
     ·go_simp
      refine allocK (K := K) (U1.heap.size) rfl (fun U2 hb hN => ?_)
      have ZI_2 := hidd hN
      have YI : Hid (W1.heap.size ≤ U1.heap.size) := hS.size
      have DI := hidd (DI_1.out.to (ok' := (fun b => W1.heap.size ≤ b ∧ b ≠ U1.heap.size)) (fun k h1 h2 => by omega))
      have DI_2 := hidd (DI.out.lift hb)
      have hS2 := hS.trans (hb.mono hS.size)
      clear hb hN
      refine hK.out _ _ hS2 (fun hS => ?_)
      clear hK K
      refine rdy [5, 7] (.cons rfl (fun K hK => ?_) (.cons rfl (fun K hK => ?_) .nil))
      ·go_simp
       refine Calls.mono (H65.out U2 (PX.out _ hS).1) ?_
       rintro e U3 ⟨hb, ra, rc, rfl, hq⟩
       have DB_3 := hidd (hq.to (ok' := (fun b => W1.heap.size ≤ b ∧ b ≠ U1.heap.size)) (fun k hk _ => by have := hS.size; have := ltH ZI_2.out; omega))
       have DI_3 := hidd (DI_2.out.lift hb)
       have ZI_3 := hidd (upH ZI_2.out hb)
       have hS3 := hS.trans (hb.mono hS.size)
       clear hb hq
       unfold dv
       refine hK.out _ _ hS3 (fun hS => ?_)
       clear hK K
       refine rdy [7] (.cons rfl (fun K hK => ?_) .nil)
       go_simp
       refine allocK (K := K) (U3.heap.size) rfl (fun U4 hb hN => ?_)
       have ZB_4 := hidd hN
       have YB : Hid (W1.heap.size ≤ U3.heap.size) := hS.size
       have YN := hidd (Nat.ne_of_lt (ltH ZI_3.out))
       have DI := hidd (DI_3.out.to (ok' := (fun b => W1.heap.size ≤ b ∧ b ≠ U1.heap.size ∧ b ≠ U3.heap.size)) (fun k h1 h2 => by omega))
       have DB := hidd (DB_3.out.to (ok' := (fun b => W1.heap.size ≤ b ∧ b ≠ U1.heap.size ∧ b ≠ U3.heap.size)) (fun k h1 h2 => by omega))
       have ZI_4 := hidd (upH ZI_3.out hb)
       have DI_4 := hidd (DI.out.lift hb)
       have DB_4 := hidd (DB.out.lift hb)
       have hS4 := hS.trans (hb.mono hS.size)
       clear hb hN
       refine hK.out _ _ hS4 (fun hS => ?_)
       clear hK K
       refine rdy [8] (.cons rfl (fun K hK => ?_) .nil)
       obtain ⟨q0, q1, q2, q3, q4, q5⟩ := six_at ZI_4.out
       obtain ⟨z0, z1, z2, z3, z4, z5⟩ := six_fz ZI_4.out
       go_simp
       clear q0 q1 q2 q3 q4 q5 z0 z1 z2 z3 z4 z5
       refine store6K (K := K) ZI_4.out YI.out (fun U5 s1 s2 s3 s4 _ => ?_)
       have VI_5 := hidd s1
       have ZB_5 := hidd ((s2 _ YN.out.symm).trans ZB_4.out)
       have DI_5 := hidd (DI_4.out.kept s2 s3 (fun k hk => by omega))
       have DB_5 := hidd (DB_4.out.kept s2 s3 (fun k hk => by omega))
       have hS5 := s4 _ hS
       clear s1 s2 s3 s4
       refine hK.out _ _ hS5 (fun hS => ?_)
       clear hK K
       refine rdy [9] (.cons rfl (fun K hK => ?_) .nil)
       obtain ⟨q0, q1, q2, q3, q4, q5⟩ := six_at ZB_5.out
       obtain ⟨z0, z1, z2, z3, z4, z5⟩ := six_fz ZB_5.out
       go_simp
       clear q0 q1 q2 q3 q4 q5 z0 z1 z2 z3 z4 z5
       refine store6K (K := K) ZB_5.out YB.out (fun U6 s1 s2 s3 s4 _ => ?_)
       have VB_6 := hidd s1
       have VI_6 := hidd ((s2 _ YN.out).trans VI_5.out)
       have DI_6 := hidd (DI_5.out.kept s2 s3 (fun k hk => by omega))
       have DB_6 := hidd (DB_5.out.kept s2 s3 (fun k hk => by omega))
       have hS6 := s4 _ hS
       clear s1 s2 s3 s4
       refine hK.out _ _ hS6 (fun hS => ?_)
       clear hK K
       refine wpAnyH_done (by kernel_rfl) ?_ _
       go_wp2_with fail
       go_meet
       case rel =>
         exact ⟨_, _, qa, qc, ra, rc, rfl, rfl, VI_6.out, VB_6.out, DI_6.out.to (fun k hk _ => by omega), DB_6.out.to (fun k hk _ => by omega), hS, YI.out, YB.out⟩
      ·go_simp
       refine allocK (K := K) (U2.heap.size) rfl (fun U3 hb hN => ?_)
       have ZB_3 := hidd hN
       have YB : Hid (W1.heap.size ≤ U2.heap.size) := hS.size
       have YN := hidd (Nat.ne_of_lt (ltH ZI_2.out))
       have DI := hidd (DI_2.out.to (ok' := (fun b => W1.heap.size ≤ b ∧ b ≠ U1.heap.size ∧ b ≠ U2.heap.size)) (fun k h1 h2 => by omega))
       have ZI_3 := hidd (upH ZI_2.out hb)
       have DI_3 := hidd (DI.out.lift hb)
       have hS3 := hS.trans (hb.mono hS.size)
       clear hb hN
       refine hK.out _ _ hS3 (fun hS => ?_)
       clear hK K
       refine rdy [5] (.cons rfl (fun K hK => ?_) .nil)
       go_simp
       refine Calls.mono (H65.out U3 (PX.out _ hS).1) ?_
       rintro e U4 ⟨hb, ra, rc, rfl, hq⟩
       have DB_4 := hidd (hq.to (ok' := (fun b => W1.heap.size ≤ b ∧ b ≠ U1.heap.size ∧ b ≠ U2.heap.size)) (fun k hk _ => by have := hS.size; have := ltH ZI_3.out; have := ltH ZB_3.out; omega))
       have ZI_4 := hidd (upH ZI_3.out hb)
       have DI_4 := hidd (DI_3.out.lift hb)
       have ZB_4 := hidd (upH ZB_3.out hb)
       have hS4 := hS.trans (hb.mono hS.size)
       clear hb hq
       unfold dv
       refine hK.out _ _ hS4 (fun hS => ?_)
       clear hK K
       refine rdy [8] (.cons rfl (fun K hK => ?_) .nil)
       obtain ⟨q0, q1, q2, q3, q4, q5⟩ := six_at ZI_4.out
       obtain ⟨z0, z1, z2, z3, z4, z5⟩ := six_fz ZI_4.out
       go_simp
       clear q0 q1 q2 q3 q4 q5 z0 z1 z2 z3 z4 z5
       refine store6K (K := K) ZI_4.out YI.out (fun U5 s1 s2 s3 s4 _ => ?_)
       have VI_5 := hidd s1
       have ZB_5 := hidd ((s2 _ YN.out.symm).trans ZB_4.out)
       have DI_5 := hidd (DI_4.out.kept s2 s3 (fun k hk => by omega))
       have DB_5 := hidd (DB_4.out.kept s2 s3 (fun k hk => by omega))
       have hS5 := s4 _ hS
       clear s1 s2 s3 s4
       refine hK.out _ _ hS5 (fun hS => ?_)
       clear hK K
       refine rdy [9] (.cons rfl (fun K hK => ?_) .nil)
       obtain ⟨q0, q1, q2, q3, q4, q5⟩ := six_at ZB_5.out
       obtain ⟨z0, z1, z2, z3, z4, z5⟩ := six_fz ZB_5.out
       go_simp
       clear q0 q1 q2 q3 q4 q5 z0 z1 z2 z3 z4 z5
       refine store6K (K := K) ZB_5.out YB.out (fun U6 s1 s2 s3 s4 _ => ?_)
       have VB_6 := hidd s1
       have VI_6 := hidd ((s2 _ YN.out).trans VI_5.out)
       have DI_6 := hidd (DI_5.out.kept s2 s3 (fun k hk => by omega))
       have DB_6 := hidd (DB_5.out.kept s2 s3 (fun k hk => by omega))
       have hS6 := s4 _ hS
       clear s1 s2 s3 s4
       refine hK.out _ _ hS6 (fun hS => ?_)
       clear hK K
       refine wpAnyH_done (by kernel_rfl) ?_ _
       go_wp2_with fail
       go_meet
       case rel =>
         exact ⟨_, _, qa, qc, ra, rc, rfl, rfl, VI_6.out, VB_6.out, DI_6.out.to (fun k hk _ => by omega), DB_6.out.to (fun k hk _ => by omega), hS, YI.out, YB.out⟩
     ·go_simp
      refine allocK (K := K) (U1.heap.size) rfl (fun U2 hb hN => ?_)
      have ZB_2 := hidd hN
      have YB : Hid (W1.heap.size ≤ U1.heap.size) := hS.size
      have DI := hidd (DI_1.out.to (ok' := (fun b => W1.heap.size ≤ b ∧ b ≠ U1.heap.size)) (fun k h1 h2 => by omega))
      have DI_2 := hidd (DI.out.lift hb)
      have hS2 := hS.trans (hb.mono hS.size)
      clear hb hN
      refine hK.out _ _ hS2 (fun hS => ?_)
      clear hK K
      refine rdy [5, 6] (.cons rfl (fun K hK => ?_) (.cons rfl (fun K hK => ?_) .nil))
      ·go_simp
       refine Calls.mono (H65.out U2 (PX.out _ hS).1) ?_
       rintro e U3 ⟨hb, ra, rc, rfl, hq⟩
       have DB_3 := hidd (hq.to (ok' := (fun b => W1.heap.size ≤ b ∧ b ≠ U1.heap.size)) (fun k hk _ => by have := hS.size; have := ltH ZB_2.out; omega))
       have DI_3 := hidd (DI_2.out.lift hb)
       have ZB_3 := hidd (upH ZB_2.out hb)
       have hS3 := hS.trans (hb.mono hS.size)
       clear hb hq
       unfold dv
       refine hK.out _ _ hS3 (fun hS => ?_)
       clear hK K
       refine rdy [6] (.cons rfl (fun K hK => ?_) .nil)
       go_simp
       refine allocK (K := K) (U3.heap.size) rfl (fun U4 hb hN => ?_)
       have ZI_4 := hidd hN
       have YI : Hid (W1.heap.size ≤ U3.heap.size) := hS.size
       have YN := hidd (Nat.ne_of_lt (ltH ZB_3.out))
       have DI := hidd (DI_3.out.to (ok' := (fun b => W1.heap.size ≤ b ∧ b ≠ U1.heap.size ∧ b ≠ U3.heap.size)) (fun k h1 h2 => by omega))
       have DB := hidd (DB_3.out.to (ok' := (fun b => W1.heap.size ≤ b ∧ b ≠ U1.heap.size ∧ b ≠ U3.heap.size)) (fun k h1 h2 => by omega))
       have ZB_4 := hidd (upH ZB_3.out hb)
       have DI_4 := hidd (DI.out.lift hb)
       have DB_4 := hidd (DB.out.lift hb)
       have hS4 := hS.trans (hb.mono hS.size)
       clear hb hN
       refine hK.out _ _ hS4 (fun hS => ?_)
       clear hK K
       refine rdy [8] (.cons rfl (fun K hK => ?_) .nil)
       obtain ⟨q0, q1, q2, q3, q4, q5⟩ := six_at ZI_4.out
       obtain ⟨z0, z1, z2, z3, z4, z5⟩ := six_fz ZI_4.out
       go_simp
       clear q0 q1 q2 q3 q4 q5 z0 z1 z2 z3 z4 z5
       refine store6K (K := K) ZI_4.out YI.out (fun U5 s1 s2 s3 s4 _ => ?_)
       have VI_5 := hidd s1
       have ZB_5 := hidd ((s2 _ YN.out).trans ZB_4.out)
       have DI_5 := hidd (DI_4.out.kept s2 s3 (fun k hk => by omega))
       have DB_5 := hidd (DB_4.out.kept s2 s3 (fun k hk => by omega))
       have hS5 := s4 _ hS
       clear s1 s2 s3 s4
       refine hK.out _ _ hS5 (fun hS => ?_)
       clear hK K
       refine rdy [9] (.cons rfl (fun K hK => ?_) .nil)
       obtain ⟨q0, q1, q2, q3, q4, q5⟩ := six_at ZB_5.out
       obtain ⟨z0, z1, z2, z3, z4, z5⟩ := six_fz ZB_5.out
       go_simp
       clear q0 q1 q2 q3 q4 q5 z0 z1 z2 z3 z4 z5
       refine store6K (K := K) ZB_5.out YB.out (fun U6 s1 s2 s3 s4 _ => ?_)
       have VB_6 := hidd s1
       have VI_6 := hidd ((s2 _ YN.out.symm).trans VI_5.out)
       have DI_6 := hidd (DI_5.out.kept s2 s3 (fun k hk => by omega))
       have DB_6 := hidd (DB_5.out.kept s2 s3 (fun k hk => by omega))
       have hS6 := s4 _ hS
       clear s1 s2 s3 s4
       refine hK.out _ _ hS6 (fun hS => ?_)
       clear hK K
       refine wpAnyH_done (by kernel_rfl) ?_ _
       go_wp2_with fail
       go_meet
       case rel =>
         exact ⟨_, _, qa, qc, ra, rc, rfl, rfl, VI_6.out, VB_6.out, DI_6.out.to (fun k hk _ => by omega), DB_6.out.to (fun k hk _ => by omega), hS, YI.out, YB.out⟩
      ·go_simp
       refine allocK (K := K) (U2.heap.size) rfl (fun U3 hb hN => ?_)
       have ZI_3 := hidd hN
       have YI : Hid (W1.heap.size ≤ U2.heap.size) := hS.size
       have YN := hidd (Nat.ne_of_lt (ltH ZB_2.out))
       have DI := hidd (DI_2.out.to (ok' := (fun b => W1.heap.size ≤ b ∧ b ≠ U1.heap.size ∧ b ≠ U2.heap.size)) (fun k h1 h2 => by omega))
       have ZB_3 := hidd (upH ZB_2.out hb)
       have DI_3 := hidd (DI.out.lift hb)
       have hS3 := hS.trans (hb.mono hS.size)
       clear hb hN
       refine hK.out _ _ hS3 (fun hS => ?_)
       clear hK K
       refine rdy [5] (.cons rfl (fun K hK => ?_) .nil)
       go_simp
       refine Calls.mono (H65.out U3 (PX.out _ hS).1) ?_
       rintro e U4 ⟨hb, ra, rc, rfl, hq⟩
       have DB_4 := hidd (hq.to (ok' := (fun b => W1.heap.size ≤ b ∧ b ≠ U1.heap.size ∧ b ≠ U2.heap.size)) (fun k hk _ => by have := hS.size; have := ltH ZB_3.out; have := ltH ZI_3.out; omega))
       have ZB_4 := hidd (upH ZB_3.out hb)
       have DI_4 := hidd (DI_3.out.lift hb)
       have ZI_4 := hidd (upH ZI_3.out hb)
       have hS4 := hS.trans (hb.mono hS.size)
       clear hb hq
       unfold dv
       refine hK.out _ _ hS4 (fun hS => ?_)
       clear hK K
       refine rdy [8] (.cons rfl (fun K hK => ?_) .nil)
       obtain ⟨q0, q1, q2, q3, q4, q5⟩ := six_at ZI_4.out
       obtain ⟨z0, z1, z2, z3, z4, z5⟩ := six_fz ZI_4.out
       go_simp
       clear q0 q1 q2 q3 q4 q5 z0 z1 z2 z3 z4 z5
       refine store6K (K := K) ZI_4.out YI.out (fun U5 s1 s2 s3 s4 _ => ?_)
       have VI_5 := hidd s1
       have ZB_5 := hidd ((s2 _ YN.out).trans ZB_4.out)
       have DI_5 := hidd (DI_4.out.kept s2 s3 (fun k hk => by omega))
       have DB_5 := hidd (DB_4.out.kept s2 s3 (fun k hk => by omega))
       have hS5 := s4 _ hS
       clear s1 s2 s3 s4
       refine hK.out _ _ hS5 (fun hS => ?_)
       clear hK K
       refine rdy [9] (.cons rfl (fun K hK => ?_) .nil)
       obtain ⟨q0, q1, q2, q3, q4, q5⟩ := six_at ZB_5.out
       obtain ⟨z0, z1, z2, z3, z4, z5⟩ := six_fz ZB_5.out
       go_simp
       clear q0 q1 q2 q3 q4 q5 z0 z1 z2 z3 z4 z5
       refine store6K (K := K) ZB_5.out YB.out (fun U6 s1 s2 s3 s4 _ => ?_)
       have VB_6 := hidd s1
       have VI_6 := hidd ((s2 _ YN.out.symm).trans VI_5.out)
       have DI_6 := hidd (DI_5.out.kept s2 s3 (fun k hk => by omega))
       have DB_6 := hidd (DB_5.out.kept s2 s3 (fun k hk => by omega))
       have hS6 := s4 _ hS
       clear s1 s2 s3 s4
       refine hK.out _ _ hS6 (fun hS => ?_)
       clear hK K
       refine wpAnyH_done (by kernel_rfl) ?_ _
       go_wp2_with fail
       go_meet
       case rel =>
         exact ⟨_, _, qa, qc, ra, rc, rfl, rfl, VI_6.out, VB_6.out, DI_6.out.to (fun k hk _ => by omega), DB_6.out.to (fun k hk _ => by omega), hS, YI.out, YB.out⟩
    ·go_simp
     refine allocKd (K := K) (W1.heap.size) rfl (fun U1 hb hN => ?_)
     have ZI_1 := hidd hN
     have YI : Hid (W1.heap.size ≤ W1.heap.size) := hS.size
     have hS1 := hb
     clear hb hN
     refine hK.out _ _ hS1 (fun hS => ?_)
     clear hK K
     refine rdy [2, 7] (.cons rfl (fun K hK => ?_) (.cons rfl (fun K hK => ?_) .nil))
     ·go_simp
      refine Calls.mono (H64.out U1 (PX.out _ hS).1) ?_
      rintro e U2 ⟨hb, qa, qc, rfl, hq⟩
      have DI_2 := hidd (hq.to (ok' := (fun b => W1.heap.size ≤ b ∧ b ≠ W1.heap.size)) (fun k hk _ => by have := hS.size; have := ltH ZI_1.out; omega))
      have ZI_2 := hidd (upH ZI_1.out hb)
      have hS2 := hS.trans (hb.mono hS.size)
      clear hb hq
      unfold dv
      refine hK.out _ _ hS2 (fun hS => ?_)
      clear hK K
      refine rdy [5, 7] (.cons rfl (fun K hK => ?_) (.cons rfl (fun K hK => ?_) .nil))
      ·go_simp
       refine Calls.mono (H65.out U2 (PX.out _ hS).1) ?_
       rintro e U3 ⟨hb, ra, rc, rfl, hq⟩
       have DB_3 := hidd (hq.to (ok' := (fun b => W1.heap.size ≤ b ∧ b ≠ W1.heap.size)) (fun k hk _ => by have := hS.size; have := ltH ZI_2.out; omega))
       have ZI_3 := hidd (upH ZI_2.out hb)
       have DI_3 := hidd (DI_2.out.lift hb)
       have hS3 := hS.trans (hb.mono hS.size)
       clear hb hq
       unfold dv
       refine hK.out _ _ hS3 (fun hS => ?_)
       clear hK K
       refine rdy [7] (.cons rfl (fun K hK => ?_) .nil)
       go_simp
       refine allocK (K := K) (U3.heap.size) rfl (fun U4 hb hN => ?_)
       have ZB_4 := hidd hN
       have YB : Hid (W1.heap.size ≤ U3.heap.size) := hS.size
       have YN := hidd (Nat.ne_of_lt (ltH ZI_3.out))
       have DI := hidd (DI_3.out.to (ok' := (fun b => W1.heap.size ≤ b ∧ b ≠ W1.heap.size ∧ b ≠ U3.heap.size)) (fun k h1 h2 => by omega))
       have DB := hidd (DB_3.out.to (ok' := (fun b => W1.heap.size ≤ b ∧ b ≠ W1.heap.size ∧ b ≠ U3.heap.size)) (fun k h1 h2 => by omega))
       have ZI_4 := hidd (upH ZI_3.out hb)
       have DI_4 := hidd (DI.out.lift hb)
       have DB_4 := hidd (DB.out.lift hb)
       have hS4 := hS.trans (hb.mono hS.size)
       clear hb hN
       refine hK.out _ _ hS4 (fun hS => ?_)
       clear hK K
       refine rdy [8] (.cons rfl (fun K hK => ?_) .nil)
       obtain ⟨q0, q1, q2, q3, q4, q5⟩ := six_at ZI_4.out
       obtain ⟨z0, z1, z2, z3, z4, z5⟩ := six_fz ZI_4.out
       go_simp
       clear q0 q1 q2 q3 q4 q5 z0 z1 z2 z3 z4 z5
       refine store6K (K := K) ZI_4.out YI.out (fun U5 s1 s2 s3 s4 _ => ?_)
       have VI_5 := hidd s1
       have ZB_5 := hidd ((s2 _ YN.out.symm).trans ZB_4.out)
       have DI_5 := hidd (DI_4.out.kept s2 s3 (fun k hk => by omega))
       have DB_5 := hidd (DB_4.out.kept s2 s3 (fun k hk => by omega))
       have hS5 := s4 _ hS
       clear s1 s2 s3 s4
       refine hK.out _ _ hS5 (fun hS => ?_)
       clear hK K
       refine rdy [9] (.cons rfl (fun K hK => ?_) .nil)
       obtain ⟨q0, q1, q2, q3, q4, q5⟩ := six_at ZB_5.out
       obtain ⟨z0, z1, z2, z3, z4, z5⟩ := six_fz ZB_5.out
       go_simp
       clear q0 q1 q2 q3 q4 q5 z0 z1 z2 z3 z4 z5
       refine store6K (K := K) ZB_5.out YB.out (fun U6 s1 s2 s3 s4 _ => ?_)
       have VB_6 := hidd s1
       have VI_6 := hidd ((s2 _ YN.out).trans VI_5.out)
       have DI_6 := hidd (DI_5.out.kept s2 s3 (fun k hk => by omega))
       have DB_6 := hidd (DB_5.out.kept s2 s3 (fun k hk => by omega))
       have hS6 := s4 _ hS
       clear s1 s2 s3 s4
       refine hK.out _ _ hS6 (fun hS => ?_)
       clear hK K
       refine wpAnyH_done (by kernel_rfl) ?_ _
       go_wp2_with fail
       go_meet
       case rel =>
         exact ⟨_, _, qa, qc, ra, rc, rfl, rfl, VI_6.out, VB_6.out, DI_6.out.to (fun k hk _ => by omega), DB_6.out.to (fun k hk _ => by omega), hS, YI.out, YB.out⟩
      ·go_simp
       refine allocK (K := K) (U2.heap.size) rfl (fun U3 hb hN => ?_)
       have ZB_3 := hidd hN
       have YB : Hid (W1.heap.size ≤ U2.heap.size) := hS.size
       have YN := hidd (Nat.ne_of_lt (ltH ZI_2.out))
       have DI := hidd (DI_2.out.to (ok' := (fun b => W1.heap.size ≤ b ∧ b ≠ W1.heap.size ∧ b ≠ U2.heap.size)) (fun k h1 h2 => by omega))
       have ZI_3 := hidd (upH ZI_2.out hb)
       have DI_3 := hidd (DI.out.lift hb)
       have hS3 := hS.trans (hb.mono hS.size)
       clear hb hN
       refine hK.out _ _ hS3 (fun hS => ?_)
       clear hK K
       refine rdy [5] (.cons rfl (fun K hK => ?_) .nil)
       go_simp
       refine Calls.mono (H65.out U3 (PX.out _ hS).1) ?_
       rintro e U4 ⟨hb, ra, rc, rfl, hq⟩
       have DB_4 := hidd (hq.to (ok' := (fun b => W1.heap.size ≤ b ∧ b ≠ W1.heap.size ∧ b ≠ U2.heap.size)) (fun k hk _ => by have := hS.size; have := ltH ZI_3.out; have := ltH ZB_3.out; omega))
       have ZI_4 := hidd (upH ZI_3.out hb)
       have DI_4 := hidd (DI_3.out.lift hb)
       have ZB_4 := hidd (upH ZB_3.out hb)
       have hS4 := hS.trans (hb.mono hS.size)
       clear hb hq
       unfold dv
       refine hK.out _ _ hS4 (fun hS => ?_)
       clear hK K
       refine rdy [8] (.cons rfl (fun K hK => ?_) .nil)
       obtain ⟨q0, q1, q2, q3, q4, q5⟩ := six_at ZI_4.out
       obtain ⟨z0, z1, z2, z3, z4, z5⟩ := six_fz ZI_4.out
       go_simp
       clear q0 q1 q2 q3 q4 q5 z0 z1 z2 z3 z4 z5
       refine store6K (K := K) ZI_4.out YI.out (fun U5 s1 s2 s3 s4 _ => ?_)
       have VI_5 := hidd s1
       have ZB_5 := hidd ((s2 _ YN.out.symm).trans ZB_4.out)
       have DI_5 := hidd (DI_4.out.kept s2 s3 (fun k hk => by omega))
       have DB_5 := hidd (DB_4.out.kept s2 s3 (fun k hk => by omega))
       have hS5 := s4 _ hS
       clear s1 s2 s3 s4
       refine hK.out _ _ hS5 (fun hS => ?_)
       clear hK K
       refine rdy [9] (.cons rfl (fun K hK => ?_) .nil)
       obtain ⟨q0, q1, q2, q3, q4, q5⟩ := six_at ZB_5.out
       obtain ⟨z0, z1, z2, z3, z4, z5⟩ := six_fz ZB_5.out
       go_simp
       clear q0 q1 q2 q3 q4 q5 z0 z1 z2 z3 z4 z5
       refine store6K (K := K) ZB_5.out YB.out (fun U6 s1 s2 s3 s4 _ => ?_)
       have VB_6 := hidd s1
       have VI_6 := hidd ((s2 _ YN.out).trans VI_5.out)
       have DI_6 := hidd (DI_5.out.kept s2 s3 (fun k hk => by omega))
       have DB_6 := hidd (DB_5.out.kept s2 s3 (fun k hk => by omega))
       have hS6 := s4 _ hS
       clear s1 s2 s3 s4
       refine hK.out _ _ hS6 (fun hS => ?_)
       clear hK K
       refine wpAnyH_done (by kernel_rfl) ?_ _
       go_wp2_with fail
       go_meet
       case rel =>
         exact ⟨_, _, qa, qc, ra, rc, rfl, rfl, VI_6.out, VB_6.out, DI_6.out.to (fun k hk _ => by omega), DB_6.out.to (fun k hk _ => by omega), hS, YI.out, YB.out⟩
     ·go_simp
      refine allocK (K := K) (U1.heap.size) rfl (fun U2 hb hN => ?_)
      have ZB_2 := hidd hN
      have YB : Hid (W1.heap.size ≤ U1.heap.size) := hS.size
      have YN := hidd (Nat.ne_of_lt (ltH ZI_1.out))
      have ZI_2 := hidd (upH ZI_1.out hb)
      have hS2 := hS.trans (hb.mono hS.size)
      clear hb hN
      refine hK.out _ _ hS2 (fun hS => ?_)
      clear hK K
      refine rdy [2] (.cons rfl (fun K hK => ?_) .nil)
      go_simp
      refine Calls.mono (H64.out U2 (PX.out _ hS).1) ?_
      rintro e U3 ⟨hb, qa, qc, rfl, hq⟩
      have DI_3 := hidd (hq.to (ok' := (fun b => W1.heap.size ≤ b ∧ b ≠ W1.heap.size ∧ b ≠ U1.heap.size)) (fun k hk _ => by have := hS.size; have := ltH ZI_2.out; have := ltH ZB_2.out; omega))
      have ZI_3 := hidd (upH ZI_2.out hb)
      have ZB_3 := hidd (upH ZB_2.out hb)
      have hS3 := hS.trans (hb.mono hS.size)
      clear hb hq
      unfold dv
      refine hK.out _ _ hS3 (fun hS => ?_)
      clear hK K
      refine rdy [5] (.cons rfl (fun K hK => ?_) .nil)
      go_simp
      refine Calls.mono (H65.out U3 (PX.out _ hS).1) ?_
      rintro e U4 ⟨hb, ra, rc, rfl, hq⟩
      have DB_4 := hidd (hq.to (ok' := (fun b => W1.heap.size ≤ b ∧ b ≠ W1.heap.size ∧ b ≠ U1.heap.size)) (fun k hk _ => by have := hS.size; have := ltH ZI_3.out; have := ltH ZB_3.out; omega))
      have ZI_4 := hidd (upH ZI_3.out hb)
      have ZB_4 := hidd (upH ZB_3.out hb)
      have DI_4 := hidd (DI_3.out.lift hb)
      have hS4 := hS.trans (hb.mono hS.size)
      clear hb hq
      unfold dv
      refine hK.out _ _ hS4 (fun hS => ?_)
      clear hK K
      refine rdy [8] (.cons rfl (fun K hK => ?_) .nil)
      obtain ⟨q0, q1, q2, q3, q4, q5⟩ := six_at ZI_4.out
      obtain ⟨z0, z1, z2, z3, z4, z5⟩ := six_fz ZI_4.out
      go_simp
      clear q0 q1 q2 q3 q4 q5 z0 z1 z2 z3 z4 z5
      refine store6K (K := K) ZI_4.out YI.out (fun U5 s1 s2 s3 s4 _ => ?_)
      have VI_5 := hidd s1
      have ZB_5 := hidd ((s2 _ YN.out.symm).trans ZB_4.out)
      have DI_5 := hidd (DI_4.out.kept s2 s3 (fun k hk => by omega))
      have DB_5 := hidd (DB_4.out.kept s2 s3 (fun k hk => by omega))
      have hS5 := s4 _ hS
      clear s1 s2 s3 s4
      refine hK.out _ _ hS5 (fun hS => ?_)
      clear hK K
      refine rdy [9] (.cons rfl (fun K hK => ?_) .nil)
      obtain ⟨q0, q1, q2, q3, q4, q5⟩ := six_at ZB_5.out
      obtain ⟨z0, z1, z2, z3, z4, z5⟩ := six_fz ZB_5.out
      go_simp
      clear q0 q1 q2 q3 q4 q5 z0 z1 z2 z3 z4 z5
      refine store6K (K := K) ZB_5.out YB.out (fun U6 s1 s2 s3 s4 _ => ?_)
      have VB_6 := hidd s1
      have VI_6 := hidd ((s2 _ YN.out).trans VI_5.out)
      have DI_6 := hidd (DI_5.out.kept s2 s3 (fun k hk => by omega))
      have DB_6 := hidd (DB_5.out.kept s2 s3 (fun k hk => by omega))
      have hS6 := s4 _ hS
      clear s1 s2 s3 s4
      refine hK.out _ _ hS6 (fun hS => ?_)
      clear hK K
      refine wpAnyH_done (by kernel_rfl) ?_ _
      go_wp2_with fail
      go_meet
      case rel =>
        exact ⟨_, _, qa, qc, ra, rc, rfl, rfl, VI_6.out, VB_6.out, DI_6.out.to (fun k hk _ => by omega), DB_6.out.to (fun k hk _ => by omega), hS, YI.out, YB.out⟩
    ·go_simp
     refine allocKd (K := K) (W1.heap.size) rfl (fun U1 hb hN => ?_)
     have ZB_1 := hidd hN
     have YB : Hid (W1.heap.size ≤ W1.heap.size) := hS.size
     have hS1 := hb
     clear hb hN
     refine hK.out _ _ hS1 (fun hS => ?_)
     clear hK K
     refine rdy [2, 6] (.cons rfl (fun K hK => ?_) (.cons rfl (fun K hK => ?_) .nil))
     ·go_simp
      refine Calls.mono (H64.out U1 (PX.out _ hS).1) ?_
      rintro e U2 ⟨hb, qa, qc, rfl, hq⟩
      have DI_2 := hidd (hq.to (ok' := (fun b => W1.heap.size ≤ b ∧ b ≠ W1.heap.size)) (fun k hk _ => by have := hS.size; have := ltH ZB_1.out; omega))
      have ZB_2 := hidd (upH ZB_1.out hb)
      have hS2 := hS.trans (hb.mono hS.size)
      clear hb hq
      unfold dv
      refine hK.out _ _ hS2 (fun hS => ?_)
      clear hK K
      refine rdy [5, 6] (.cons rfl (fun K hK => ?_) (.cons rfl (fun K hK => ?_) .nil))
      ·go_simp
       refine Calls.mono (H65.out U2 (PX.out _ hS).1) ?_
       rintro e U3 ⟨hb, ra, rc, rfl, hq⟩
       have DB_3 := hidd (hq.to (ok' := (fun b => W1.heap.size ≤ b ∧ b ≠ W1.heap.size)) (fun k hk _ => by have := hS.size; have := ltH ZB_2.out; omega))
       have ZB_3 := hidd (upH ZB_2.out hb)
       have DI_3 := hidd (DI_2.out.lift hb)
       have hS3 := hS.trans (hb.mono hS.size)
       clear hb hq
       unfold dv
       refine hK.out _ _ hS3 (fun hS => ?_)
       clear hK K
       refine rdy [6] (.cons rfl (fun K hK => ?_) .nil)
       go_simp
       refine allocK (K := K) (U3.heap.size) rfl (fun U4 hb hN => ?_)
       have ZI_4 := hidd hN
       have YI : Hid (W1.heap.size ≤ U3.heap.size) := hS.size
       have YN := hidd (Nat.ne_of_lt (ltH ZB_3.out))
       have DI := hidd (DI_3.out.to (ok' := (fun b => W1.heap.size ≤ b ∧ b ≠ W1.heap.size ∧ b ≠ U3.heap.size)) (fun k h1 h2 => by omega))
       have DB := hidd (DB_3.out.to (ok' := (fun b => W1.heap.size ≤ b ∧ b ≠ W1.heap.size ∧ b ≠ U3.heap.size)) (fun k h1 h2 => by omega))
       have ZB_4 := hidd (upH ZB_3.out hb)
       have DI_4 := hidd (DI.out.lift hb)
       have DB_4 := hidd (DB.out.lift hb)
       have hS4 := hS.trans (hb.mono hS.size)
       clear hb hN
       refine hK.out _ _ hS4 (fun hS => ?_)
       clear hK K
       refine rdy [8] (.cons rfl (fun K hK => ?_) .nil)
       obtain ⟨q0, q1, q2, q3, q4, q5⟩ := six_at ZI_4.out
       obtain ⟨z0, z1, z2, z3, z4, z5⟩ := six_fz ZI_4.out
       go_simp
       clear q0 q1 q2 q3 q4 q5 z0 z1 z2 z3 z4 z5
       refine store6K (K := K) ZI_4.out YI.out (fun U5 s1 s2 s3 s4 _ => ?_)
       have VI_5 := hidd s1
       have ZB_5 := hidd ((s2 _ YN.out).trans ZB_4.out)
       have DI_5 := hidd (DI_4.out.kept s2 s3 (fun k hk => by omega))
       have DB_5 := hidd (DB_4.out.kept s2 s3 (fun k hk => by omega))
       have hS5 := s4 _ hS
       clear s1 s2 s3 s4
       refine hK.out _ _ hS5 (fun hS => ?_)
       clear hK K
       refine rdy [9] (.cons rfl (fun K hK => ?_) .nil)
       obtain ⟨q0, q1, q2, q3, q4, q5⟩ := six_at ZB_5.out
       obtain ⟨z0, z1, z2, z3, z4, z5⟩ := six_fz ZB_5.out
       go_simp
       clear q0 q1 q2 q3 q4 q5 z0 z1 z2 z3 z4 z5
       refine store6K (K := K) ZB_5.out YB.out (fun U6 s1 s2 s3 s4 _ => ?_)
       have VB_6 := hidd s1
       have VI_6 := hidd ((s2 _ YN.out.symm).trans VI_5.out)
       have DI_6 := hidd (DI_5.out.kept s2 s3 (fun k hk => by omega))
       have DB_6 := hidd (DB_5.out.kept s2 s3 (fun k hk => by omega))
       have hS6 := s4 _ hS
       clear s1 s2 s3 s4
       refine hK.out _ _ hS6 (fun hS => ?_)
       clear hK K
       refine wpAnyH_done (by kernel_rfl) ?_ _
       go_wp2_with fail
       go_meet
       case rel =>
         exact ⟨_, _, qa, qc, ra, rc, rfl, rfl, VI_6.out, VB_6.out, DI_6.out.to (fun k hk _ => by omega), DB_6.out.to (fun k hk _ => by omega), hS, YI.out, YB.out⟩
      ·go_simp
       refine allocK (K := K) (U2.heap.size) rfl (fun U3 hb hN => ?_)
       have ZI_3 := hidd hN
       have YI : Hid (W1.heap.size ≤ U2.heap.size) := hS.size
       have YN := hidd (Nat.ne_of_lt (ltH ZB_2.out))
       have DI := hidd (DI_2.out.to (ok' := (fun b => W1.heap.size ≤ b ∧ b ≠ W1.heap.size ∧ b ≠ U2.heap.size)) (fun k h1 h2 => by omega))
       have ZB_3 := hidd (upH ZB_2.out hb)
       have DI_3 := hidd (DI.out.lift hb)
       have hS3 := hS.trans (hb.mono hS.size)
       clear hb hN
       refine hK.out _ _ hS3 (fun hS => ?_)
       clear hK K
       refine rdy [5] (.cons rfl (fun K hK => ?_) .nil)
       go_simp
       refine Calls.mono (H65.out U3 (PX.out _ hS).1) ?_
       rintro e U4 ⟨hb, ra, rc, rfl, hq⟩
       have DB_4 := hidd (hq.to (ok' := (fun b => W1.heap.size ≤ b ∧ b ≠ W1.heap.size ∧ b ≠ U2.heap.size)) (fun k hk _ => by have := hS.size; have := ltH ZB_3.out; have := ltH ZI_3.out; omega))
       have ZB_4 := hidd (upH ZB_3.out hb)
       have DI_4 := hidd (DI_3.out.lift hb)
       have ZI_4 := hidd (upH ZI_3.out hb)
       have hS4 := hS.trans (hb.mono hS.size)
       clear hb hq
       unfold dv
       refine hK.out _ _ hS4 (fun hS => ?_)
       clear hK K
       refine rdy [8] (.cons rfl (fun K hK => ?_) .nil)
       obtain ⟨q0, q1, q2, q3, q4, q5⟩ := six_at ZI_4.out
       obtain ⟨z0, z1, z2, z3, z4, z5⟩ := six_fz ZI_4.out
       go_simp
       clear q0 q1 q2 q3 q4 q5 z0 z1 z2 z3 z4 z5
       refine store6K (K := K) ZI_4.out YI.out (fun U5 s1 s2 s3 s4 _ => ?_)
       have VI_5 := hidd s1
       have ZB_5 := hidd ((s2 _ YN.out).trans ZB_4.out)
       have DI_5 := hidd (DI_4.out.kept s2 s3 (fun k hk => by omega))
       have DB_5 := hidd (DB_4.out.kept s2 s3 (fun k hk => by omega))
       have hS5 := s4 _ hS
       clear s1 s2 s3 s4
       refine hK.out _ _ hS5 (fun hS => ?_)
       clear hK K
       refine rdy [9] (.cons rfl (fun K hK => ?_) .nil)
       obtain ⟨q0, q1, q2, q3, q4, q5⟩ := six_at ZB_5.out
       obtain ⟨z0, z1, z2, z3, z4, z5⟩ := six_fz ZB_5.out
       go_simp
       clear q0 q1 q2 q3 q4 q5 z0 z1 z2 z3 z4 z5
       refine store6K (K := K) ZB_5.out YB.out (fun U6 s1 s2 s3 s4 _ => ?_)
       have VB_6 := hidd s1
       have VI_6 := hidd ((s2 _ YN.out.symm).trans VI_5.out)
       have DI_6 := hidd (DI_5.out.kept s2 s3 (fun k hk => by omega))
       have DB_6 := hidd (DB_5.out.kept s2 s3 (fun k hk => by omega))
       have hS6 := s4 _ hS
       clear s1 s2 s3 s4
       refine hK.out _ _ hS6 (fun hS => ?_)
       clear hK K
       refine wpAnyH_done (by kernel_rfl) ?_ _
       go_wp2_with fail
       go_meet
       case rel =>
         exact ⟨_, _, qa, qc, ra, rc, rfl, rfl, VI_6.out, VB_6.out, DI_6.out.to (fun k hk _ => by omega), DB_6.out.to (fun k hk _ => by omega), hS, YI.out, YB.out⟩
     ·go_simp
      refine allocK (K := K) (U1.heap.size) rfl (fun U2 hb hN => ?_)
      have ZI_2 := hidd hN
      have YI : Hid (W1.heap.size ≤ U1.heap.size) := hS.size
      have YN := hidd (Nat.ne_of_lt (ltH ZB_1.out))
      have ZB_2 := hidd (upH ZB_1.out hb)
      have hS2 := hS.trans (hb.mono hS.size)
      clear hb hN
      refine hK.out _ _ hS2 (fun hS => ?_)
      clear hK K
      refine rdy [2] (.cons rfl (fun K hK => ?_) .nil)
      go_simp
      refine Calls.mono (H64.out U2 (PX.out _ hS).1) ?_
      rintro e U3 ⟨hb, qa, qc, rfl, hq⟩
      have DI_3 := hidd (hq.to (ok' := (fun b => W1.heap.size ≤ b ∧ b ≠ W1.heap.size ∧ b ≠ U1.heap.size)) (fun k hk _ => by have := hS.size; have := ltH ZB_2.out; have := ltH ZI_2.out; omega))
      have ZB_3 := hidd (upH ZB_2.out hb)
      have ZI_3 := hidd (upH ZI_2.out hb)
      have hS3 := hS.trans (hb.mono hS.size)
      clear hb hq
      unfold dv
      refine hK.out _ _ hS3 (fun hS => ?_)
      clear hK K
      refine rdy [5] (.cons rfl (fun K hK => ?_) .nil)
      go_simp
      refine Calls.mono (H65.out U3 (PX.out _ hS).1) ?_
      rintro e U4 ⟨hb, ra, rc, rfl, hq⟩
      have DB_4 := hidd (hq.to (ok' := (fun b => W1.heap.size ≤ b ∧ b ≠ W1.heap.size ∧ b ≠ U1.heap.size)) (fun k hk _ => by have := hS.size; have := ltH ZB_3.out; have := ltH ZI_3.out; omega))
      have ZB_4 := hidd (upH ZB_3.out hb)
      have ZI_4 := hidd (upH ZI_3.out hb)
      have DI_4 := hidd (DI_3.out.lift hb)
      have hS4 := hS.trans (hb.mono hS.size)
      clear hb hq
      unfold dv
      refine hK.out _ _ hS4 (fun hS => ?_)
      clear hK K
      refine rdy [8] (.cons rfl (fun K hK => ?_) .nil)
      obtain ⟨q0, q1, q2, q3, q4, q5⟩ := six_at ZI_4.out
      obtain ⟨z0, z1, z2, z3, z4, z5⟩ := six_fz ZI_4.out
      go_simp
      clear q0 q1 q2 q3 q4 q5 z0 z1 z2 z3 z4 z5
      refine store6K (K := K) ZI_4.out YI.out (fun U5 s1 s2 s3 s4 _ => ?_)
      have VI_5 := hidd s1
      have ZB_5 := hidd ((s2 _ YN.out).trans ZB_4.out)
      have DI_5 := hidd (DI_4.out.kept s2 s3 (fun k hk => by omega))
      have DB_5 := hidd (DB_4.out.kept s2 s3 (fun k hk => by omega))
      have hS5 := s4 _ hS
      clear s1 s2 s3 s4
      refine hK.out _ _ hS5 (fun hS => ?_)
      clear hK K
      refine rdy [9] (.cons rfl (fun K hK => ?_) .nil)
      obtain ⟨q0, q1, q2, q3, q4, q5⟩ := six_at ZB_5.out
      obtain ⟨z0, z1, z2, z3, z4, z5⟩ := six_fz ZB_5.out
      go_simp
      clear q0 q1 q2 q3 q4 q5 z0 z1 z2 z3 z4 z5
      refine store6K (K := K) ZB_5.out YB.out (fun U6 s1 s2 s3 s4 _ => ?_)
      have VB_6 := hidd s1
      have VI_6 := hidd ((s2 _ YN.out.symm).trans VI_5.out)
      have DI_6 := hidd (DI_5.out.kept s2 s3 (fun k hk => by omega))
      have DB_6 := hidd (DB_5.out.kept s2 s3 (fun k hk => by omega))
      have hS6 := s4 _ hS
      clear s1 s2 s3 s4
      refine hK.out _ _ hS6 (fun hS => ?_)
      clear hK K
      refine wpAnyH_done (by kernel_rfl) ?_ _
      go_wp2_with fail
      go_meet
      case rel =>
        exact ⟨_, _, qa, qc, ra, rc, rfl, rfl, VI_6.out, VB_6.out, DI_6.out.to (fun k hk _ => by omega), DB_6.out.to (fun k hk _ => by omega), hS, YI.out, YB.out⟩
  case rest =>
    obtain ⟨I, B, qa, qc, ra, rc, rfl, rfl, hi, hb, di, db, hw, hI, hB⟩ := hcut
    have HC0 : Hid (wc.heap[I]? = some (.cells #[.int .i64 dI.kind, .int .i64 dI.n, .string dI.name, .int .i64 dI.stamp, .int .i64 dI.lib, .slice qa dI.kids.length qc] 26 (0, 0)) ∧ wc.heap[B]? = some (.cells #[.int .i64 dB.kind, .int .i64 dB.n, .string dB.name, .int .i64 dB.stamp, .int .i64 dB.lib, .slice ra dB.kids.length rc] 26 (0, 0)) ∧ DE (fun b => W1.heap.size ≤ b) wc dI qa qc ∧ DE (fun b => W1.heap.size ≤ b) wc dB ra rc ∧ Below W1.heap.size W1 wc ∧ W1.heap.size ≤ I ∧ W1.heap.size ≤ B) := ⟨hi, hb, di.to (fun k hk _ => hk.1), db.to (fun k hk _ => hk.1), hw, hI, hB⟩
    have px := (PX.out wc hw).2
    have r0 : wc.cell? ⟨w.heap.size, 0, none⟩ = some (.string nm) := (cellO px).trans rfl
    clear hi hb di db hw hI hB px H64 H65
    have UPS : Hid (∀ u v, SV42 nm ea ia ba ne ec ni ic nb bc dI dB qa ra qc rc I B w wc u → Below u.heap.size u v → SV42 nm ea ia ba ne ec ni ic nb bc dI dB qa ra qc rc I B w wc v) := fun u v h hb => ⟨h.1.trans (hb.mono h.1.size), Nat.le_trans h.2.1 hb.size, upH h.2.2.1 hb, upH h.2.2.2.1 hb, upH h.2.2.2.2 hb⟩
    by_cases hn : nm = ⟨#[]⟩
    · have eE : (⟨#[]⟩ : ByteArray).toList = [] := by simp
      have g1 : (nm.toList == []) = true := by rw [hn]; simp
      have HNN := hidd hn
      clear hn
      go_upto_region 3 with fail
      clear r0
      have NO_0 : Hid (wc.drew.heap[w.heap.size + 1]? = some (.cells #[.int .i64 0, .int .i64 0, .string ⟨#[]⟩, .int .i64 0, .int .i64 0, .slice none 0 0] 26 (0, 0))) := (HC0.out.2.2.2.2.1.block _ (by have := HB1.out.2; omega)).trans N1.out
      have DI_0 := hidd (HC0.out.2.2.1.lift (w' := wc.drew) (Below.drew (Below.refl _ _)))
      have DB_0 := hidd (HC0.out.2.2.2.1.lift (w' := wc.drew) (Below.drew (Below.refl _ _)))
      have HCW := hidd HC0.out.2.2.2.2.1.size
      have HNE : Hid (I ≠ w.heap.size + 1 ∧ B ≠ w.heap.size + 1) := ⟨by have := HC0.out.2.2.2.2.2.1; have := HB1.out.2; omega, by have := HC0.out.2.2.2.2.2.2; have := HB1.out.2; omega⟩
      refine wp_region_held_drew (S := SV42 nm ea ia ba ne ec ni ic nb bc dI dB qa ra qc rc I B w wc) (by kernel_rfl) ⟨(PX.out wc HC0.out.2.2.2.2.1).1.drew, Nat.le_refl _, (PX.out wc HC0.out.2.2.2.2.1).2, HC0.out.1, HC0.out.2.1⟩ (fun hS => ?_)
      refine tk 1 (.agg #[.int .i64 dI.kind, .int .i64 dI.n, .string dI.name, .int .i64 dI.stamp, .int .i64 dI.lib, .slice qa dI.kids.length qc]) rfl (Or.inl ⟨by rfl, fun u hu => by (have zz := hu.2.2.2.1; have z0 : u.cell? ⟨I, 0, none⟩ = some _ := (cellO zz).trans rfl; have z1 : u.cell? ⟨I, 1, none⟩ = some _ := (cellO zz).trans rfl; have z2 : u.cell? ⟨I, 2, none⟩ = some _ := (cellO zz).trans rfl; have z3 : u.cell? ⟨I, 3, none⟩ = some _ := (cellO zz).trans rfl; have z4 : u.cell? ⟨I, 4, none⟩ = some _ := (cellO zz).trans rfl; have z5 : u.cell? ⟨I, 5, none⟩ = some _ := (cellO zz).trans rfl; clear zz; go_simp)⟩) hS ?_
      simp only [Act.put, List.setIfInBounds_toArray, List.set_cons_zero, List.set_cons_succ]
      refine tk 2 (.agg #[.int .i64 dB.kind, .int .i64 dB.n, .string dB.name, .int .i64 dB.stamp, .int .i64 dB.lib, .slice ra dB.kids.length rc]) rfl (Or.inl ⟨by rfl, fun u hu => by (have zz := hu.2.2.2.2; have z0 : u.cell? ⟨B, 0, none⟩ = some _ := (cellO zz).trans rfl; have z1 : u.cell? ⟨B, 1, none⟩ = some _ := (cellO zz).trans rfl; have z2 : u.cell? ⟨B, 2, none⟩ = some _ := (cellO zz).trans rfl; have z3 : u.cell? ⟨B, 3, none⟩ = some _ := (cellO zz).trans rfl; have z4 : u.cell? ⟨B, 4, none⟩ = some _ := (cellO zz).trans rfl; have z5 : u.cell? ⟨B, 5, none⟩ = some _ := (cellO zz).trans rfl; clear zz; go_simp)⟩) hS ?_
      simp only [Act.put, List.setIfInBounds_toArray, List.set_cons_zero, List.set_cons_succ]
      refine rdy [0, 3] (.cons rfl (fun K hK => ?_) (.cons rfl (fun K hK => ?_) .nil))
      ·go_simp
       refine Calls.mono (SP.out wc.drew) ?_
       rintro e U1 ⟨rfl, hb⟩
       have NO_1 := hidd (upH NO_0.out hb)
       have DI_1 := hidd (DI_0.out.lift hb)
       have DB_1 := hidd (DB_0.out.lift hb)
       have hS1 := UPS.out _ _ hS hb
       clear hb
       unfold dv
       refine hK.out _ _ hS1 (fun hS => ?_)
       clear hK K
       refine rdy [3] (.cons rfl (fun K hK => ?_) .nil)
       go_simp
       obtain ⟨sf, hsf⟩ := row_lie (fun b => W1.heap.size ≤ b) U1 [(dI, qa, qc), (dB, ra, rc)] (by simp) (by
         intro e he
         simp at he
         rcases he with rfl | rfl
         · exact DI_1.out
         · exact DB_1.out)
       have hD : ∃ f, Dc (fun b => W1.heap.size ≤ b ∧ b < (U1.alloc (.cells (flat [(dI, qa, qc), (dB, ra, rc)]).toArray 26)).heap.size) (U1.alloc (.cells (flat [(dI, qa, qc), (dB, ra, rc)]).toArray 26)) f (some ⟨U1.heap.size, 0, none⟩) [dI, dB] := ⟨sf, Dc.stay (fun _ _ => rfl) (fun k hk => ⟨hk.1.elim id (fun e => by rw [e]; exact Nat.le_trans HCW.out hS.2.1), by have := hk.2; simpa using this⟩) _ _ _ hsf⟩
       have hb : Below U1.heap.size U1 (U1.alloc (.cells (flat [(dI, qa, qc), (dB, ra, rc)]).toArray 26)) := (Below.refl _ _).alloc (Nat.le_refl _) _
       change K _ (U1.alloc (.cells (flat [(dI, qa, qc), (dB, ra, rc)]).toArray 26))
       generalize U1.alloc (.cells (flat [(dI, qa, qc), (dB, ra, rc)]).toArray 26) = U2 at hD hb ⊢
       have RS_2 := hidd hD
       have NO_2 := hidd (upH NO_1.out hb)
       have hS2 := UPS.out _ _ hS hb
       clear hb hsf hD
       refine hK.out _ _ hS2 (fun hS => ?_)
       clear hK K
       refine rdy [4] (.cons rfl (fun K hK => ?_) .nil)
       go_simp
       obtain ⟨sf, hsf⟩ := RS_2.out
       refine Calls.mono (list66 (fun b => W1.heap.size ≤ b) dpr none 0 [dI, dB] (some ⟨U1.heap.size, 0, none⟩) 2 sf U2 (DPR.out _ _) hsf (by simp)) ?_
       rintro e U3 ⟨hb, va, vc, es, rfl, heq, hrq⟩
       obtain ⟨m, hm⟩ : ∃ m, m = es.length := ⟨_, rfl⟩
       have HX := hidd (And.intro heq (And.intro hm ((hrq.to (ok' := fun b => W1.heap.size ≤ b) (fun k hk _ => hk.1)).low (Nat.le_trans HCW.out hS.2.1))))
       rw [← hm]
       have NO_3 := hidd (upH NO_2.out hb)
       have hS3 := UPS.out _ _ hS hb
       clear hb heq hrq hm hsf
       unfold dvK
       refine hK.out _ _ hS3 (fun hS => ?_)
       clear hK K
       refine rdy [5] (.cons rfl (fun K hK => ?_) .nil)
       have hx : U3.heap[w.heap.size + 1]? = _ := NO_3.out
       obtain ⟨q0, q1, q2, q3, q4, q5⟩ := six_at hx
       obtain ⟨z0, z1, z2, z3, z4, z5⟩ := six_fz hx
       go_simp
       clear q0 q1 q2 q3 q4 q5 z0 z1 z2 z3 z4 z5
       have hl : m = (dpr :: [dI, dB]).length := by rw [HX.out.2.1, ← HX.out.1, List.length_map]
       refine store6K (K := K) (B := w.heap.size) hx (Nat.le_succ _) (fun wf s1 s2 s3 s4 s5 => ?_)
       have FB := hidd (s4 _ hS.1)
       have FN := hidd s1
       have FD : Hid (DE (fun b => w.heap.size + 1 ≤ b) wf (liD (dpr :: [dI, dB])) va vc) := by
         have hr := HX.out.2.2
         have hz := HB1.out.2
         rw [← HX.out.2.1] at hr
         exact rowE_tell (hr.keep s5 (fun e => by have h3 := (hr.own.lt _ e).1; omega) (fun k hk => by omega)) HX.out.2.1 HX.out.1 (by omega) (fun k hk => by omega) (by rw [← HX.out.2.1, hl]; simp)
       refine hK.out _ _ ⟨FB.out, by rw [s3]; exact hS.2.1, (s2 _ (by omega)).trans hS.2.2.1, (s2 _ HNE.out.1).trans hS.2.2.2.1, (s2 _ HNE.out.2).trans hS.2.2.2.2⟩ (fun hS => ?_)
       clear hK K s1 s2 s3 s4 s5 hx
       refine wpAnyH_done (by kernel_rfl) ?_ _
       obtain ⟨p0, p1, p2, p3, p4, p5⟩ := six_at FN.out
       go_wp2_with fail
       refine bodyPost_ret (v := .agg #[.int .i64 4, .int .i64 0, .string ⟨#[]⟩, .int .i64 0, .int .i64 0, .slice va m vc]) (by simp [results, Tryz.results42, go_sem, p0, p1, p2, p3, p4, p5]) rfl ?_
       rw [HR.out.1 HNN.out]
       exact ⟨FB.out, va, vc, by rw [hl]; rfl, FD.out.to (fun k hk _ => by omega)⟩
      ·go_simp
       obtain ⟨sf, hsf⟩ := row_lie (fun b => W1.heap.size ≤ b) wc.drew [(dI, qa, qc), (dB, ra, rc)] (by simp) (by
         intro e he
         simp at he
         rcases he with rfl | rfl
         · exact DI_0.out
         · exact DB_0.out)
       have hD : ∃ f, Dc (fun b => W1.heap.size ≤ b ∧ b < (wc.drew.alloc (.cells (flat [(dI, qa, qc), (dB, ra, rc)]).toArray 26)).heap.size) (wc.drew.alloc (.cells (flat [(dI, qa, qc), (dB, ra, rc)]).toArray 26)) f (some ⟨wc.heap.size, 0, none⟩) [dI, dB] := ⟨sf, Dc.stay (fun _ _ => rfl) (fun k hk => ⟨hk.1.elim id (fun e => by rw [e]; exact Nat.le_trans HCW.out hS.2.1), by have := hk.2; simpa using this⟩) _ _ _ hsf⟩
       have hb : Below wc.drew.heap.size wc.drew (wc.drew.alloc (.cells (flat [(dI, qa, qc), (dB, ra, rc)]).toArray 26)) := (Below.refl _ _).alloc (Nat.le_refl _) _
       change K _ (wc.drew.alloc (.cells (flat [(dI, qa, qc), (dB, ra, rc)]).toArray 26))
       generalize wc.drew.alloc (.cells (flat [(dI, qa, qc), (dB, ra, rc)]).toArray 26) = U1 at hD hb ⊢
       have RS_1 := hidd hD
       have NO_1 := hidd (upH NO_0.out hb)
       have hS1 := UPS.out _ _ hS hb
       clear hb hsf hD
       refine hK.out _ _ hS1 (fun hS => ?_)
       clear hK K
       refine rdy [0] (.cons rfl (fun K hK => ?_) .nil)
       go_simp
       refine Calls.mono (SP.out U1) ?_
       rintro e U2 ⟨rfl, hb⟩
       have NO_2 := hidd (upH NO_1.out hb)
       have RS_2 := hidd (upD RS_1.out hb)
       have hS2 := UPS.out _ _ hS hb
       clear hb
       unfold dv
       refine hK.out _ _ hS2 (fun hS => ?_)
       clear hK K
       refine rdy [4] (.cons rfl (fun K hK => ?_) .nil)
       go_simp
       obtain ⟨sf, hsf⟩ := RS_2.out
       refine Calls.mono (list66 (fun b => W1.heap.size ≤ b) dpr none 0 [dI, dB] (some ⟨wc.heap.size, 0, none⟩) 2 sf U2 (DPR.out _ _) hsf (by simp)) ?_
       rintro e U3 ⟨hb, va, vc, es, rfl, heq, hrq⟩
       obtain ⟨m, hm⟩ : ∃ m, m = es.length := ⟨_, rfl⟩
       have HX := hidd (And.intro heq (And.intro hm ((hrq.to (ok' := fun b => W1.heap.size ≤ b) (fun k hk _ => hk.1)).low (Nat.le_trans HCW.out hS.2.1))))
       rw [← hm]
       have NO_3 := hidd (upH NO_2.out hb)
       have hS3 := UPS.out _ _ hS hb
       clear hb heq hrq hm hsf
       unfold dvK
       refine hK.out _ _ hS3 (fun hS => ?_)
       clear hK K
       refine rdy [5] (.cons rfl (fun K hK => ?_) .nil)
       have hx : U3.heap[w.heap.size + 1]? = _ := NO_3.out
       obtain ⟨q0, q1, q2, q3, q4, q5⟩ := six_at hx
       obtain ⟨z0, z1, z2, z3, z4, z5⟩ := six_fz hx
       go_simp
       clear q0 q1 q2 q3 q4 q5 z0 z1 z2 z3 z4 z5
       have hl : m = (dpr :: [dI, dB]).length := by rw [HX.out.2.1, ← HX.out.1, List.length_map]
       refine store6K (K := K) (B := w.heap.size) hx (Nat.le_succ _) (fun wf s1 s2 s3 s4 s5 => ?_)
       have FB := hidd (s4 _ hS.1)
       have FN := hidd s1
       have FD : Hid (DE (fun b => w.heap.size + 1 ≤ b) wf (liD (dpr :: [dI, dB])) va vc) := by
         have hr := HX.out.2.2
         have hz := HB1.out.2
         rw [← HX.out.2.1] at hr
         exact rowE_tell (hr.keep s5 (fun e => by have h3 := (hr.own.lt _ e).1; omega) (fun k hk => by omega)) HX.out.2.1 HX.out.1 (by omega) (fun k hk => by omega) (by rw [← HX.out.2.1, hl]; simp)
       refine hK.out _ _ ⟨FB.out, by rw [s3]; exact hS.2.1, (s2 _ (by omega)).trans hS.2.2.1, (s2 _ HNE.out.1).trans hS.2.2.2.1, (s2 _ HNE.out.2).trans hS.2.2.2.2⟩ (fun hS => ?_)
       clear hK K s1 s2 s3 s4 s5 hx
       refine wpAnyH_done (by kernel_rfl) ?_ _
       obtain ⟨p0, p1, p2, p3, p4, p5⟩ := six_at FN.out
       go_wp2_with fail
       refine bodyPost_ret (v := .agg #[.int .i64 4, .int .i64 0, .string ⟨#[]⟩, .int .i64 0, .int .i64 0, .slice va m vc]) (by simp [results, Tryz.results42, go_sem, p0, p1, p2, p3, p4, p5]) rfl ?_
       rw [HR.out.1 HNN.out]
       exact ⟨FB.out, va, vc, by rw [hl]; rfl, FD.out.to (fun k hk _ => by omega)⟩
    · have g0 := beqS_ne hn
      have eE : (⟨#[]⟩ : ByteArray).toList = [] := by simp
      have g1 : (nm.toList == []) = false := by rw [← eE]; exact g0
      have HNN := hidd hn
      clear hn g0
      go_upto_region 4 with fail
      clear r0
      have NO_0 : Hid (wc.drew.heap[w.heap.size + 1]? = some (.cells #[.int .i64 0, .int .i64 0, .string ⟨#[]⟩, .int .i64 0, .int .i64 0, .slice none 0 0] 26 (0, 0))) := (HC0.out.2.2.2.2.1.block _ (by have := HB1.out.2; omega)).trans N1.out
      have DI_0 := hidd (HC0.out.2.2.1.lift (w' := wc.drew) (Below.drew (Below.refl _ _)))
      have DB_0 := hidd (HC0.out.2.2.2.1.lift (w' := wc.drew) (Below.drew (Below.refl _ _)))
      have HCW := hidd HC0.out.2.2.2.2.1.size
      have HNE : Hid (I ≠ w.heap.size + 1 ∧ B ≠ w.heap.size + 1) := ⟨by have := HC0.out.2.2.2.2.2.1; have := HB1.out.2; omega, by have := HC0.out.2.2.2.2.2.2; have := HB1.out.2; omega⟩
      refine wp_region_held_drew (S := SV42 nm ea ia ba ne ec ni ic nb bc dI dB qa ra qc rc I B w wc) (by kernel_rfl) ⟨(PX.out wc HC0.out.2.2.2.2.1).1.drew, Nat.le_refl _, (PX.out wc HC0.out.2.2.2.2.1).2, HC0.out.1, HC0.out.2.1⟩ (fun hS => ?_)
      refine tk 1 (.pointer (some ⟨w.heap.size, 0, none⟩)) rfl (Or.inl ⟨by rfl, fun u hu => by go_simp⟩) hS ?_
      simp only [Act.put, List.setIfInBounds_toArray, List.set_cons_zero, List.set_cons_succ]
      refine tk 2 (.string nm) rfl (Or.inl ⟨by rfl, fun u hu => by (have z0 : u.cell? ⟨w.heap.size, 0, none⟩ = some (.string nm) := (cellO hu.2.2.1).trans rfl; go_simp)⟩) hS ?_
      simp only [Act.put, List.setIfInBounds_toArray, List.set_cons_zero, List.set_cons_succ]
      refine tk 4 (.pointer (some ⟨w.heap.size, 1, none⟩)) rfl (Or.inl ⟨by rfl, fun u hu => by go_simp⟩) hS ?_
      simp only [Act.put, List.setIfInBounds_toArray, List.set_cons_zero, List.set_cons_succ]
      refine tk 5 (.slice ea ne ec) rfl (Or.inl ⟨by rfl, fun u hu => by (have z0 : u.cell? ⟨w.heap.size, 1, none⟩ = some (.slice ea ne ec) := (cellO hu.2.2.1).trans rfl; go_simp)⟩) hS ?_
      simp only [Act.put, List.setIfInBounds_toArray, List.set_cons_zero, List.set_cons_succ]
      refine tk 7 (.agg #[.int .i64 dI.kind, .int .i64 dI.n, .string dI.name, .int .i64 dI.stamp, .int .i64 dI.lib, .slice qa dI.kids.length qc]) rfl (Or.inl ⟨by rfl, fun u hu => by (have zz := hu.2.2.2.1; have z0 : u.cell? ⟨I, 0, none⟩ = some _ := (cellO zz).trans rfl; have z1 : u.cell? ⟨I, 1, none⟩ = some _ := (cellO zz).trans rfl; have z2 : u.cell? ⟨I, 2, none⟩ = some _ := (cellO zz).trans rfl; have z3 : u.cell? ⟨I, 3, none⟩ = some _ := (cellO zz).trans rfl; have z4 : u.cell? ⟨I, 4, none⟩ = some _ := (cellO zz).trans rfl; have z5 : u.cell? ⟨I, 5, none⟩ = some _ := (cellO zz).trans rfl; clear zz; go_simp)⟩) hS ?_
      simp only [Act.put, List.setIfInBounds_toArray, List.set_cons_zero, List.set_cons_succ]
      refine tk 8 (.agg #[.int .i64 dB.kind, .int .i64 dB.n, .string dB.name, .int .i64 dB.stamp, .int .i64 dB.lib, .slice ra dB.kids.length rc]) rfl (Or.inl ⟨by rfl, fun u hu => by (have zz := hu.2.2.2.2; have z0 : u.cell? ⟨B, 0, none⟩ = some _ := (cellO zz).trans rfl; have z1 : u.cell? ⟨B, 1, none⟩ = some _ := (cellO zz).trans rfl; have z2 : u.cell? ⟨B, 2, none⟩ = some _ := (cellO zz).trans rfl; have z3 : u.cell? ⟨B, 3, none⟩ = some _ := (cellO zz).trans rfl; have z4 : u.cell? ⟨B, 4, none⟩ = some _ := (cellO zz).trans rfl; have z5 : u.cell? ⟨B, 5, none⟩ = some _ := (cellO zz).trans rfl; clear zz; go_simp)⟩) hS ?_
      simp only [Act.put, List.setIfInBounds_toArray, List.set_cons_zero, List.set_cons_succ]
      refine rdy [0] (.cons rfl (fun K hK => ?_) .nil)
      go_simp
      refine Calls.mono (SL.out wc.drew) ?_
      rintro e U1 ⟨rfl, hb⟩
      have NO_1 := hidd (upH NO_0.out hb)
      have DI_1 := hidd (DI_0.out.lift hb)
      have DB_1 := hidd (DB_0.out.lift hb)
      have hS1 := UPS.out _ _ hS hb
      clear hb
      unfold dv
      refine hK.out _ _ hS1 (fun hS => ?_)
      clear hK K
      refine rdy [3] (.cons rfl (fun K hK => ?_) .nil)
      go_simp
      refine Calls.mono (H68.out U1 hS.1) ?_
      rintro e U2 ⟨hb, xa, xc, rfl, hq⟩
      have DC_2 := hidd (hq.to (ok' := fun b => W1.heap.size ≤ b) (fun k hk _ => by have := hS.2.1; have := HCW.out; omega))
      have NO_2 := hidd (upH NO_1.out hb)
      have DI_2 := hidd (DI_1.out.lift hb)
      have DB_2 := hidd (DB_1.out.lift hb)
      have hS2 := UPS.out _ _ hS hb
      clear hb hq
      unfold dv
      refine hK.out _ _ hS2 (fun hS => ?_)
      clear hK K
      refine rdy [6] (.cons rfl (fun K hK => ?_) .nil)
      go_simp
      refine Calls.mono (H69.out U2 hS.1) ?_
      rintro e U3 ⟨hb, ya, yc, rfl, hq⟩
      have DD_3 := hidd (hq.to (ok' := fun b => W1.heap.size ≤ b) (fun k hk _ => by have := hS.2.1; have := HCW.out; omega))
      have NO_3 := hidd (upH NO_2.out hb)
      have DI_3 := hidd (DI_2.out.lift hb)
      have DB_3 := hidd (DB_2.out.lift hb)
      have DC_3 := hidd (DC_2.out.lift hb)
      have hS3 := UPS.out _ _ hS hb
      clear hb hq
      unfold dv
      refine hK.out _ _ hS3 (fun hS => ?_)
      clear hK K
      refine rdy [9] (.cons rfl (fun K hK => ?_) .nil)
      go_simp
      obtain ⟨sf, hsf⟩ := row_lie (fun b => W1.heap.size ≤ b) U3 [(dC, xa, xc), (dE, ya, yc), (dI, qa, qc), (dB, ra, rc)] (by simp) (by
        intro e he
        simp at he
        rcases he with rfl | rfl | rfl | rfl
        · exact DC_3.out
        · exact DD_3.out
        · exact DI_3.out
        · exact DB_3.out)
      have hD : ∃ f, Dc (fun b => W1.heap.size ≤ b ∧ b < (U3.alloc (.cells (flat [(dC, xa, xc), (dE, ya, yc), (dI, qa, qc), (dB, ra, rc)]).toArray 26)).heap.size) (U3.alloc (.cells (flat [(dC, xa, xc), (dE, ya, yc), (dI, qa, qc), (dB, ra, rc)]).toArray 26)) f (some ⟨U3.heap.size, 0, none⟩) [dC, dE, dI, dB] := ⟨sf, Dc.stay (fun _ _ => rfl) (fun k hk => ⟨hk.1.elim id (fun e => by rw [e]; exact Nat.le_trans HCW.out hS.2.1), by have := hk.2; simpa using this⟩) _ _ _ hsf⟩
      have hb : Below U3.heap.size U3 (U3.alloc (.cells (flat [(dC, xa, xc), (dE, ya, yc), (dI, qa, qc), (dB, ra, rc)]).toArray 26)) := (Below.refl _ _).alloc (Nat.le_refl _) _
      change K _ (U3.alloc (.cells (flat [(dC, xa, xc), (dE, ya, yc), (dI, qa, qc), (dB, ra, rc)]).toArray 26))
      generalize U3.alloc (.cells (flat [(dC, xa, xc), (dE, ya, yc), (dI, qa, qc), (dB, ra, rc)]).toArray 26) = U4 at hD hb ⊢
      have RS_4 := hidd hD
      have NO_4 := hidd (upH NO_3.out hb)
      have hS4 := UPS.out _ _ hS hb
      clear hb hsf hD
      refine hK.out _ _ hS4 (fun hS => ?_)
      clear hK K
      refine rdy [10] (.cons rfl (fun K hK => ?_) .nil)
      go_simp
      obtain ⟨sf, hsf⟩ := RS_4.out
      refine Calls.mono (list66 (fun b => W1.heap.size ≤ b) dli none 0 [dC, dE, dI, dB] (some ⟨U3.heap.size, 0, none⟩) 4 sf U4 (DLI.out _ _) hsf (by simp)) ?_
      rintro e U5 ⟨hb, va, vc, es, rfl, heq, hrq⟩
      obtain ⟨m, hm⟩ : ∃ m, m = es.length := ⟨_, rfl⟩
      have HX := hidd (And.intro heq (And.intro hm ((hrq.to (ok' := fun b => W1.heap.size ≤ b) (fun k hk _ => hk.1)).low (Nat.le_trans HCW.out hS.2.1))))
      rw [← hm]
      have NO_5 := hidd (upH NO_4.out hb)
      have hS5 := UPS.out _ _ hS hb
      clear hb heq hrq hm hsf
      unfold dvK
      refine hK.out _ _ hS5 (fun hS => ?_)
      clear hK K
      refine rdy [11] (.cons rfl (fun K hK => ?_) .nil)
      have hx : U5.heap[w.heap.size + 1]? = _ := NO_5.out
      obtain ⟨q0, q1, q2, q3, q4, q5⟩ := six_at hx
      obtain ⟨z0, z1, z2, z3, z4, z5⟩ := six_fz hx
      go_simp
      clear q0 q1 q2 q3 q4 q5 z0 z1 z2 z3 z4 z5
      have hl : m = (dli :: [dC, dE, dI, dB]).length := by rw [HX.out.2.1, ← HX.out.1, List.length_map]
      refine store6K (K := K) (B := w.heap.size) hx (Nat.le_succ _) (fun wf s1 s2 s3 s4 s5 => ?_)
      have FB := hidd (s4 _ hS.1)
      have FN := hidd s1
      have FD : Hid (DE (fun b => w.heap.size + 1 ≤ b) wf (liD (dli :: [dC, dE, dI, dB])) va vc) := by
        have hr := HX.out.2.2
        have hz := HB1.out.2
        rw [← HX.out.2.1] at hr
        exact rowE_tell (hr.keep s5 (fun e => by have h3 := (hr.own.lt _ e).1; omega) (fun k hk => by omega)) HX.out.2.1 HX.out.1 (by omega) (fun k hk => by omega) (by rw [← HX.out.2.1, hl]; simp)
      refine hK.out _ _ ⟨FB.out, by rw [s3]; exact hS.2.1, (s2 _ (by omega)).trans hS.2.2.1, (s2 _ HNE.out.1).trans hS.2.2.2.1, (s2 _ HNE.out.2).trans hS.2.2.2.2⟩ (fun hS => ?_)
      clear hK K s1 s2 s3 s4 s5 hx
      refine wpAnyH_done (by kernel_rfl) ?_ _
      obtain ⟨p0, p1, p2, p3, p4, p5⟩ := six_at FN.out
      go_wp2_with fail
      refine bodyPost_ret (v := .agg #[.int .i64 4, .int .i64 0, .string ⟨#[]⟩, .int .i64 0, .int .i64 0, .slice va m vc]) (by simp [results, Tryz.results42, go_sem, p0, p1, p2, p3, p4, p5]) rfl ?_
      rw [HR.out.2 HNN.out]
      exact ⟨FB.out, va, vc, by rw [hl]; rfl, FD.out.to (fun k hk _ => by omega)⟩
end Go.Proofs.YtonafbennobgdaaGreatDoor
