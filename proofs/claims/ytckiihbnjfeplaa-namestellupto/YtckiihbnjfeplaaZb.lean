/- Package names: a bind is cloned; binds are sorted. -/
import Derived.Test.YtckiihbnjfeplaaZa
import Derived.Test.YtckiihbnjfeplaaWm
import Derived.Deep.RegionHeld3
namespace Go.Proofs.Ytckiihbnjfeplaa
set_option linter.unusedVariables false
set_option linter.unusedSimpArgs false
open Go.RowKit Go.Lib Go.Sort

abbrev bdV (p : Bd) : Value := .agg #[.string p.1, .string p.2.1, .string p.2.2]

/-- A box of three texts, and a result's place. -/
abbrev BoxB (N : Nat) (x y z : ByteArray) (w : World) : Prop :=
  w.cell? ⟨N, 0, none⟩ = some (.string x) ∧ w.cell? ⟨N, 1, none⟩ = some (.string y) ∧ w.cell? ⟨N, 2, none⟩ = some (.string z) ∧
  w.cell? ⟨N + 1, 0, none⟩ = some (.string ⟨#[]⟩) ∧ w.cell? ⟨N + 1, 1, none⟩ = some (.string ⟨#[]⟩) ∧ w.cell? ⟨N + 1, 2, none⟩ = some (.string ⟨#[]⟩) ∧
  w.frozen? ⟨N + 1, 0, none⟩ = false ∧ w.frozen? ⟨N + 1, 1, none⟩ = false ∧ w.frozen? ⟨N + 1, 2, none⟩ = false

theorem BoxB.made (x y z : ByteArray) (w : World) : BoxB w.heap.size x y z ((w.alloc (.cells #[.string x, .string y, .string z] 53)).alloc (.cells #[.string ⟨#[]⟩, .string ⟨#[]⟩, .string ⟨#[]⟩] 53)) := by
  refine ⟨?_, ?_, ?_, ?_, ?_, ?_, ?_, ?_, ?_⟩ <;> simp [go_sem]
theorem BoxB.below {N : Nat} {x y z : ByteArray} {w w' : World} (h : BoxB N x y z w) (hb : Below (N + 2) w w') : BoxB N x y z w' := by
  obtain ⟨h0, h1, h2, h3, h4, h5, z0, z1, z2⟩ := h
  have e : ∀ b o, b < N + 2 → w'.cell? ⟨b, o, none⟩ = w.cell? ⟨b, o, none⟩ := fun b o h => hb.cell (p := ⟨b, o, none⟩) h
  have f : ∀ b o, b < N + 2 → w'.frozen? ⟨b, o, none⟩ = w.frozen? ⟨b, o, none⟩ := fun b o h => hb.frozen (p := ⟨b, o, none⟩) h
  exact ⟨(e _ _ (by omega)).trans h0, (e _ _ (by omega)).trans h1, (e _ _ (by omega)).trans h2, (e _ _ (by omega)).trans h3, (e _ _ (by omega)).trans h4, (e _ _ (by omega)).trans h5, (f _ _ (by omega)).trans z0, (f _ _ (by omega)).trans z1, (f _ _ (by omega)).trans z2⟩

theorem below_set3 {B N : Nat} {w w' : World} (h : Below B w w') (hN : B ≤ N) (v0 v1 v2 : Value) :
    Below B w (((w'.setCell ⟨N, 0, none⟩ v0).setCell ⟨N, 1, none⟩ v1).setCell ⟨N, 2, none⟩ v2) :=
  ((h.setCell (p := ⟨N, 0, none⟩) hN _).setCell (p := ⟨N, 1, none⟩) hN _).setCell (p := ⟨N, 2, none⟩) hN _

set_option maxRecDepth 100000 in
set_option maxHeartbeats 3200000 in
theorem cloned_any (x y z : ByteArray) (hx : x.size ≤ 281474976710656) (hy : y.size ≤ 281474976710656) (hz : z.size ≤ 281474976710656) (w : World) :
    Calls Try.prog 24 #[.agg #[.string x, .string y, .string z]] w fun e w' => e = .returned (.agg #[.string x, .string y, .string z]) ∧ Below w.heap.size w w' := by
  have HS0 : Hid (BoxB w.heap.size x y z ((w.alloc (.cells #[.string x, .string y, .string z] 53)).alloc (.cells #[.string ⟨#[]⟩, .string ⟨#[]⟩, .string ⟨#[]⟩] 53))) := BoxB.made x y z w
  have HB0 : Hid (Below w.heap.size w ((w.alloc (.cells #[.string x, .string y, .string z] 53)).alloc (.cells #[.string ⟨#[]⟩, .string ⟨#[]⟩, .string ⟨#[]⟩] 53))) := ((Below.refl _ _).alloc (Nat.le_refl _) _).alloc (by simp) _
  go_enter Try.func24, Try.ntmps24
  go_wp2_with fail
  have hsz : ((w.alloc (.cells #[.string x, .string y, .string z] 53)).alloc (.cells #[.string ⟨#[]⟩, .string ⟨#[]⟩, .string ⟨#[]⟩] 53)).heap.size = w.heap.size + 2 := by simp
  generalize ((w.alloc (.cells #[.string x, .string y, .string z] 53)).alloc (.cells #[.string ⟨#[]⟩, .string ⟨#[]⟩, .string ⟨#[]⟩] 53)) = W0 at HS0 HB0 hsz ⊢
  have CL : Hid (∀ s : ByteArray, s.size ≤ 281474976710656 → ∀ W, Below (w.heap.size + 2) W0 W → Calls Try.prog 23 #[.string s] W fun e w' => e = .returned (.string s) ∧ Below (w.heap.size + 2) W0 w') := fun s hs W hb => (Clone_any s hs W).mono fun e w' ⟨he, h⟩ => ⟨he, hb.trans (h.mono (by rw [← hsz]; exact hb.size))⟩
  have KP : Hid (∀ W, Below (w.heap.size + 2) W0 W → BoxB w.heap.size x y z W) := fun W hb => HS0.out.below hb
  have HB : Hid (Below (w.heap.size + 2) W0 W0) := Below.refl _ _
  have KQ : Hid (∀ W, Below (w.heap.size + 2) W0 W → W.cell? ⟨w.heap.size, 0, none⟩ = some (.string x) ∧ W.cell? ⟨w.heap.size, 1, none⟩ = some (.string y) ∧ W.cell? ⟨w.heap.size, 2, none⟩ = some (.string z)) := fun W hb => ⟨(KP.out W hb).1, (KP.out W hb).2.1, (KP.out W hb).2.2.1⟩
  have KS : Hid (∀ W v0 v1 v2, Below (w.heap.size + 2) W0 W → (((W.setCell ⟨w.heap.size + 1, 0, none⟩ v0).setCell ⟨w.heap.size + 1, 1, none⟩ v1).setCell ⟨w.heap.size + 1, 2, none⟩ v2).cell? ⟨w.heap.size, 0, none⟩ = some (.string x) ∧ (((W.setCell ⟨w.heap.size + 1, 0, none⟩ v0).setCell ⟨w.heap.size + 1, 1, none⟩ v1).setCell ⟨w.heap.size + 1, 2, none⟩ v2).cell? ⟨w.heap.size, 1, none⟩ = some (.string y) ∧ (((W.setCell ⟨w.heap.size + 1, 0, none⟩ v0).setCell ⟨w.heap.size + 1, 1, none⟩ v1).setCell ⟨w.heap.size + 1, 2, none⟩ v2).cell? ⟨w.heap.size, 2, none⟩ = some (.string z)) := fun W v0 v1 v2 hb => by
    have hbb := below_set3 (Below.refl (w.heap.size + 1) W) (Nat.le_refl _) v0 v1 v2
    have e : ∀ o, _ := fun o => hbb.cell (p := ⟨w.heap.size, o, none⟩) (Nat.lt_succ_self _)
    obtain ⟨k0, k1, k2⟩ := KQ.out W hb
    exact ⟨(e 0).trans k0, (e 1).trans k1, (e 2).trans k2⟩
  go_region_held3 (fun w' => w'.cell? ⟨w.heap.size, 0, none⟩ = some (.string x) ∧ w'.cell? ⟨w.heap.size, 1, none⟩ = some (.string y) ∧ w'.cell? ⟨w.heap.size, 2, none⟩ = some (.string z))
    (first | exact KQ.out _ HB.out | exact KQ.out _ HB.out.drew | exact KQ.out _ HB.out.drew.drew | exact KS.out _ _ _ _ HB.out)
    (first
      | (go_at_call 23; refine (CL.out x hx _ ?_).mono ?_; (first | exact HB.out | exact HB.out.drew | exact HB.out.drew.drew); rintro e w1 ⟨rfl, hb1⟩; have HB : Hid (Below (w.heap.size + 2) W0 w1) := hb1; obtain ⟨-, -, -, r3, r4, r5, r6, r7, r8⟩ := KP.out _ hb1; clear hb1)
      | (go_at_call 23; refine (CL.out y hy _ ?_).mono ?_; (first | exact HB.out | exact HB.out.drew | exact HB.out.drew.drew); rintro e w1 ⟨rfl, hb1⟩; have HB : Hid (Below (w.heap.size + 2) W0 w1) := hb1; obtain ⟨-, -, -, r3, r4, r5, r6, r7, r8⟩ := KP.out _ hb1; clear hb1)
      | (go_at_call 23; refine (CL.out z hz _ ?_).mono ?_; (first | exact HB.out | exact HB.out.drew | exact HB.out.drew.drew); rintro e w1 ⟨rfl, hb1⟩; have HB : Hid (Below (w.heap.size + 2) W0 w1) := hb1; obtain ⟨-, -, -, r3, r4, r5, r6, r7, r8⟩ := KP.out _ hb1; clear hb1))
  go_wp2_with fail
  refine bodyPost_ret (v := .agg #[.string x, .string y, .string z]) (by simp [results, Try.results24, go_sem, r3, r4, r5]) rfl ?_
  exact ⟨rfl, below_set3 (HB0.out.trans (HB.out.mono (Nat.le_add_right _ _))) (Nat.le_succ _) _ _ _⟩

def cfB (x y : Bd) : Int := cmpB x.1 y.1

theorem swoB : SWO (ltOf cfB) where
  irrefl x := ltB_irrefl x.1
  trans x y z h1 h2 := ltB_trans h1 h2
  ntrans x y z h1 h2 := ltB_ntrans h1 h2

set_option maxRecDepth 100000 in
set_option maxHeartbeats 1000000 in
theorem closureB (x y : Bd) (W : World) : Calls Try.prog 26 #[.agg #[.string x.1, .string x.2.1, .string x.2.2], .agg #[.string y.1, .string y.2.1, .string y.2.2]] W fun e w' => e = .returned (.int .i64 (cfB x y)) ∧ ∃ q os', w' = grow (W.drewN q) os' := by
  have SC : Hid (∀ w, Calls Try.prog 17 #[.string x.1, .string y.1] w fun e w' => e = .returned (.int .i64 (cfB x y)) ∧ w' = w) := fun w => Try.strings_Compare x.1 y.1 w
  obtain ⟨x1, x2, x3⟩ := x
  obtain ⟨y1, y2, y3⟩ := y
  generalize cfB (x1, x2, x3) (y1, y2, y3) = r at SC ⊢
  simp only at SC
  go_enter Try.func26, Try.ntmps26
  go_wp2_with fail
  refine (SC.out _).mono ?_
  rintro e w' ⟨rfl, rfl⟩
  go_wp2_with fail
  go_ret
  exact ⟨rfl, 0, _, by rw [alloc_eq_grow, alloc_eq_grow, grow_grow]; rfl⟩

theorem cmpLaysB (blk off size : Nat) (w : World) : CmpLays Try.prog 26 #[] encB 3 cfB blk off size w := fun _ _ _ _ x y => closureB x y _

set_option maxRecDepth 100000 in
theorem sortBinds_any (B : Nat) (v : Value) (ps : List Bd) (w : World) (hr : RowB B v ps w) (hl : ps.length ≤ 200) (hn : (ps.map (·.1)).Nodup) :
    Calls Try.prog 25 #[v, .func (.func 26) #[] #[]] w fun e w' => e = .returned (.tuple #[]) ∧ Below B w w' ∧ ∃ a cap, v = .slice a ps.length cap ∧ Bns w'.heap.size w' a (srt (·.1) ps) := by
  rcases hr.2 with ⟨rfl, h0⟩ | ⟨g, cap, cur, rfl, hbg, hg, hnc, hcm, hcs, htake⟩
  · have : ps = [] := List.length_eq_zero_iff.1 h0
    subst this
    refine (AnyF.slices_SortFunc_none Try.sortBind none 0 _ w).mono ?_
    rintro e w' ⟨rfl, rfl⟩
    exact ⟨rfl, Below.refl _ _, none, 0, rfl, by simp [srt], Or.inl rfl⟩
  · have hlt : g < w.heap.size := (Array.getElem?_eq_some_iff.1 hg).1
    have hH : HoldsK encB 3 w g 0 ps.toArray := by
      intro j hj
      rw [size_flatK] at hj
      have hj' : j < ps.length * 3 := by simpa using hj
      have c1 := World.ownsRow.cellAt hr j hj'
      have c2 := World.ownsRow.frozenAt hr j
      rw [Nat.zero_add]
      refine ⟨?_, c2⟩
      rw [c1, get_flatK _ _ _ _ hj]
      have hd : j / 3 < ps.length := by omega
      have e := flatB_at (ps := ps) (i := j / 3) (p := ps[j / 3]) (List.getElem?_eq_getElem hd)
      have e3 : ps.toArray[j / 3]! = ps[j / 3] := by
        rw [getElem!_pos ps.toArray (j / 3) (by simpa using hd)]
        simp
      rw [e3]
      have h3 : j % 3 = 0 ∨ j % 3 = 1 ∨ j % 3 = 2 := by omega
      rcases h3 with hm | hm | hm
      · have : j = j / 3 * 3 := by omega
        rw [hm]
        conv => lhs; rw [this]
        rw [e.1]
        rfl
      · have : j = j / 3 * 3 + 1 := by omega
        rw [hm]
        conv => lhs; rw [this]
        rw [e.2.1]
        rfl
      · have : j = j / 3 * 3 + 2 := by omega
        rw [hm]
        conv => lhs; rw [this]
        rw [e.2.2]
        rfl
    have hsz : ps.toArray.size = ps.length := by simp
    have eg : ∀ args w, (callFunc 26 args).run Try.prog w = .ok (.enter 26 args) w := enters_of Try.func26 (by kernel_rfl) rfl
    have hcon := AnyQ.slices_SortFunc Try.sortBind 3 Try.isAgg53 Try.sizeOf53 encB (fun _ => rfl) (fun x v hv => by simp [encB] at hv; rcases hv with rfl | rfl | rfl <;> rfl) cfB swoB 26 #[] g 0 cap ps.toArray w eg (cmpLaysB g 0 ps.toArray.size w) hH hlt (by rw [hsz]; omega)
    change Calls Try.prog 25 _ _ _ at hcon
    rw [hsz] at hcon
    refine hcon.mono ?_
    rintro e w' ⟨rfl, d', n, os, hp, hs, rfl⟩
    have hp' : PermIn 0 ps.toArray.size ps.toArray d' := by rw [hsz]; exact hp
    obtain ⟨hds, hperm⟩ := perm_of_permIn hp'
    have hsz' : d'.size = ps.length := by rw [hds, hsz]
    have hpw : d'.toList.Pairwise fun x y => ltB y.1 x.1 = false := pairwise_of_sortedIn (lt := ltOf cfB) hsz'.symm hs
    have hsrt : d'.toList = srt (·.1) ps := srt_unique (fun x : Bd => x.1) hn (by simpa using hperm) hpw
    refine ⟨rfl, below_sortWorld hbg hlt, some ⟨g, 0, none⟩, cap, rfl, ?_, Or.inr ⟨g, 0, rfl, ?_, ?_⟩⟩
    · rw [(srt_perm _ _).length_eq]
      omega
    · exact Nat.lt_of_lt_of_le hlt (below_sortWorld (B := B) (enc := encB) (k := 3) (d := d') (n := n) (os := os) (off := 0) hbg hlt).size
    · intro i p hi
      have hHK := holdsK_sortWorldK encB 3 w g 0 n ps.toArray d' os hlt hH hds
      have hi' : i < d'.size := by
        have := lt_of_at hi
        rw [(srt_perm _ _).length_eq] at this
        omega
      have ep : d'[i]! = p := by
        rw [getElem!_pos d' i hi']
        rw [← hsrt] at hi
        rw [List.getElem?_eq_getElem (by simpa using hi')] at hi
        simpa using hi
      have q0 := (hHK.cell hi' (show 0 < 3 by decide)).1
      have q1 := (hHK.cell hi' (show 1 < 3 by decide)).1
      have q2 := (hHK.cell hi' (show 2 < 3 by decide)).1
      rw [ep] at q0 q1 q2
      exact ⟨q0, q1, q2⟩
end Go.Proofs.Ytckiihbnjfeplaa
