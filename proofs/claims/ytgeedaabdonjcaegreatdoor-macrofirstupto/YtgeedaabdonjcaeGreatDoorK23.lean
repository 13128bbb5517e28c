/- Package rule set: does a template fit? Lists. Package rule set: does a template fit: all; what a growth has in memory. -/
import Derived.Test.YtgeedaabdonjcaeGreatDoorK22
namespace Go.Proofs.YtgeedaabdonjcaeGreatDoor
section
set_option linter.unusedVariables false
set_option linter.unusedSimpArgs false
open Go.RowKit Go.Shelf
attribute [local go_sem] Oper.semAt_some

/-- What is asked of fits. -/
def AskF (B gb vb mb nv L : Nat) (sp lbb : Int) (g : Nat) (v : ByteArray → Nat) (m : ByteArray → List Dat) (l : List Dat) : Prop := ∀ (d : Dat), d ∈ l → ∀ (a : Option Addr) (cap : Nat) (w : World), B ≤ w.heap.size → Lies B w g a d.kids → d.name.size ≤ maxLen → sizeD d ≤ 2000 → rightD v d false = true → Cnt gb vb mb nv L sp lbb v m w →
    Calls Tryz.prog 58 #[.pointer (some ⟨gb, 0, none⟩), dv d a cap] w fun e w' => e = .returned (.bool (fitsD v m d)) ∧ Below w.heap.size w w'

/-- Does one thing of a list fit? -/
def okF (v : ByteArray → Nat) (m : ByteArray → List Dat) (x : Dat × Bool) : Bool := if x.2 then alikeB (cntD v m x.1) else fitsD v m x.1

/-- Between two rounds. -/
def IF (B g gb vb mb nv L : Nat) (sp lbb : Int) (v : ByteArray → Nat) (m : ByteArray → List Dat) (w0 : World) (l : List Dat) (w : World) (D : Array Value) (pre : List (Thing B g w0 l)) (W : World) : Prop :=
  (FW w gb D false W ∧ w0.heap.size ≤ W.heap.size) ∧ Cnt gb vb mb nv L sp lbb v m W ∧ (bareT pre).all (okF v m) = true
/-- Where a thing does not fit. -/
def XF (B g gb : Nat) (v : ByteArray → Nat) (m : ByteArray → List Dat) (w0 : World) (l : List Dat) (w : World) (D : Array Value) (c : Code) (pre : List (Thing B g w0 l)) (W : World) : Prop :=
  c = .ret ∧ FW w gb D false W ∧ (things l).all (okF v m) = false

theorem Cnt.kept {gb vb mb nv L : Nat} {sp lbb : Int} {v : ByteArray → Nat} {m : ByteArray → List Dat} {w w' : World} {row : Option Nat} (h : Cnt gb vb mb nv L sp lbb v m w) (hg : w.grownBy w' row) (h1 : some gb ≠ row) (h2 : some vb ≠ row) (h3 : some mb ≠ row) : Cnt gb vb mb nv L sp lbb v m w' := by
  obtain ⟨q1, q2, ⟨f, q3, q4⟩, q5⟩ := h
  exact ⟨q1.of_block (hg.block gb q1.lt h1) (Nat.lt_of_lt_of_le q1.lt hg.size), q2.kept (hg.block vb q2.lt h2), ⟨f, q3.kept (hg.block mb q3.lt h3), q4⟩, q5⟩
theorem Cnt.lts {gb vb mb nv L : Nat} {sp lbb : Int} {v : ByteArray → Nat} {m : ByteArray → List Dat} {w : World} (h : Cnt gb vb mb nv L sp lbb v m w) : gb < w.heap.size ∧ vb < w.heap.size ∧ mb < w.heap.size := by
  obtain ⟨q1, q2, ⟨f, q3, q4⟩, q5⟩ := h
  exact ⟨q1.lt, q2.lt, q3.lt⟩

set_option maxRecDepth 100000 in
set_option maxHeartbeats 6400000 in
theorem fits_list (B gb vb mb nv L : Nat) (sp lbb0 : Int) (g : Nat) (v : ByteArray → Nat) (m : ByteArray → List Dat) (d : Dat) (a : Option Addr) (cap : Nat) (w : World) (hl : Lies B w (g + 1) a d.kids) (hB : B ≤ w.heap.size) (hz : sizeD d ≤ 2000) (hr : rightD v d false = true) (hC : Cnt gb vb mb nv L sp lbb0 v m w) (h4 : d.kind = 4) (ih : AskF B gb vb mb nv L sp lbb0 g v m d.kids) :
    Calls Tryz.prog 58 #[.pointer (some ⟨gb, 0, none⟩), dv d a cap] w fun e w' => e = .returned (.bool (fitsD v m d)) ∧ Below w.heap.size w w' := by
  obtain ⟨k, n', nm, st, lbb, ks⟩ := d
  simp only at h4 hl ih
  subst h4
  have e1 : fitsD v m ⟨4, n', nm, st, lbb, ks⟩ = (things ks).all (okF v m) := by
    rw [fitsD, if_pos rfl, fitsL_things]
    rfl
  have hsz : ∀ x ∈ ks, sizeD x ≤ 2000 := fun x hx => by
    rw [sizeD, if_pos rfl] at hz
    have := sizeL_mem ks x hx
    omega
  have hrt : ∀ x ∈ things ks, if x.2 then cntD v m x.1 ≠ [] else rightD v x.1 false = true := fun x hx => by
    rw [rightD, if_neg (by decide), if_pos rfl, rightL_things, List.all_eq_true] at hr
    have := hr x hx
    split at this
    · rename_i h
      rw [if_pos h]
      simp at this
      exact cntD_some v m x.1 this.1
    · rename_i h
      rw [if_neg h]
      exact this
  rw [e1]
  clear e1
  have HH : Hid (Lies B w (g + 1) a ks ∧ B ≤ w.heap.size ∧ Cnt gb vb mb nv L sp lbb0 v m w ∧ AskF B gb vb mb nv L sp lbb0 g v m ks ∧ (∀ x ∈ ks, sizeD x ≤ 2000) ∧ ∀ x ∈ things ks, if x.2 then cntD v m x.1 ≠ [] else rightD v x.1 false = true) := ⟨hl, hB, hC, ih, hsz, hrt⟩
  clear hl hB hC ih hz hr hsz hrt
  unfold dv
  simp only
  refine (callsIn_wide (n := 3)).1 ?_
  refine callsIn_of_wp_marks Tryz.func58 rfl trivial ?_ rfl
  simp only [Tryz.ntmps58, List.size_toArray, List.length_cons, List.length_nil, Nat.reduceAdd, Nat.reduceSub, Array.replicate_succ, Array.replicate_zero, List.push_toArray, List.append_toArray, List.nil_append, List.cons_append]
  gi_wp2_with fail
  refine ⟨trivial, (callsIn_wide.2 (things_any a ks.length cap _)).mono ?_⟩
  rintro e w1 ⟨rfl, hw1⟩
  have HW : Hid (FW w gb #[.int .i64 4, .int .i64 n', .string nm, .int .i64 st, .int .i64 lbb, .slice a ks.length cap] false w1 ∧ w1.heap[w.heap.size + 1 + 1 + 1]? = some (.cells #[.slice a ks.length cap] 26 (0, 0)) ∧ B ≤ w1.heap.size ∧ Lies B w1 (g + 1) a ks ∧ Cnt gb vb mb nv L sp lbb0 v m w1 ∧ gb < w1.heap.size ∧ vb < w1.heap.size ∧ mb < w1.heap.size) := by
    have h1 := FW.start w gb #[.int .i64 4, .int .i64 n', .string nm, .int .i64 st, .int .i64 lbb, .slice a ks.length cap] false
    have h2 : FW w gb #[.int .i64 4, .int .i64 n', .string nm, .int .i64 st, .int .i64 lbb, .slice a ks.length cap] false w1 := by
      rw [hw1]
      exact h1.below ((Below.refl _ _).alloc (Nat.le_refl _) _)
    have h3 := HH.out.2.2.1.below h2.old
    refine ⟨h2, ?_, Nat.le_trans HH.out.2.1 h2.old.size, HH.out.1.below (h2.old.mono HH.out.2.1), h3, h3.lts⟩
    rw [hw1]
    have := World.alloc_heap_new (((w.alloc (.cells #[.pointer (some ⟨gb, 0, none⟩)] 114)).alloc (.cells #[.int .i64 4, .int .i64 n', .string nm, .int .i64 st, .int .i64 lbb, .slice a ks.length cap] 28)).alloc (.cells #[.bool false] 4)) (.cells #[.slice a ks.length cap] 26)
    rw [World.size_alloc, World.size_alloc, World.size_alloc] at this
    exact this
  clear hw1
  gi_wp2_with fail
  refine wpIn_rangeFunc_ownH (F := Fence.wide) (n := 3) rfl (by decide) (gf := 112) (lb := #[.pointer (some ⟨w.heap.size + 1 + 1 + 1, 0, none⟩)]) rfl trivial (enters_of Tryz.func112 (by kernel_rfl) rfl)
    (things_stops B g 2 (by decide) (w.heap.size + 1 + 1 + 1) a cap ks w1 HW.out.2.2.2.1 HW.out.2.2.1 HW.out.2.1)
    (fun h k => ⟨Nat.le_trans h.1 k.1, k.2.1.trans h.2.1, h.2.2.trans k.2.2⟩)
    (fun W l o o' hl hW _ _ => ⟨by simp [World.putObj], World.putObj_heap_other (by have := HW.out.1.size; have := (Array.getElem?_eq_some_iff.1 HW.out.2.1).1; omega), fun k hk => World.putObj_heap_other (by have := HW.out.2.2.1; omega)⟩) (Below.refl _ _) (fun _ => rfl)
    (IF B g gb vb mb nv L sp lbb0 v m w1 ks w #[.int .i64 4, .int .i64 n', .string nm, .int .i64 st, .int .i64 lbb, .slice a ks.length cap])
    (XF B g gb v m w1 ks w #[.int .i64 4, .int .i64 n', .string nm, .int .i64 st, .int .i64 lbb, .slice a ks.length cap])
    (fun pre W W' row ⟨h1, h2, h3⟩ hg hr => ⟨⟨h1.1.own hg (fun r e => ⟨Nat.le_trans HW.out.1.old.size (hr r e).1, (hr r e).2⟩), Nat.le_trans h1.2 hg.size⟩, h2.kept hg (fun e => by have := (hr gb e.symm).1; have := HW.out.2.2.2.2.2.1; omega) (fun e => by have := (hr vb e.symm).1; have := HW.out.2.2.2.2.2.2.1; omega) (fun e => by have := (hr mb e.symm).1; have := HW.out.2.2.2.2.2.2.2; omega), h3⟩)
    (fun c pre W W' row ⟨h1, h2, h3⟩ hg hr => ⟨h1, h2.own hg (fun r e => ⟨Nat.le_trans HW.out.1.old.size (hr r e).1, (hr r e).2⟩), h3⟩)
    ⟨⟨HW.out.1, Nat.le_refl _⟩, HW.out.2.2.2.2.1, rfl⟩
    (fun x a' W => ∃ bk, w1.heap.size ≤ bk ∧ a' = { tmps := #[.pointer (some ⟨gb, 0, none⟩), .agg #[.int .i64 4, .int .i64 n', .string nm, .int .i64 st, .int .i64 lbb, .slice a ks.length cap], .pointer (some ⟨w.heap.size, 0, none⟩), .pointer (some ⟨w.heap.size + 1, 0, none⟩), .pointer (some ⟨w.heap.size + 1 + 1, 0, none⟩), .pointer (some ⟨bk, 0, none⟩), .bool x.1.2.2.2, .pointer (some ⟨w.heap.size + 1, 0, none⟩), .int .i64 4, .bool false, .pointer (some ⟨w.heap.size + 1, 5, none⟩), .slice a ks.length cap, .func (.func 112) #[] #[.pointer (some ⟨w.heap.size + 1 + 1 + 1, 0, none⟩)], dv x.1.1 x.1.2.1 x.1.2.2.1, .bool x.1.2.2.2, undef, undef, undef, undef, undef, undef, undef, undef, undef, undef, undef, undef, undef, undef, undef, undef, undef], defers := [] } ∧ W.heap[bk]? = some (.cells #[.int .i64 x.1.1.kind, .int .i64 x.1.1.n, .string x.1.1.name, .int .i64 x.1.1.stamp, .int .i64 x.1.1.lib, .slice x.1.2.1 x.1.1.kids.length x.1.2.2.1] 28 (0, 0)))
    (fun x a' _ W W' row ⟨bk, h1, h2, h3⟩ hg hr => ⟨bk, h1, h2, (hg.block bk (Array.getElem?_eq_some_iff.1 h3).1 (fun e => by obtain ⟨_, o, q1, q2⟩ := hr bk e.symm; rw [h3] at q1; cases q1; cases q2)).trans h3⟩) ?assign ?body ?done ?stop
  case assign =>
    intro l pre x W K hI hK
    simp only [encT, dv]
    gi_wp2
    have hb : Below W.heap.size W (W.alloc (.cells #[.int .i64 x.1.1.kind, .int .i64 x.1.1.n, .string x.1.1.name, .int .i64 x.1.1.stamp, .int .i64 x.1.1.lib, .slice x.1.2.1 x.1.1.kids.length x.1.2.2.1] 28)) := (Below.refl _ _).alloc (Nat.le_refl _) _
    have hbs := (Array.getElem?_eq_some_iff.1 HW.out.2.1).1
    have h12 := hI.1.2
    exact hK _ _ (keeps_below hb _) ⟨hb.size, hb.block _ (by omega), fun k hk => hb.block k (by have := HW.out.2.2.1; omega)⟩ ⟨⟨hI.1.1.below hb, Nat.le_trans hI.1.2 hb.size⟩, hI.2.1.below hb, hI.2.2⟩ ⟨W.heap.size, hI.1.2, rfl, World.alloc_heap_new _ _⟩
  case body =>
    rintro l pre x a' W hl ⟨r, hr⟩ ⟨⟨hRW, hs0⟩, hMW, hall⟩ ⟨bk, hbk, rfl, hbx⟩ hlen
    have hp2 : bareT (pre ++ [x]) = bareT pre ++ [(x.1.1, x.1.2.2.2)] := by simp [bareT]
    generalize pre ++ [x] = pre2 at hp2 ⊢
    obtain ⟨⟨xd, xa, xc, xt⟩, hx1, hx2, hx3⟩ := x
    simp only [dv] at hx1 hx2 hx3 hbx hp2 ⊢
    have hbs := (Array.getElem?_eq_some_iff.1 HW.out.2.1).1
    have hBw := HW.out.2.2.1
    have HX : Hid (Lies B W g xa xd.kids ∧ xd.name.size ≤ maxLen ∧ (xd, xt) ∈ things ks ∧ xd ∈ ks ∧ B ≤ W.heap.size) :=
      ⟨Lies.stay (fun k hk => (hRW.old.block k (by have := HH.out.2.1; omega)).trans (HW.out.1.old.block k (by have := HH.out.2.1; omega)).symm) _ _ _ hx1, hx2, hx3, things_mem ks _ hx3, by omega⟩
    have HI : Hid (FW w gb #[.int .i64 4, .int .i64 n', .string nm, .int .i64 st, .int .i64 lbb, .slice a ks.length cap] false W ∧ Cnt gb vb mb nv L sp lbb0 v m W ∧ (bareT pre).all (okF v m) = true ∧ w1.heap.size ≤ W.heap.size) := ⟨hRW, hMW, hall, hs0⟩
    have c0 := hRW.cell0
    have d0 : W.cell? ⟨bk, 0, none⟩ = some (.int .i64 xd.kind) := by simp [World.cell?, hbx]
    have d1 : W.cell? ⟨bk, 1, none⟩ = some (.int .i64 xd.n) := by simp [World.cell?, hbx]
    have d2 : W.cell? ⟨bk, 2, none⟩ = some (.string xd.name) := by simp [World.cell?, hbx]
    have d3 : W.cell? ⟨bk, 3, none⟩ = some (.int .i64 xd.stamp) := by simp [World.cell?, hbx]
    have d4 : W.cell? ⟨bk, 4, none⟩ = some (.int .i64 xd.lib) := by simp [World.cell?, hbx]
    have d5 : W.cell? ⟨bk, 5, none⟩ = some (.slice xa xd.kids.length xc) := by simp [World.cell?, hbx]
    have HBX := hidd hbx
    have hbkl := (Array.getElem?_eq_some_iff.1 hbx).1
    clear hx1 hx2 hx3 hRW hMW hall hbx
    have NX : Hid (∀ W', Below W.heap.size W W' → okF v m (xd, xt) = true → KeepsFrom w1.heap.size W W' ∧ KpT B (w.heap.size + 1 + 1 + 1) W W' ∧ IF B g gb vb mb nv L sp lbb0 v m w1 ks w #[.int .i64 4, .int .i64 n', .string nm, .int .i64 st, .int .i64 lbb, .slice a ks.length cap] pre2 W') := by
      intro W' hb ho
      refine ⟨keeps_below hb _, ⟨hb.size, hb.block _ (by omega), fun k hk => hb.block k (by omega)⟩, ⟨HI.out.1.below hb, Nat.le_trans hs0 hb.size⟩, HI.out.2.1.below hb, ?_⟩
      rw [hp2, List.all_append, HI.out.2.2.1]
      simp [ho]
    have SX : Hid (∀ W', Below W.heap.size W W' → okF v m (xd, xt) = false → KeepsFrom w1.heap.size W (W'.setCell ⟨w.heap.size + 1 + 1, 0, none⟩ (.bool false)) ∧ XF B g gb v m w1 ks w #[.int .i64 4, .int .i64 n', .string nm, .int .i64 st, .int .i64 lbb, .slice a ks.length cap] .ret pre2 (W'.setCell ⟨w.heap.size + 1 + 1, 0, none⟩ (.bool false))) := by
      intro W' hb ho
      refine ⟨⟨?_, fun k o hk1 hk2 hk3 => ?_⟩, rfl, (HI.out.1.below hb).set false, ?_⟩
      · have := hb.size
        simp [World.setCell]
        exact this
      · rw [Below.heap_setCell _ _ _ _ (by show k ≠ w.heap.size + 1 + 1; omega)]
        exact (hb.block k (Array.getElem?_eq_some_iff.1 hk2).1).trans hk2
      · rw [List.all_eq_false]
        exact ⟨(xd, xt), HX.out.2.2.1, by simp [ho]⟩
    have MA : Hid (xt = true → Calls Tryz.prog 87 #[.pointer (some ⟨gb, 0, none⟩), dv xd xa xc] W fun e w' => e = .returned (.bool (alikeB (cntD v m xd))) ∧ Below W.heap.size W w') := fun hx =>
      alike_any B gb vb mb nv L sp lbb0 v m g xd xa xc W HX.out.2.2.2.2 HX.out.1 HX.out.2.1 (HH.out.2.2.2.2.1 xd HX.out.2.2.2.1) HI.out.2.1 (by have := HH.out.2.2.2.2.2 (xd, xt) HX.out.2.2.1; rw [if_pos hx] at this; exact this)
    have RA : Hid (xt = false → Calls Tryz.prog 58 #[.pointer (some ⟨gb, 0, none⟩), dv xd xa xc] W fun e w' => e = .returned (.bool (fitsD v m xd)) ∧ Below W.heap.size W w') := fun hx =>
      HH.out.2.2.2.1 xd HX.out.2.2.2.1 xa xc W HX.out.2.2.2.2 HX.out.1 HX.out.2.1 (HH.out.2.2.2.2.1 xd HX.out.2.2.2.1) (by have := HH.out.2.2.2.2.2 (xd, xt) HX.out.2.2.1; rw [if_neg (by simp [hx])] at this; exact this) HI.out.2.1
    have TH : Hid (∀ W', Below W.heap.size W W' → W'.frozen? ⟨w.heap.size + 1 + 1, 0, none⟩ = false ∧ W'.cell? ⟨w.heap.size + 1 + 1, 0, none⟩ = some (.bool false)) := fun W' hb =>
      ⟨(HI.out.1.below hb).thaw2, (HI.out.1.below hb).cell2⟩
    unfold dv at MA RA
    have HP2 := hidd hp2
    clear hp2 hlen hr
    cases xt with
    | false =>
      have HO : Hid (okF v m (xd, false) = fitsD v m xd) := rfl
      have R1 := hidd (RA.out rfl)
      clear RA MA
      generalize fitsD v m xd = y at HO R1
      gi_wp2_with fail
      all_goals try (rename_i b hu hb; exact absurd hu (by simp [undef]))
      refine ⟨trivial, ?_⟩
      gi_wp2_with fail
      refine ⟨trivial, (CallsIn.inRound l (callsIn_wide.2 R1.out)).mono ?_⟩
      rintro e W2 ⟨rfl, hb2⟩
      have HB2 := hidd hb2
      obtain ⟨z3, c3⟩ := TH.out W2 hb2
      clear hb2
      cases y with
      | true =>
        gi_wp2_with fail
        exact NX.out W2 HB2.out HO.out
      | false =>
        gi_wp2_with fail
        exact SX.out W2 HB2.out HO.out
    | true =>
      have HO : Hid (okF v m (xd, true) = alikeB (cntD v m xd)) := rfl
      have M1 := hidd (MA.out rfl)
      clear MA RA
      generalize alikeB (cntD v m xd) = y at HO M1
      gi_wp2_with fail
      refine ⟨trivial, (CallsIn.inRound l (callsIn_wide.2 M1.out)).mono ?_⟩
      rintro e W2 ⟨rfl, hb2⟩
      have HB2 := hidd hb2
      obtain ⟨z3, c3⟩ := TH.out W2 hb2
      clear hb2
      cases y with
      | true =>
        gi_wp2_with fail
        all_goals try (rename_i b hu hb; exact absurd hu (by simp [undef]))
        refine ⟨trivial, ?_⟩
        gi_wp2_with fail
        exact NX.out W2 HB2.out HO.out
      | false =>
        gi_wp2_with fail
        all_goals try (rename_i b hu hb; exact absurd hu (by simp [undef]))
        refine ⟨trivial, ?_⟩
        gi_wp2_with fail
        exact SX.out W2 HB2.out HO.out
  case done =>
    rintro Dd ys W hD hys ⟨⟨hRW, hs0⟩, hMW, hall⟩ hK
    have HF : Hid ((things ks).all (okF v m) = true) := by
      show (things ks).all (okF v m) = true
      rw [← hys]
      exact hall
    have z3 := hRW.thaw2
    have c3 := hRW.cell2
    have HRW := hidd hRW
    clear hRW hMW hall hys
    gi_wp2
    have hK2 : (W.setCell ⟨w.heap.size + 1 + 1, 0, none⟩ (.bool true)).heap[Dd]? = some (.deferred (some [])) := (Below.heap_setCell _ _ _ _ (by show Dd ≠ w.heap.size + 1 + 1; have := HW.out.1.size; omega)).trans hK
    refine ⟨by simp, .inl ⟨_, _, rfl, run_takeDeferred hK2, ?_⟩⟩
    have h2 := (HRW.out.set true).put (Dd := Dd) (by have := HW.out.1.size; omega) (.deferred none)
    exact ⟨_, ret58 _ _ _ _ rfl h2.cell2, by rw [HF.out], h2.old⟩
  case stop =>
    rintro Dd c pre W hD _ ⟨rfl, hRW, hall⟩ hK
    have HF := hidd hall
    have HRW := hidd hRW
    clear hRW hall
    gi_wp2
    refine ⟨by simp, .inl ⟨_, _, rfl, run_takeDeferred hK, ?_⟩⟩
    have h2 := HRW.out.put (Dd := Dd) (by have := HW.out.1.size; omega) (.deferred none)
    exact ⟨_, ret58 _ _ _ _ rfl h2.cell2, by rw [HF.out], h2.old⟩
end
section
set_option linter.unusedVariables false
set_option linter.unusedSimpArgs false
open Go.RowKit Go.Maps Go.WideMaps

/-- DOES A TEMPLATE FIT? -/
theorem fits_any (B gb vb mb nv L : Nat) (sp lbb : Int) (v : ByteArray → Nat) (m : ByteArray → List Dat) : ∀ (g : Nat) (d : Dat) (a : Option Addr) (cap : Nat) (w : World), B ≤ w.heap.size → Lies B w g a d.kids → d.name.size ≤ maxLen → sizeD d ≤ 2000 → rightD v d false = true → Cnt gb vb mb nv L sp lbb v m w →
    Calls Tryz.prog 58 #[.pointer (some ⟨gb, 0, none⟩), dv d a cap] w fun e w' => e = .returned (.bool (fitsD v m d)) ∧ Below w.heap.size w w' := by
  intro g
  induction g with
  | zero =>
    intro d a cap w hB hl hs hz hr hC
    by_cases h4 : d.kind = 4
    · refine fits_list B gb vb mb nv L sp lbb 0 v m d a cap w (Lies.more 0 a _ hl) hB hz hr hC h4 fun d' hd => ?_
      rw [show d.kids = [] from hl] at hd
      cases hd
    · exact fits_else gb v m d a cap w h4
  | succ g ih =>
    intro d a cap w hB hl hs hz hr hC
    by_cases h4 : d.kind = 4
    · exact fits_list B gb vb mb nv L sp lbb g v m d a cap w hl hB hz hr hC h4 fun d' _ a cap w hB hl hs hz hr hC => ih d' a cap w hB hl hs hz hr hC
    · exact fits_else gb v m d a cap w h4

/-- What a growth has in memory. -/
structure Gst (B gm gb vb mb nv L : Nat) (sp lbb : Int) (v : ByteArray → Nat) (m : ByteArray → List Dat) (w : World) : Prop where
  grw : Grw gb vb mb sp lbb w
  vars : MapN vb nv v w
  met : ∃ o, Met mb B gm L m o w ∧ ¬ o gb
  few : ∀ s, (m s).length ≤ 2000
  small : ∀ s, ∀ d ∈ m s, smD d
  nvb : vb ≠ gb
  nmb : mb ≠ gb
  hB : B ≤ gb

theorem flat_at {e : Dat × Option Addr × Nat} : ∀ (l : List (Dat × Option Addr × Nat)) (i : Nat), l[i]? = some e → ∀ k, k < 6 → (flat l)[i * 6 + k]? = [Value.int .i64 e.1.kind, .int .i64 e.1.n, .string e.1.name, .int .i64 e.1.stamp, .int .i64 e.1.lib, .slice e.2.1 e.1.kids.length e.2.2][k]? := by
  intro l
  induction l with
  | nil => intro i hi; simp at hi
  | cons x r ih =>
    intro i hi k hk
    have e1 : flat (x :: r) = [Value.int .i64 x.1.kind, .int .i64 x.1.n, .string x.1.name, .int .i64 x.1.stamp, .int .i64 x.1.lib, .slice x.2.1 x.1.kids.length x.2.2] ++ flat r := by simp [flat]
    rw [e1]
    cases i with
    | zero =>
      simp at hi
      subst hi
      rw [List.getElem?_append_left (by simp; omega)]
      simp
    | succ i =>
      rw [List.getElem?_append_right (by simp; omega)]
      have := ih i (by simpa using hi) k hk
      rw [← this]
      congr 1
      simp
      omega

section
variable {B gm gb vb mb nv L : Nat} {sp lbb : Int} {v : ByteArray → Nat} {m : ByteArray → List Dat} {w w' : World}
theorem Gst.kp (h : Gst B gm gb vb mb nv L sp lbb v m w) (k : Kp gb w w') : Gst B gm gb vb mb nv L sp lbb v m w' := by
  obtain ⟨h1, h2, ⟨o, ⟨f, E, m1, m2, m3, m4, m5, m6, m7⟩, ho⟩, h4, h5, h6, h7, h8⟩ := h
  refine ⟨⟨k.lt', (k.rest 1 (by decide)).trans h1.c1, (k.rest 2 (by decide)).trans h1.c2, (k.rest 3 (by decide)).trans h1.c3, (k.rest 4 (by decide)).trans h1.c4⟩, h2.kept (k.keep.block vb h2.lt (by simpa using h6)), ⟨o, ⟨f, E, m1.kept (k.keep.block mb m1.lt (by simpa using h7)), m2, fun s => (m3 s).kept k.keep ?_, fun s e he => ?_, m5, m6, m7⟩, ho⟩, h4, h5, h6, h7, h8⟩
  · cases hv : (f s).ownBlock with
    | none => exact Or.inl rfl
    | some q =>
      refine Or.inr fun e => ho ((m7 gb).2 ⟨s, ?_⟩)
      rw [hv]
      exact e
  · obtain ⟨q1, q2, q3⟩ := m4 s e he
    exact ⟨q1, q2, q3.stay fun j hj => k.keep.block j (by have := k.lt; omega) (by simp; omega)⟩
theorem Gst.below (h : Gst B gm gb vb mb nv L sp lbb v m w) (k : Below w.heap.size w w') : Gst B gm gb vb mb nv L sp lbb v m w' := h.kp ((Kp.refl h.grw.lt).below k)
theorem Gst.cnt (h : Gst B gm gb vb mb nv L sp lbb v m w) : Cnt gb vb mb nv L sp lbb v m w := by
  obtain ⟨h1, h2, ⟨o, ⟨f, E, m1, m2, m3, m4, m5, m6, m7⟩, ho⟩, h4, h5, h6, h7, h8⟩ := h
  refine ⟨h1, h2, ⟨f, m1, fun s => ?_⟩, h4⟩
  have hl : (m s).length = (E s).length := by rw [← m2 s]; simp
  rcases (m3 s).2 with ⟨hv, h0⟩ | ⟨g, cap, cur, hv, _⟩
  · exact ⟨none, 0, by rw [hv, hl, h0]⟩
  · exact ⟨some ⟨g, 0, none⟩, cap, by rw [hv, hl]⟩
/-- The ith that a variable met. -/
theorem Gst.entry (h : Gst B gm gb vb mb nv L sp lbb v m w) {s : ByteArray} (hs : s.size ≤ maxLen) {i : Nat} {d : Dat} (hd : (m s)[i]? = some d) :
    ∃ gg c da dc, (∀ w', Below w.heap.size w w' → (Instr.lookup 69 (.map (some mb)) (.string s) false).run Tryz.prog w' = .ok (.slice (some ⟨gg, 0, none⟩) (m s).length c) w') ∧ gg ≠ gb ∧ gg < w.heap.size ∧
      w.cell? ⟨gg, i * 6, none⟩ = some (.int .i64 d.kind) ∧ w.cell? ⟨gg, i * 6 + 1, none⟩ = some (.int .i64 d.n) ∧ w.cell? ⟨gg, i * 6 + 2, none⟩ = some (.string d.name) ∧ w.cell? ⟨gg, i * 6 + 3, none⟩ = some (.int .i64 d.stamp) ∧ w.cell? ⟨gg, i * 6 + 4, none⟩ = some (.int .i64 d.lib) ∧ w.cell? ⟨gg, i * 6 + 5, none⟩ = some (.slice da d.kids.length dc) ∧
      d.name.size ≤ maxLen ∧ LC B w gm da d.kids ∧ smD d := by
  obtain ⟨h1, h2, ⟨o, ⟨f, E, m1, m2, m3, m4, m5, m6, m7⟩, ho⟩, h4, h5, h6, h7, h8⟩ := h
  have hl : (m s).length = (E s).length := by rw [← m2 s]; simp
  rw [← m2 s, List.getElem?_map] at hd
  obtain ⟨e, he, rfl⟩ := Option.map_eq_some_iff.1 hd
  have hmem : e ∈ E s := List.mem_of_getElem? he
  rcases (m3 s).2 with ⟨hv, h0⟩ | ⟨gg, cap, cur, hv, hb, hcur, _⟩
  · rw [List.length_eq_zero_iff.1 h0] at he
    simp at he
  · have hown := m3 s
    rw [hv] at hown
    have hcell : ∀ k u, k < 6 → [Value.int .i64 e.1.kind, .int .i64 e.1.n, .string e.1.name, .int .i64 e.1.stamp, .int .i64 e.1.lib, .slice e.2.1 e.1.kids.length e.2.2][k]? = some u → w.cell? ⟨gg, i * 6 + k, none⟩ = some u := by
      intro k u hk hu
      have := hown.cells (g := gg) rfl (i * 6 + k) u ((flat_at (E s) i he k hk).trans hu)
      rwa [addr_add] at this
    obtain ⟨q1, q2, q3⟩ := m4 s e hmem
    refine ⟨gg, cap, e.2.1, e.2.2, ?_, ?_, (Array.getElem?_eq_some_iff.1 hcur).1, hcell 0 _ (by decide) rfl, hcell 1 _ (by decide) rfl, hcell 2 _ (by decide) rfl, hcell 3 _ (by decide) rfl, hcell 4 _ (by decide) rfl, hcell 5 _ (by decide) rfl, q1, q3, h5 s e.1 (by rw [← m2 s]; exact List.mem_map.2 ⟨e, hmem, rfl⟩)⟩
    · intro w' hbw
      have := (m1.kept (hbw.block mb m1.lt)).run s hs
      rw [hv] at this
      rw [hl]
      exact this
    · intro eq
      exact ho ((m7 gb).2 ⟨s, by rw [hv, ← eq]; rfl⟩)
end
end
end Go.Proofs.YtgeedaabdonjcaeGreatDoor
