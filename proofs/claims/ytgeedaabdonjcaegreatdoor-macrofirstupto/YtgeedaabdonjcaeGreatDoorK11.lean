/- Package rule set: is a template right? Lists. Data that lie in memory, with room; a rule's pattern. -/
import Derived.Test.YtgeedaabdonjcaeGreatDoorK10
namespace Go.Proofs.YtgeedaabdonjcaeGreatDoor
section
set_option linter.unusedVariables false
set_option linter.unusedSimpArgs false
open Go.RowKit Go.Shelf
attribute [local go_sem] Oper.semAt_some

theorem RW.put {w W : World} {vb : Nat} {D : Array Value} {wi res : Bool} (h : RW w vb D wi res W) {Dd : Nat} (hd : w.heap.size + 1 + 1 + 1 + 1 ≤ Dd) (o : Obj) : RW w vb D wi res (W.putObj Dd o) := by
  have e : ∀ k, k < Dd → (W.putObj Dd o).heap[k]? = W.heap[k]? := fun k hk => World.putObj_heap_other (by omega)
  exact ⟨⟨h.old.os, h.old.tape, h.old.output, by simp [World.putObj]; exact h.old.size, fun k hk => (e k (by omega)).trans (h.old.block k hk)⟩, (e _ (by omega)).trans h.b0, (e _ (by omega)).trans h.b1, (e _ (by omega)).trans h.b2, (e _ (by omega)).trans h.b3⟩

/-- What is asked of right. -/
def AskR (B vb n g : Nat) (v : ByteArray → Nat) (l : List Dat) : Prop := ∀ (d : Dat), d ∈ l → ∀ (a : Option Addr) (cap : Nat) (wi : Bool) (w : World), B ≤ w.heap.size → Lies B w g a d.kids → d.name.size ≤ maxLen → MapN vb n v w →
    Calls Tryz.prog 62 #[.map (some vb), dv d a cap, .bool wi] w fun e w' => e = .returned (.bool (rightD v d wi)) ∧ Below w.heap.size w w'

theorem keeps_below {W W' : World} (h : Below W.heap.size W W') (B : Nat) : KeepsFrom B W W' := ⟨h.size, fun k o _ hk _ => (h.block k (Array.getElem?_eq_some_iff.1 hk).1).trans hk⟩

/-- One thing of a list, is it right? -/
def okT (v : ByteArray → Nat) (wi : Bool) (x : Dat × Bool) : Bool := if x.2 then !wi && manyD v x.1 && rightD v x.1 true else rightD v x.1 wi

/-- Between two rounds. -/
def IR (B g vb n : Nat) (v : ByteArray → Nat) (w0 : World) (l : List Dat) (w : World) (D : Array Value) (wi : Bool) (pre : List (Thing B g w0 l)) (W : World) : Prop :=
  (RW w vb D wi false W ∧ w0.heap.size ≤ W.heap.size) ∧ MapN vb n v W ∧ (bareT pre).all (okT v wi) = true
/-- Where a thing is not right. -/
def XR (B g vb : Nat) (v : ByteArray → Nat) (w0 : World) (l : List Dat) (w : World) (D : Array Value) (wi : Bool) (c : Code) (pre : List (Thing B g w0 l)) (W : World) : Prop :=
  c = .ret ∧ RW w vb D wi false W ∧ (things l).all (okT v wi) = false

set_option maxRecDepth 100000 in
set_option maxHeartbeats 6400000 in
theorem right_list (B vb n g : Nat) (v : ByteArray → Nat) (d : Dat) (a : Option Addr) (cap : Nat) (wi : Bool) (w : World) (hl : Lies B w (g + 1) a d.kids) (hB : B ≤ w.heap.size) (hM : MapN vb n v w) (h4 : d.kind = 4) (ih : AskR B vb n g v d.kids) :
    Calls Tryz.prog 62 #[.map (some vb), dv d a cap, .bool wi] w fun e w' => e = .returned (.bool (rightD v d wi)) ∧ Below w.heap.size w w' := by
  obtain ⟨k, n', nm, st, lbb, ks⟩ := d
  simp only at h4 hl ih
  subst h4
  have e1 : rightD v ⟨4, n', nm, st, lbb, ks⟩ wi = (things ks).all (okT v wi) := by
    rw [rightD, if_neg (by decide), if_pos rfl, rightL_things]
    rfl
  rw [e1]
  clear e1
  have HH : Hid (Lies B w (g + 1) a ks ∧ B ≤ w.heap.size ∧ MapN vb n v w ∧ AskR B vb n g v ks) := ⟨hl, hB, hM, ih⟩
  clear hl hB hM ih
  unfold dv
  simp only
  refine (callsIn_wide (n := 3)).1 ?_
  refine callsIn_of_wp_marks Tryz.func62 rfl trivial ?_ rfl
  simp only [Tryz.ntmps62, List.size_toArray, List.length_cons, List.length_nil, Nat.reduceAdd, Nat.reduceSub, Array.replicate_succ, Array.replicate_zero, List.push_toArray, List.append_toArray, List.nil_append, List.cons_append]
  gi_wp2_with fail
  refine ⟨trivial, (callsIn_wide.2 (things_any a ks.length cap _)).mono ?_⟩
  rintro e w1 ⟨rfl, hw1⟩
  have HW : Hid (RW w vb #[.int .i64 4, .int .i64 n', .string nm, .int .i64 st, .int .i64 lbb, .slice a ks.length cap] wi false w1 ∧ w1.heap[w.heap.size + 1 + 1 + 1 + 1]? = some (.cells #[.slice a ks.length cap] 26 (0, 0)) ∧ B ≤ w1.heap.size ∧ Lies B w1 (g + 1) a ks ∧ MapN vb n v w1 ∧ vb < w1.heap.size) := by
    have h1 := RW.start w vb #[.int .i64 4, .int .i64 n', .string nm, .int .i64 st, .int .i64 lbb, .slice a ks.length cap] wi false
    have h2 : RW w vb #[.int .i64 4, .int .i64 n', .string nm, .int .i64 st, .int .i64 lbb, .slice a ks.length cap] wi false w1 := by
      rw [hw1]
      exact h1.below ((Below.refl _ _).alloc (Nat.le_refl _) _)
    refine ⟨h2, ?_, Nat.le_trans HH.out.2.1 h2.old.size, HH.out.1.below (h2.old.mono HH.out.2.1), HH.out.2.2.1.below h2.old, Nat.lt_of_lt_of_le HH.out.2.2.1.lt h2.old.size⟩
    rw [hw1]
    have := World.alloc_heap_new ((((w.alloc (.cells #[.map (some vb)] 74)).alloc (.cells #[.int .i64 4, .int .i64 n', .string nm, .int .i64 st, .int .i64 lbb, .slice a ks.length cap] 28)).alloc (.cells #[.bool wi] 4)).alloc (.cells #[.bool false] 4)) (.cells #[.slice a ks.length cap] 26)
    rw [World.size_alloc, World.size_alloc, World.size_alloc, World.size_alloc] at this
    exact this
  clear hw1
  gi_wp2_with fail
  refine wpIn_rangeFunc_ownH (F := Fence.wide) (n := 3) rfl (by decide) (gf := 112) (lb := #[.pointer (some ⟨w.heap.size + 1 + 1 + 1 + 1, 0, none⟩)]) rfl trivial (enters_of Tryz.func112 (by kernel_rfl) rfl)
    (things_stops B g 2 (by decide) (w.heap.size + 1 + 1 + 1 + 1) a cap ks w1 HW.out.2.2.2.1 HW.out.2.2.1 HW.out.2.1)
    (fun h k => ⟨Nat.le_trans h.1 k.1, k.2.1.trans h.2.1, h.2.2.trans k.2.2⟩)
    (fun W l o o' hl hW _ _ => ⟨by simp [World.putObj], World.putObj_heap_other (by have := HW.out.1.size; have := (Array.getElem?_eq_some_iff.1 HW.out.2.1).1; omega), fun k hk => World.putObj_heap_other (by have := HW.out.2.2.1; omega)⟩) (Below.refl _ _) (fun _ => rfl)
    (IR B g vb n v w1 ks w #[.int .i64 4, .int .i64 n', .string nm, .int .i64 st, .int .i64 lbb, .slice a ks.length cap] wi)
    (XR B g vb v w1 ks w #[.int .i64 4, .int .i64 n', .string nm, .int .i64 st, .int .i64 lbb, .slice a ks.length cap] wi)
    (fun pre W W' row ⟨h1, h2, h3⟩ hg hr => ⟨⟨h1.1.own hg (fun r e => ⟨Nat.le_trans HW.out.1.old.size (hr r e).1, (hr r e).2⟩), Nat.le_trans h1.2 hg.size⟩, h2.kept (hg.block vb h2.lt (fun e => by have := (hr vb e.symm).1; have := HW.out.2.2.2.2.2; omega)), h3⟩)
    (fun c pre W W' row ⟨h1, h2, h3⟩ hg hr => ⟨h1, h2.own hg (fun r e => ⟨Nat.le_trans HW.out.1.old.size (hr r e).1, (hr r e).2⟩), h3⟩)
    ⟨⟨HW.out.1, Nat.le_refl _⟩, HW.out.2.2.2.2.1, rfl⟩
    (fun x a' W => ∃ bk, w1.heap.size ≤ bk ∧ a' = { tmps := #[.map (some vb), .agg #[.int .i64 4, .int .i64 n', .string nm, .int .i64 st, .int .i64 lbb, .slice a ks.length cap], .bool wi, .pointer (some ⟨w.heap.size, 0, none⟩), .pointer (some ⟨w.heap.size + 1, 0, none⟩), .pointer (some ⟨w.heap.size + 1 + 1, 0, none⟩), .pointer (some ⟨w.heap.size + 1 + 1 + 1, 0, none⟩), .pointer (some ⟨bk, 0, none⟩), .bool x.1.2.2.2, .pointer (some ⟨w.heap.size + 1, 0, none⟩), .int .i64 4, .bool false, .bool false, undef, undef, undef, undef, undef, undef, undef, undef, undef, undef, undef, undef, undef, .bool true, .bool true, .pointer (some ⟨w.heap.size + 1, 5, none⟩), .slice a ks.length cap, .func (.func 112) #[] #[.pointer (some ⟨w.heap.size + 1 + 1 + 1 + 1, 0, none⟩)], dv x.1.1 x.1.2.1 x.1.2.2.1, .bool x.1.2.2.2, undef, undef, undef, undef, undef, undef, undef, undef, undef, undef, undef, undef, undef, undef, undef, undef, undef, undef, undef, undef], defers := [] } ∧ W.heap[bk]? = some (.cells #[.int .i64 x.1.1.kind, .int .i64 x.1.1.n, .string x.1.1.name, .int .i64 x.1.1.stamp, .int .i64 x.1.1.lib, .slice x.1.2.1 x.1.1.kids.length x.1.2.2.1] 28 (0, 0)))
    (fun x a' _ W W' row ⟨bk, h1, h2, h3⟩ hg hr => ⟨bk, h1, h2, (hg.block bk (Array.getElem?_eq_some_iff.1 h3).1 (fun e => by obtain ⟨_, o, q1, q2⟩ := hr bk e.symm; rw [h3] at q1; cases q1; cases q2)).trans h3⟩) ?assign ?body ?done ?stop
  case assign =>
    intro l pre x W K hI hK
    simp only [encT, dv]
    gi_wp2
    have hb : Below W.heap.size W (W.alloc (.cells #[.int .i64 x.1.1.kind, .int .i64 x.1.1.n, .string x.1.1.name, .int .i64 x.1.1.stamp, .int .i64 x.1.1.lib, .slice x.1.2.1 x.1.1.kids.length x.1.2.2.1] 28)) := (Below.refl _ _).alloc (Nat.le_refl _) _
    have hbs := (Array.getElem?_eq_some_iff.1 HW.out.2.1).1
    have h12 := hI.1.2
    exact hK _ _ (keeps_below hb _) ⟨hb.size, hb.block _ (by omega), fun k hk => hb.block k (by have := HW.out.2.2.1; omega)⟩ ⟨⟨hI.1.1.below hb, Nat.le_trans hI.1.2 hb.size⟩, hI.2.1.below hb, hI.2.2⟩ ⟨W.heap.size, hI.1.2, rfl, World.alloc_heap_new _ _⟩
  case body =>
    rintro l pre x a' W hl ⟨r, hr⟩ ⟨⟨hRW, hs0⟩, hMW, hall⟩ ⟨bk, hbk, rfl, hbx⟩ hlen
    have hp2 : bareT (pre ++ [x]) = bareT pre ++ [(x.1.1, x.1.2.2.2)] := by simp [bareT]
    generalize pre ++ [x] = pre2 at hp2 ⊢
    obtain ⟨⟨xd, xa, xc, xt⟩, hx1, hx2, hx3⟩ := x
    simp only [dv] at hx1 hx2 hx3 hbx hp2 ⊢
    have hbs := (Array.getElem?_eq_some_iff.1 HW.out.2.1).1
    have hBw := HW.out.2.2.1
    have HX : Hid (Lies B W g xa xd.kids ∧ xd.name.size ≤ maxLen ∧ (xd, xt) ∈ things ks ∧ xd ∈ ks ∧ B ≤ W.heap.size) :=
      ⟨Lies.stay (fun k hk => (hRW.old.block k (by have := HH.out.2.1; omega)).trans (HW.out.1.old.block k (by have := HH.out.2.1; omega)).symm) _ _ _ hx1, hx2, hx3, things_mem ks _ hx3, by omega⟩
    have HI : Hid (RW w vb #[.int .i64 4, .int .i64 n', .string nm, .int .i64 st, .int .i64 lbb, .slice a ks.length cap] wi false W ∧ MapN vb n v W ∧ (bareT pre).all (okT v wi) = true ∧ w1.heap.size ≤ W.heap.size) := ⟨hRW, hMW, hall, hs0⟩
    have c0 := hRW.cell0
    have c2 := hRW.cell2
    have d0 : W.cell? ⟨bk, 0, none⟩ = some (.int .i64 xd.kind) := by simp [World.cell?, hbx]
    have d1 : W.cell? ⟨bk, 1, none⟩ = some (.int .i64 xd.n) := by simp [World.cell?, hbx]
    have d2 : W.cell? ⟨bk, 2, none⟩ = some (.string xd.name) := by simp [World.cell?, hbx]
    have d3 : W.cell? ⟨bk, 3, none⟩ = some (.int .i64 xd.stamp) := by simp [World.cell?, hbx]
    have d4 : W.cell? ⟨bk, 4, none⟩ = some (.int .i64 xd.lib) := by simp [World.cell?, hbx]
    have d5 : W.cell? ⟨bk, 5, none⟩ = some (.slice xa xd.kids.length xc) := by simp [World.cell?, hbx]
    have HBX := hidd hbx
    have hbkl := (Array.getElem?_eq_some_iff.1 hbx).1
    clear hx1 hx2 hx3 hRW hMW hall hbx
    have NX : Hid (∀ W', Below W.heap.size W W' → okT v wi (xd, xt) = true → KeepsFrom w1.heap.size W W' ∧ KpT B (w.heap.size + 1 + 1 + 1 + 1) W W' ∧ IR B g vb n v w1 ks w #[.int .i64 4, .int .i64 n', .string nm, .int .i64 st, .int .i64 lbb, .slice a ks.length cap] wi pre2 W') := by
      intro W' hb ho
      refine ⟨keeps_below hb _, ⟨hb.size, hb.block _ (by omega), fun k hk => hb.block k (by omega)⟩, ⟨HI.out.1.below hb, Nat.le_trans hs0 hb.size⟩, HI.out.2.1.below hb, ?_⟩
      rw [hp2, List.all_append, HI.out.2.2.1]
      simp [ho]
    have SX : Hid (∀ W', Below W.heap.size W W' → okT v wi (xd, xt) = false → KeepsFrom w1.heap.size W (W'.setCell ⟨w.heap.size + 1 + 1 + 1, 0, none⟩ (.bool false)) ∧ XR B g vb v w1 ks w #[.int .i64 4, .int .i64 n', .string nm, .int .i64 st, .int .i64 lbb, .slice a ks.length cap] wi .ret pre2 (W'.setCell ⟨w.heap.size + 1 + 1 + 1, 0, none⟩ (.bool false))) := by
      intro W' hb ho
      refine ⟨⟨?_, fun k o hk1 hk2 hk3 => ?_⟩, rfl, (HI.out.1.below hb).set false, ?_⟩
      · have := hb.size
        simp [World.setCell]
        exact this
      · rw [Below.heap_setCell _ _ _ _ (by show k ≠ w.heap.size + 1 + 1 + 1; omega)]
        exact (hb.block k (Array.getElem?_eq_some_iff.1 hk2).1).trans hk2
      · rw [List.all_eq_false]
        exact ⟨(xd, xt), HX.out.2.2.1, by simp [ho]⟩
    have MA : Hid (∀ W', Below W.heap.size W W' → Calls Tryz.prog 93 #[.map (some vb), dv xd xa xc] W' fun e w' => e = .returned (.bool (manyD v xd)) ∧ Below W'.heap.size W' w') := fun W' hb =>
      hasMany_any B vb n v g xd xa xc W' (Nat.le_trans HX.out.2.2.2.2 hb.size) (HX.out.1.below (hb.mono HX.out.2.2.2.2)) HX.out.2.1 (HI.out.2.1.below hb)
    have RA : Hid (∀ W' wi', Below W.heap.size W W' → Calls Tryz.prog 62 #[.map (some vb), dv xd xa xc, .bool wi'] W' fun e w' => e = .returned (.bool (rightD v xd wi')) ∧ Below W'.heap.size W' w') := fun W' wi' hb =>
      HH.out.2.2.2 xd HX.out.2.2.2.1 xa xc wi' W' (Nat.le_trans HX.out.2.2.2.2 hb.size) (HX.out.1.below (hb.mono HX.out.2.2.2.2)) HX.out.2.1 (HI.out.2.1.below hb)
    have TH : Hid (∀ W', Below W.heap.size W W' → W'.frozen? ⟨w.heap.size + 1 + 1 + 1, 0, none⟩ = false ∧ W'.cell? ⟨w.heap.size + 1 + 1 + 1, 0, none⟩ = some (.bool false) ∧ W'.cell? ⟨w.heap.size, 0, none⟩ = some (.map (some vb)) ∧ W'.cell? ⟨w.heap.size + 1 + 1, 0, none⟩ = some (.bool wi) ∧ ∀ q, W'.cell? ⟨bk, q, none⟩ = W.cell? ⟨bk, q, none⟩) := fun W' hb =>
      ⟨(HI.out.1.below hb).thaw3, (HI.out.1.below hb).cell3, (HI.out.1.below hb).cell0, (HI.out.1.below hb).cell2, fun q => hb.cell (p := ⟨bk, q, none⟩) hbkl⟩
    unfold dv at MA RA
    have HP2 := hidd hp2
    clear hp2 hlen hr
    cases xt with
    | false =>
      have HO : Hid (okT v wi (xd, false) = rightD v xd wi) := rfl
      have R1 := hidd (RA.out W wi (Below.refl _ _))
      clear RA MA
      generalize rightD v xd wi = y at HO R1
      cases wi
      all_goals
        gi_wp2_with fail
        all_goals try (rename_i b hu hb; exact absurd hu (by simp [undef]))
        refine ⟨trivial, ?_⟩
        rename_i hu
        clear hu
        gi_wp2_with fail
        refine ⟨trivial, (CallsIn.inRound l (callsIn_wide.2 R1.out)).mono ?_⟩
        rintro e W2 ⟨rfl, hb2⟩
        have HB2 := hidd hb2
        obtain ⟨z3, c3, _, _, _⟩ := TH.out W2 hb2
        clear hb2
        cases y with
        | true =>
          gi_wp2_with fail
          exact NX.out W2 HB2.out HO.out
        | false =>
          gi_wp2_with fail
          exact SX.out W2 HB2.out HO.out
    | true =>
      cases wi with
      | true =>
        have HO : Hid (okT v true (xd, true) = false) := rfl
        have hz := TH.out W (Below.refl _ _)
        obtain ⟨z3, c3, _, _, _⟩ := hz
        clear RA MA
        gi_wp2_with fail
        refine ⟨trivial, ?_⟩
        gi_wp2_with fail
        refine ⟨trivial, ?_⟩
        gi_wp2_with fail
        exact SX.out W (Below.refl _ _) HO.out
      | false =>
        have HO : Hid (okT v false (xd, true) = (manyD v xd && rightD v xd true)) := by
          show okT v false (xd, true) = _
          simp [okT]
        have M1 := hidd (MA.out W (Below.refl _ _))
        clear MA
        generalize manyD v xd = y at HO M1
        gi_wp2_with fail
        refine ⟨trivial, (CallsIn.inRound l (callsIn_wide.2 M1.out)).mono ?_⟩
        rintro e W2 ⟨rfl, hb2⟩
        have HB2 := hidd hb2
        obtain ⟨z3, c3, c0', c2', cq⟩ := TH.out W2 hb2
        have d0' := (cq 0).trans d0
        have d1' := (cq 1).trans d1
        have d2' := (cq 2).trans d2
        have d3' := (cq 3).trans d3
        have d4' := (cq 4).trans d4
        have d5' := (cq 5).trans d5
        clear hb2 cq c0 c2 d0 d1 d2 d3 d4 d5
        cases y with
        | false =>
          gi_wp2_with fail
          refine ⟨trivial, ?_⟩
          gi_wp2_with fail
          exact SX.out W2 HB2.out HO.out
        | true =>
          have R1 := hidd (RA.out W2 true HB2.out)
          have HO2 : Hid (okT v false (xd, true) = rightD v xd true) := by
            show okT v false (xd, true) = _
            rw [HO.out]
            simp
          clear RA HO
          generalize rightD v xd true = y at HO2 R1
          gi_wp2_with fail
          refine ⟨trivial, (CallsIn.inRound l (callsIn_wide.2 R1.out)).mono ?_⟩
          rintro e W3 ⟨rfl, hb3⟩
          have HB3 : Hid (Below W.heap.size W W3) := HB2.out.trans (hb3.mono HB2.out.size)
          obtain ⟨z4, c4, _, _, _⟩ := TH.out W3 HB3.out
          clear hb3
          cases y with
          | true =>
            gi_wp2_with fail
            exact NX.out W3 HB3.out HO2.out
          | false =>
            gi_wp2_with fail
            exact SX.out W3 HB3.out HO2.out
  case done =>
    rintro Dd ys W hD hys ⟨⟨hRW, hs0⟩, hMW, hall⟩ hK
    have HF : Hid ((things ks).all (okT v wi) = true) := by
      show (things ks).all (okT v wi) = true
      rw [← hys]
      exact hall
    have z3 := hRW.thaw3
    have c3 := hRW.cell3
    have HRW := hidd hRW
    clear hRW hMW hall hys
    gi_wp2
    have hK2 : (W.setCell ⟨w.heap.size + 1 + 1 + 1, 0, none⟩ (.bool true)).heap[Dd]? = some (.deferred (some [])) := (Below.heap_setCell _ _ _ _ (by show Dd ≠ w.heap.size + 1 + 1 + 1; have := HW.out.1.size; omega)).trans hK
    refine ⟨by simp, .inl ⟨_, _, rfl, run_takeDeferred hK2, ?_⟩⟩
    have h2 := (HRW.out.set true).put (Dd := Dd) (by have := HW.out.1.size; omega) (.deferred none)
    exact ⟨_, ret62 _ _ _ _ rfl h2.cell3, by rw [HF.out], h2.old⟩
  case stop =>
    rintro Dd c pre W hD _ ⟨rfl, hRW, hall⟩ hK
    have HF := hidd hall
    have HRW := hidd hRW
    clear hRW hall
    gi_wp2
    refine ⟨by simp, .inl ⟨_, _, rfl, run_takeDeferred hK, ?_⟩⟩
    have h2 := HRW.out.put (Dd := Dd) (by have := HW.out.1.size; omega) (.deferred none)
    exact ⟨_, ret62 _ _ _ _ rfl h2.cell3, by rw [HF.out], h2.old⟩

/-- IS A THING OF A TEMPLATE RIGHT? -/
theorem right_any (B vb n : Nat) (v : ByteArray → Nat) : ∀ (g : Nat) (d : Dat) (a : Option Addr) (cap : Nat) (wi : Bool) (w : World), B ≤ w.heap.size → Lies B w g a d.kids → d.name.size ≤ maxLen → MapN vb n v w →
    Calls Tryz.prog 62 #[.map (some vb), dv d a cap, .bool wi] w fun e w' => e = .returned (.bool (rightD v d wi)) ∧ Below w.heap.size w w' := by
  intro g
  induction g with
  | zero =>
    intro d a cap wi w hB hl hs hM
    by_cases h3 : d.kind = 3
    · exact right_sym vb n v d a cap wi w hs hM h3
    · by_cases h4 : d.kind = 4
      · refine right_list B vb n 0 v d a cap wi w (Lies.more 0 a _ hl) hB hM h4 fun d' hd => ?_
        rw [show d.kids = [] from hl] at hd
        cases hd
      · exact right_else vb v d a cap wi w h3 h4
  | succ g ih =>
    intro d a cap wi w hB hl hs hM
    by_cases h3 : d.kind = 3
    · exact right_sym vb n v d a cap wi w hs hM h3
    · by_cases h4 : d.kind = 4
      · exact right_list B vb n g v d a cap wi w hl hB hM h4 fun d' _ a cap wi w hB hl hs hM => ih d' a cap wi w hB hl hs hM
      · exact right_else vb v d a cap wi w h3 h4
end
section
set_option linter.unusedVariables false
set_option linter.unusedSimpArgs false
open Go.RowKit

/-- No list is longer than its room. -/
def Caps (w : World) : Nat → Option Addr → List Dat → Prop
  | 0, _, ds => ds = []
  | f + 1, a, ds => ds = [] ∨ ∃ b o, a = some ⟨b, o, none⟩ ∧ ∀ (i : Nat) (d : Dat), ds[i]? = some d → ∃ a' cap, w.cell? ⟨b, o + i * 6 + 5, none⟩ = some (.slice a' d.kids.length cap) ∧ d.kids.length ≤ cap ∧ Caps w f a' d.kids

/-- Data lie behind a, in blocks below B, with room. -/
def LC (B : Nat) (w : World) (g : Nat) (a : Option Addr) (ds : List Dat) : Prop := Lies B w g a ds ∧ Caps w g a ds

theorem Caps.stay {B : Nat} {w w' : World} (hw : Old B w w') : ∀ (f : Nat) (a : Option Addr) (ds : List Dat), Lies B w f a ds → Caps w f a ds → Caps w' f a ds
  | 0, _, _, _, h => h
  | f + 1, a, ds, hl, h => by
    rcases h with h | ⟨b, o, ha, h⟩
    · exact Or.inl h
    · by_cases h0 : ds = []
      · exact Or.inl h0
      · refine Or.inr ⟨b, o, ha, fun i d hd => ?_⟩
        obtain ⟨a', cap, c5, hc, hk⟩ := h i d hd
        obtain ⟨g', b', o', hg, ha', hb, hall⟩ := hl.at h0
        rw [ha] at ha'
        cases ha'
        have hg' : g' = f := by omega
        subst hg'
        obtain ⟨a2, cap2, k0, k1, k2, k3, k4, k5, hn, hkk⟩ := hall i d hd
        rw [c5] at k5
        cases k5
        exact ⟨a', cap, (hw.cell hb _).trans c5, hc, Caps.stay hw g' a' _ hkk hk⟩

section
variable {B : Nat} {w w' : World} {g : Nat} {a : Option Addr} {ds : List Dat}
theorem LC.stay (h : LC B w g a ds) (hw : Old B w w') : LC B w' g a ds := ⟨Lies.stay hw _ _ _ h.1, Caps.stay hw _ _ _ h.1 h.2⟩
theorem LC.below (h : LC B w g a ds) (hb : Below B w w') : LC B w' g a ds := h.stay fun k hk => hb.block k hk
theorem LC.mono {B' : Nat} (h : LC B w g a ds) (hB : B ≤ B') : LC B' w g a ds := by
  refine ⟨?_, h.2⟩
  have aux : ∀ (f : Nat) (a : Option Addr) (ds : List Dat), Lies B w f a ds → Lies B' w f a ds := by
    intro f
    induction f with
    | zero => exact fun a ds h => h
    | succ f ih =>
      intro a ds h
      refine ⟨h.1, ?_⟩
      rcases h.2 with h | ⟨b, o, ha, hb, h⟩
      · exact Or.inl h
      · refine Or.inr ⟨b, o, ha, by omega, fun i d hd => ?_⟩
        obtain ⟨a', cap, c0, c1, c2, c3, c4, c5, hn, hk⟩ := h i d hd
        exact ⟨a', cap, c0, c1, c2, c3, c4, c5, hn, ih a' _ hk⟩
  exact aux _ _ _ h.1
theorem LC.len (h : LC B w g a ds) : ds.length ≤ 9223372036854775807 := h.1.len
theorem LC.more (h : LC B w g a ds) : LC B w (g + 1) a ds := by
  refine ⟨Lies.more _ _ _ h.1, ?_⟩
  have aux : ∀ (f : Nat) (a : Option Addr) (ds : List Dat), Caps w f a ds → Caps w (f + 1) a ds := by
    intro f
    induction f with
    | zero => exact fun a ds h => Or.inl h
    | succ f ih =>
      intro a ds h
      rcases h with h | ⟨b, o, ha, h⟩
      · exact Or.inl h
      · exact Or.inr ⟨b, o, ha, fun i d hd => by
          obtain ⟨a', cap, c5, hc, hk⟩ := h i d hd
          exact ⟨a', cap, c5, hc, ih a' _ hk⟩⟩
  exact aux _ _ _ h.2
theorem LC.nil (B : Nat) (w : World) (g : Nat) (a : Option Addr) : LC B w g a [] := by
  cases g with
  | zero => exact ⟨rfl, rfl⟩
  | succ g => exact ⟨⟨Nat.zero_le _, Or.inl rfl⟩, Or.inl rfl⟩
theorem LC.at (h : LC B w g a ds) (h0 : ds ≠ []) : ∃ g' b o, g = g' + 1 ∧ a = some ⟨b, o, none⟩ ∧ b < B ∧ ∀ (i : Nat) (d : Dat), ds[i]? = some d → ∃ a' cap,
      w.cell? ⟨b, o + i * 6, none⟩ = some (.int .i64 d.kind) ∧ w.cell? ⟨b, o + i * 6 + 1, none⟩ = some (.int .i64 d.n) ∧ w.cell? ⟨b, o + i * 6 + 2, none⟩ = some (.string d.name) ∧
      w.cell? ⟨b, o + i * 6 + 3, none⟩ = some (.int .i64 d.stamp) ∧ w.cell? ⟨b, o + i * 6 + 4, none⟩ = some (.int .i64 d.lib) ∧ w.cell? ⟨b, o + i * 6 + 5, none⟩ = some (.slice a' d.kids.length cap) ∧
      d.name.size ≤ maxLen ∧ d.kids.length ≤ cap ∧ LC B w g' a' d.kids := by
  obtain ⟨g', b, o, hg, ha, hb, hall⟩ := h.1.at h0
  subst hg
  refine ⟨g', b, o, rfl, ha, hb, fun i d hd => ?_⟩
  obtain ⟨a', cap, k0, k1, k2, k3, k4, k5, hn, hk⟩ := hall i d hd
  rcases h.2 with q | ⟨b', o', ha', q⟩
  · exact absurd q h0
  · rw [ha] at ha'
    cases ha'
    obtain ⟨a2, cap2, c5, hc, hkk⟩ := q i d hd
    rw [k5] at c5
    cases c5
    exact ⟨a', cap, k0, k1, k2, k3, k4, k5, hn, hc, hk, hkk⟩
/-- A part of them. -/
theorem LC.drop {b o : Nat} (h : LC B w (g + 1) (some ⟨b, o, none⟩) ds) (j : Nat) (hj : j < ds.length) : LC B w (g + 1) (some ⟨b, o + j * 6, none⟩) (ds.drop j) := by
  have h0 : ds ≠ [] := by intro e; rw [e] at hj; simp at hj
  obtain ⟨g', b', o', hg, ha, hb, hall⟩ := h.at h0
  cases ha
  have hg' : g' = g := by omega
  subst hg'
  have hl := h.len
  have e : ∀ i q : Nat, o + j * 6 + i * 6 + q = o + (j + i) * 6 + q := fun i q => by omega
  have e0 : ∀ i : Nat, o + j * 6 + i * 6 = o + (j + i) * 6 := fun i => by omega
  refine ⟨⟨by simp; omega, Or.inr ⟨b, _, rfl, hb, fun i d hd => ?_⟩⟩, Or.inr ⟨b, _, rfl, fun i d hd => ?_⟩⟩
  · rw [List.getElem?_drop] at hd
    obtain ⟨a', cap, k0, k1, k2, k3, k4, k5, hn, hc, hk⟩ := hall (j + i) d hd
    exact ⟨a', cap, by rw [e0]; exact k0, by rw [e]; exact k1, by rw [e]; exact k2, by rw [e]; exact k3, by rw [e]; exact k4, by rw [e]; exact k5, hn, hk.1⟩
  · rw [List.getElem?_drop] at hd
    obtain ⟨a', cap, k0, k1, k2, k3, k4, k5, hn, hc, hk⟩ := hall (j + i) d hd
    exact ⟨a', cap, by rw [e]; exact k5, hc, hk.2⟩
theorem LC.take (h : LC B w g a ds) (j : Nat) : LC B w g a (ds.take j) := by
  by_cases h0 : ds = []
  · rw [h0, List.take_nil]
    exact LC.nil _ _ _ _
  · obtain ⟨g', b, o, hg, ha, hb, hall⟩ := h.at h0
    subst hg
    have hl := h.len
    have hat : ∀ (i : Nat) (d : Dat), (ds.take j)[i]? = some d → ds[i]? = some d := fun i d hd => by
      rw [List.getElem?_take] at hd
      split at hd
      · exact hd
      · cases hd
    refine ⟨⟨by have := List.length_take_le j ds; have := List.length_take_le' j ds; omega, Or.inr ⟨b, o, ha, hb, fun i d hd => ?_⟩⟩, Or.inr ⟨b, o, ha, fun i d hd => ?_⟩⟩
    · obtain ⟨a', cap, k0, k1, k2, k3, k4, k5, hn, hc, hk⟩ := hall i d (hat i d hd)
      exact ⟨a', cap, k0, k1, k2, k3, k4, k5, hn, hk.1⟩
    · obtain ⟨a', cap, k0, k1, k2, k3, k4, k5, hn, hc, hk⟩ := hall i d (hat i d hd)
      exact ⟨a', cap, k5, hc, hk.2⟩
end

/-- A rule as a value. -/
def rv (p t : Dat) (pa ta : Option Addr) (pc tc : Nat) : Value :=
  .agg #[.int .i64 p.kind, .int .i64 p.n, .string p.name, .int .i64 p.stamp, .int .i64 p.lib, .slice pa p.kids.length pc, .int .i64 t.kind, .int .i64 t.n, .string t.name, .int .i64 t.stamp, .int .i64 t.lib, .slice ta t.kids.length tc]

set_option maxHeartbeats 800000 in
theorem patternOf_any (B g : Nat) (p t h : Dat) (r : List Dat) (pa ta : Option Addr) (pc tc : Nat) (w : World) (hp : p.kids = h :: r) (hl : LC B w (g + 1) pa p.kids) (hc : p.kids.length ≤ pc) :
    Calls Tryz.prog 33 #[rv p t pa ta pc tc] w fun e w' => Below w.heap.size w w' ∧ ∃ a' cap', e = .returned (.slice a' r.length cap') ∧ LC B w (g + 1) a' r ∧ r.length ≤ cap' := by
  have hlen := hl.len
  obtain ⟨g', b, o, hg, ha, hb, hall⟩ := hl.at (by rw [hp]; simp)
  subst ha
  have HL := hidd hl
  clear hl hall hg
  obtain ⟨k, n', nm, st, lbb, ks⟩ := p
  simp only at hp hlen hc HL
  subst hp
  unfold rv
  simp only [List.length_cons] at hlen hc ⊢
  have HT : Hid (LC B w (g + 1) (some ⟨b, o + 6, none⟩) r) := by
    by_cases h0 : r = []
    · subst h0
      exact LC.nil _ _ _ _
    · have := HL.out.drop 1 (by simp; exact List.length_pos_iff.2 h0)
      exact this
  have HN : Hid (pc = 1 → r = []) := fun e => by
    cases r with
    | nil => rfl
    | cons x y => simp at hc; omega
  go_enter Tryz.func33, Tryz.ntmps33
  go_wp2_with fail
  · go_ret
    refine ⟨(Below.refl _ _).alloc (Nat.le_refl _) _, _, _, rfl, ?_, by omega⟩
    have hr : r = [] := HN.out (by assumption)
    rw [hr]
    exact LC.nil _ _ _ _
  · go_ret
    exact ⟨(Below.refl _ _).alloc (Nat.le_refl _) _, _, _, rfl, HT.out, by omega⟩

set_option maxHeartbeats 800000 in
theorem variablesOf_any (lits : List ByteArray) (B g lb : Nat) (l : List Dat) (a : Option Addr) (cap : Nat) (w : World) (hl : Lies B w g a l) (hB : B ≤ w.heap.size) (hL : LitM lb lits w) (hn : sizeL l ≤ 2000) :
    Calls Tryz.prog 34 #[.map (some lb), .slice a l.length cap] w fun e w' => e = .returned (.tuple #[.map (some w.heap.size), .int .i64 (vlist lits l true 1 (fun _ => 0)).1]) ∧ Below w.heap.size w w' ∧ ((vlist lits l true 1 (fun _ => 0)).1 = 0 → MapN w.heap.size (sizeL l) (vlist lits l true 1 (fun _ => 0)).2 w') := by
  have VA : Hid (Calls Tryz.prog 57 #[.map (some w.heap.size), .map (some lb), .slice a l.length cap, .int .i64 ((1 : Nat) : Int)] (w.alloc (.map #[] 0)) (ToldV w.heap.size (0 + sizeL l) (vlist lits l true 1 (fun _ => 0)) (w.alloc (.map #[] 0)))) :=
    vlist_any lits B w.heap.size lb hB (by have := hL.lt; omega) g l a cap 0 1 (fun _ => 0) _ (hl.below ((Below.refl _ _).alloc hB _)) (hL.alloc _) (MapN.made w) (by omega) (Or.inl rfl)
  clear hl hL
  generalize vlist lits l true 1 (fun _ => 0) = r at VA ⊢
  have hmm := @run_makeMap Tryz.prog
  go_enter Tryz.func34, Tryz.ntmps34
  go_wp2_with fail
  refine VA.out.mono ?_
  rintro e w1 ⟨rfl, hk, hm⟩
  have HR : Hid (Below w.heap.size w w1 ∧ (r.1 = 0 → MapN w.heap.size (sizeL l) r.2 w1)) := ⟨((Below.refl _ _).alloc (Nat.le_refl _) _).trans (hk.toBelow (Nat.le_refl _) (by simp)), fun h => (hm h).mono (by omega)⟩
  clear hk hm VA
  go_wp2_with fail
  go_ret2
  exact ⟨rfl, HR.out.1, HR.out.2⟩
end
end Go.Proofs.YtgeedaabdonjcaeGreatDoor
