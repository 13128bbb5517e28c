/- Package rule set: what comes of a template's list. -/
import Derived.Test.YtgeedaabdonjcaeGreatDoorK27
import Derived.Test.YtgeedaabdonjcaeGreatDoorK28
namespace Go.Proofs.YtgeedaabdonjcaeGreatDoor
set_option linter.unusedVariables false
set_option linter.unusedSimpArgs false
open Go.RowKit Go.Shelf
attribute [local go_sem] Oper.semAt_some

theorem Gst.names {B gm gb vb mb nv L : Nat} {sp lbb : Int} {v : ByteArray → Nat} {m : ByteArray → List Dat} {w : World} (h : Gst B gm gb vb mb nv L sp lbb v m w) : ∀ s, ∀ d ∈ m s, d.name.size ≤ maxLen := by
  obtain ⟨h1, h2, ⟨o, ⟨f, E, m1, m2, m3, m4, m5, m6, m7⟩, ho⟩, h4, h5, h6, h7, h8⟩ := h
  intro s d hd
  rw [← m2 s] at hd
  obtain ⟨e, he, rfl⟩ := List.mem_map.1 hd
  exact (m4 s e he).1
theorem fillD_name (v : ByteArray → Nat) (m : ByteArray → List Dat) (sp lbb : Int) (hm : ∀ s, ∀ d ∈ m s, d.name.size ≤ maxLen) {d : Dat} (hd : d.name.size ≤ maxLen) (i : Nat) : (fillD v m sp lbb d i).name.size ≤ maxLen := by
  have hg : ∀ s j, ((m s).getD j zeroD).name.size ≤ maxLen := fun s j => by
    rw [List.getD_eq_getElem?_getD]
    cases h : (m s)[j]? with
    | none => exact Nat.zero_le _
    | some x => exact hm s x (List.mem_of_getElem? h)
  obtain ⟨k, n, nm, st, lb, ks⟩ := d
  rw [fillD]
  split
  · exact hg _ _
  · split
    · exact hg _ _
    · split
      · exact Nat.zero_le _
      · split
        · exact hd
        · exact Nat.zero_le _

theorem ret90 {ts : Array Value} {W : World} {R S : Nat} {d : Dat} {v b : Value} (h : Nod R d v W) (hb : W.cell? ⟨S, 0, none⟩ = some b) (h8 : ts[8]? = some (.pointer (some ⟨R, 0, none⟩))) (h9 : ts[9]? = some (.pointer (some ⟨S, 0, none⟩))) :
    (results Tryz.f90 ts).run Tryz.prog W = .ok (.tuple #[.agg #[.int .i64 d.kind, .int .i64 d.n, .string d.name, .int .i64 d.stamp, .int .i64 d.lib, v], b]) W := by
  obtain ⟨q, q0, q1, q2, q3, q4, q5, qz⟩ := h
  simp [results, Tryz.results90, go_sem, h8, h9, q0, q1, q2, q3, q4, q5, hb]

/-- What is asked of thing. -/
def AskG (B gm gb vb mb nv L : Nat) (sp lbb : Int) (g nth dp : Nat) (v : ByteArray → Nat) (m : ByteArray → List Dat) (ks : List Dat) : Prop :=
  ∀ (d : Dat) (dt : Bool), (d, dt) ∈ things ks → ∀ (i : Nat), (if dt then i < (cntD v m d).headD 0 else i = nth) → ∀ (a : Option Addr) (cap n : Nat) (w : World), Lies B w g a d.kids → d.name.size ≤ maxLen → n ≤ 2000 → Gst B gm gb vb mb nv L sp lbb v m w → Ctr gb n w →
    Calls Tryz.prog 59 #[.pointer (some ⟨gb, 0, none⟩), dv d a cap, .int .i64 (i : Int), .int .i64 ((dp + 1 : Nat) : Int)] w (ToldG gb (holdsB n (dp + 1) (fillD v m sp lbb d i)) (bareD (fillD v m sp lbb d i)) (n + sizeD (fillD v m sp lbb d i)) w)

/-- What has grown of some things. -/
def grownT (v : ByteArray → Nat) (m : ByteArray → List Dat) (sp lbb : Int) (nth : Nat) (pre : List (Dat × Bool)) : List Dat := pre.flatMap (fillT v m sp lbb nth)

/-- What has grown, in memory. -/
structure Gn (w : World) (gb nth dp n : Nat) (gs : List Dat) (vv : Value) (es : List (Dat × Option Addr × Nat)) (W : World) : Prop where
  lb : LB w gb nth dp z6 false vv W
  row : RowC (w.heap.size + 7) vv es W
  same : es.map (·.1) = bareL gs
  ctr : Ctr gb (n + sizeL gs) W
  holds : holdsL n (dp + 1) gs = true

/-- The first ones of what comes of a thing. -/
def someT (v : ByteArray → Nat) (m : ByteArray → List Dat) (sp lbb : Int) (d : Dat) (fr k : Nat) : List Dat := (List.range' fr (k - fr)).map (fillD v m sp lbb d)
theorem someT_nil (v : ByteArray → Nat) (m : ByteArray → List Dat) (sp lbb : Int) (d : Dat) (fr : Nat) : someT v m sp lbb d fr fr = [] := by simp [someT]
theorem someT_next (v : ByteArray → Nat) (m : ByteArray → List Dat) (sp lbb : Int) (d : Dat) {fr k : Nat} (h : fr ≤ k) : someT v m sp lbb d fr (k + 1) = someT v m sp lbb d fr k ++ [fillD v m sp lbb d k] := by
  unfold someT
  rw [show k + 1 - fr = (k - fr) + 1 by omega, List.range'_concat, List.map_append]
  simp
  congr 1
  omega
theorem someT_upto (v : ByteArray → Nat) (m : ByteArray → List Dat) (sp lbb : Int) (d : Dat) {fr k t : Nat} (h : k ≤ t) : ∃ r, someT v m sp lbb d fr t = someT v m sp lbb d fr k ++ r := by
  unfold someT
  by_cases hf : fr ≤ k
  · refine ⟨(List.range' k (t - k)).map (fillD v m sp lbb d), ?_⟩
    rw [← List.map_append]
    congr 1
    have e := List.range'_append (s := fr) (m := k - fr) (n := t - k) (step := 1)
    rw [show fr + 1 * (k - fr) = k by omega, show k - fr + (t - k) = t - fr by omega] at e
    exact e.symm
  · refine ⟨(List.range' fr (t - fr)).map (fillD v m sp lbb d), ?_⟩
    rw [show k - fr = 0 by omega]
    simp
theorem someT_dots (v : ByteArray → Nat) (m : ByteArray → List Dat) (sp lbb : Int) (d : Dat) (nth : Nat) : fillT v m sp lbb nth (d, true) = someT v m sp lbb d 0 ((cntD v m d).headD 0) := by
  simp [fillT, someT, List.range_eq_range']
theorem someT_one (v : ByteArray → Nat) (m : ByteArray → List Dat) (sp lbb : Int) (d : Dat) (nth : Nat) : fillT v m sp lbb nth (d, false) = someT v m sp lbb d nth (nth + 1) := by
  simp [fillT, someT]
theorem holdsL_append {n dp : Nat} {a b : List Dat} (h : holdsL n dp a = false) : holdsL n dp (a ++ b) = false := by
  unfold holdsL at h ⊢
  rw [sizeL_append, deepL_append]
  rw [Bool.and_eq_false_iff] at h ⊢
  simp at h ⊢
  omega
theorem holdsL_one {n dp : Nat} {a : List Dat} {d : Dat} (h : holdsL n dp a = true) : holdsL n dp (a ++ [d]) = holdsB (n + sizeL a) dp d := by
  have e1 : sizeL [d] = sizeD d := by rw [sizeL, sizeL]; omega
  have e2 : deepL [d] = deepD d := by rw [deepL, deepL]; omega
  unfold holdsL holdsB at *
  rw [sizeL_append, deepL_append, e1, e2]
  rw [Bool.and_eq_true, decide_eq_true_iff, decide_eq_true_iff] at h
  rw [Bool.eq_iff_iff, Bool.and_eq_true, Bool.and_eq_true, decide_eq_true_iff, decide_eq_true_iff, decide_eq_true_iff, decide_eq_true_iff]
  have := h.1
  have := h.2
  constructor
  · rintro ⟨h1, h2⟩
    exact ⟨by omega, by omega⟩
  · rintro ⟨h1, h2⟩
    exact ⟨by omega, by omega⟩
theorem grownT_append (v : ByteArray → Nat) (m : ByteArray → List Dat) (sp lbb : Int) (nth : Nat) (a b : List (Dat × Bool)) : grownT v m sp lbb nth (a ++ b) = grownT v m sp lbb nth a ++ grownT v m sp lbb nth b := by simp [grownT]

/-- Between two things. -/
def IL (B g gb : Nat) (v : ByteArray → Nat) (m : ByteArray → List Dat) (sp lbb : Int) (nth dp n : Nat) (w0 : World) (l : List Dat) (w : World) (pre : List (Thing B g w0 l)) (W : World) : Prop :=
  w0.heap.size ≤ W.heap.size ∧ ∃ vv es, Gn w gb nth dp n (grownT v m sp lbb nth (bareT pre)) vv es W
/-- Where it is too much. -/
def XL (B g gb : Nat) (v : ByteArray → Nat) (m : ByteArray → List Dat) (sp lbb : Int) (nth dp n : Nat) (w0 : World) (l : List Dat) (w : World) (c : Code) (pre : List (Thing B g w0 l)) (W : World) : Prop :=
  c = .ret ∧ ∃ vv, LB w gb nth dp z6 false vv W ∧ holdsL n (dp + 1) (grownT v m sp lbb nth (bareT pre)) = false

section
variable {w W W' : World} {gb nth dp n : Nat} {gs : List Dat} {vv : Value} {es : List (Dat × Option Addr × Nat)}
theorem Gn.own (h : Gn w gb nth dp n gs vv es W) {row : Option Nat} (hg : W.grownBy W' row) (hr : ∀ r, row = some r → w.heap.size ≤ r ∧ ∃ o : Obj, W.heap[r]? = some o ∧ o.isCells = false) : Gn w gb nth dp n gs vv es W' := by
  refine ⟨h.lb.own hg hr, h.row.own' hg (fun r e => (hr r e).2), h.same, h.ctr.of_block (hg.block gb h.ctr.lt fun e => ?_), h.holds⟩
  have := (hr gb e.symm).1
  have := h.lb.old.lt
  omega
theorem Gn.below (h : Gn w gb nth dp n gs vv es W) (hb : Below W.heap.size W W') : Gn w gb nth dp n gs vv es W' := ⟨h.lb.below hb, h.row.below hb, h.same, h.ctr.below hb, h.holds⟩
end

set_option maxRecDepth 100000 in
set_option maxHeartbeats 1000000 in
theorem list_grows (B gm gb vb mb nv L : Nat) (sp lbb : Int) (v : ByteArray → Nat) (m : ByteArray → List Dat) (g : Nat) (ks : List Dat) (a : Option Addr) (cap nth n dp : Nat) (w : World) (hl : Lies B w (g + 1) a ks)
    (hG : Gst B gm gb vb mb nv L sp lbb v m w) (hc : Ctr gb n w) (hn : n ≤ 2000) (hdp : dp ≤ 40) (hnth : nth ≤ 2000) (hcs : ∀ x ∈ things ks, x.2 = true → cntD v m x.1 ≠ [] ∧ sizeD x.1 ≤ 2000)
    (ih : AskG B gm gb vb mb nv L sp lbb g nth dp v m ks) :
    Calls Tryz.prog 90 #[.pointer (some ⟨gb, 0, none⟩), .slice a ks.length cap, .int .i64 (nth : Int), .int .i64 (dp : Int)] w
      (ToldG gb (holdsL n (dp + 1) (fillL v m sp lbb ks nth)) ⟨4, 0, emS, 0, 0, bareL (fillL v m sp lbb ks nth)⟩ (n + sizeL (fillL v m sp lbb ks nth)) w) := by
  have hlen := hl.len
  have HH : Hid (Lies B w (g + 1) a ks ∧ Gst B gm gb vb mb nv L sp lbb v m w ∧ Ctr gb n w ∧ (∀ x ∈ things ks, x.2 = true → cntD v m x.1 ≠ [] ∧ sizeD x.1 ≤ 2000) ∧ AskG B gm gb vb mb nv L sp lbb g nth dp v m ks) := ⟨hl, hG, hc, hcs, ih⟩
  have hgl := hc.lt
  have hBg := hG.hB
  clear hl hG hc hcs ih
  refine (callsIn_wide (n := 3)).1 ?_
  refine callsIn_of_wp_marks Tryz.func90 rfl trivial ?_ rfl
  simp only [Tryz.ntmps90, List.size_toArray, List.length_cons, List.length_nil, Nat.reduceAdd, Nat.reduceSub, Array.replicate_succ, Array.replicate_zero, List.push_toArray, List.append_toArray, List.nil_append, List.cons_append]
  gi_wp2_with fail
  refine ⟨trivial, (callsIn_wide.2 (things_any a ks.length cap _)).mono ?_⟩
  rintro e w1 ⟨rfl, hw1⟩
  have HW : Hid (LB w gb nth dp z6 false (.slice none 0 0) w1 ∧ w1.heap[w.heap.size + 1 + 1 + 1 + 1 + 1 + 1]? = some (.cells #[.slice a ks.length cap] 26 (0, 0)) ∧ B ≤ w1.heap.size ∧ Lies B w1 (g + 1) a ks ∧ Ctr gb n w1 ∧ w.heap.size + 7 ≤ w1.heap.size ∧ Old B w w1) := by
    have h1 := LB.start w gb hgl nth dp z6 false (.slice none 0 0) _ rfl
    have h2 : LB w gb nth dp z6 false (.slice none 0 0) w1 := by
      rw [hw1]
      exact h1.below ((Below.refl _ _).alloc (Nat.le_refl _) _)
    have h3 : Below w.heap.size w w1 := by
      rw [hw1]
      exact ((((((Below.refl _ _).alloc (Nat.le_refl _) _).alloc (by simp) _).alloc (by simp; omega) _).alloc (by simp; omega) _).alloc (by simp; omega) _).alloc (by simp; omega) _ |>.alloc (by simp; omega) _
    refine ⟨h2, ?_, by have := h3.size; omega, HH.out.1.below (h3.mono (by omega)), HH.out.2.2.1.below h3, by rw [hw1]; simp, fun k hk => h3.block k (by omega)⟩
    rw [hw1]
    have := World.alloc_heap_new ((((((w.alloc (.cells #[.pointer (some ⟨gb, 0, none⟩)] 114)).alloc (.cells #[.int .i64 (nth : Int)] 3)).alloc (.cells #[.int .i64 (dp : Int)] 3)).alloc (.cells z6 28)).alloc (.cells #[.bool false] 4)).alloc (.cells #[.int .i64 4, .int .i64 0, .string ⟨#[]⟩, .int .i64 0, .int .i64 0, .slice none 0 0] 28)) (.cells #[.slice a ks.length cap] 26)
    rw [World.size_alloc, World.size_alloc, World.size_alloc, World.size_alloc, World.size_alloc, World.size_alloc] at this
    exact this
  clear hw1
  gi_wp2_with fail
  refine wpIn_rangeFunc_ownH (F := Fence.wide) (n := 3) rfl (by decide) (gf := 112) (lb := #[.pointer (some ⟨w.heap.size + 1 + 1 + 1 + 1 + 1 + 1, 0, none⟩)]) rfl trivial (enters_of Tryz.func112 (by kernel_rfl) rfl)
    (things_stops B g 2 (by decide) (w.heap.size + 1 + 1 + 1 + 1 + 1 + 1) a cap ks w1 HW.out.2.2.2.1 HW.out.2.2.1 HW.out.2.1)
    (fun h k => ⟨Nat.le_trans h.1 k.1, k.2.1.trans h.2.1, h.2.2.trans k.2.2⟩)
    (fun W l o o' hl hW _ _ => ⟨by simp [World.putObj], World.putObj_heap_other (by have := HW.out.2.2.2.2.2.1; omega), fun k hk => World.putObj_heap_other (by have := HW.out.2.2.1; omega)⟩) (Below.refl _ _) (fun _ => rfl)
    (IL B g gb v m sp lbb nth dp n w1 ks w)
    (XL B g gb v m sp lbb nth dp n w1 ks w)
    (fun pre W W' row ⟨h0, vv, es, h1⟩ hg hr => ⟨Nat.le_trans h0 hg.size, vv, es, h1.own hg (fun r e => ⟨by have := (hr r e).1; have := HW.out.2.2.2.2.2.1; omega, (hr r e).2⟩)⟩)
    (fun c pre W W' row ⟨h0, vv, h1, h2⟩ hg hr => ⟨h0, vv, h1.own hg (fun r e => ⟨by have := (hr r e).1; have := HW.out.2.2.2.2.2.1; omega, (hr r e).2⟩), h2⟩)
    ⟨Nat.le_refl _, .slice none 0 0, [], HW.out.1, RowC.nil _ _, rfl, HW.out.2.2.2.2.1, by simp [grownT, bareT, holdsL, sizeL, deepL]; omega⟩
    (fun x a' W => ∃ bk, w1.heap.size ≤ bk ∧ a' = { tmps := #[.pointer (some ⟨gb, 0, none⟩), .slice a ks.length cap, .int .i64 (nth : Int), .int .i64 (dp : Int), .pointer (some ⟨w.heap.size, 0, none⟩), undef, .pointer (some ⟨w.heap.size + 1, 0, none⟩), .pointer (some ⟨w.heap.size + 1 + 1, 0, none⟩), .pointer (some ⟨w.heap.size + 1 + 1 + 1, 0, none⟩), .pointer (some ⟨w.heap.size + 1 + 1 + 1 + 1, 0, none⟩), .pointer (some ⟨w.heap.size + 1 + 1 + 1 + 1 + 1, 0, none⟩), .pointer (some ⟨bk, 0, none⟩), .bool x.1.2.2.2, undef, undef, undef, undef, undef, .agg #[.int .i64 4, .int .i64 0, .string ⟨#[]⟩, .int .i64 0, .int .i64 0, .slice none 0 0], .slice a ks.length cap, .func (.func 112) #[] #[.pointer (some ⟨w.heap.size + 1 + 1 + 1 + 1 + 1 + 1, 0, none⟩)], dv x.1.1 x.1.2.1 x.1.2.2.1, .bool x.1.2.2.2, undef, undef, undef, undef, undef, undef, undef, undef, undef, undef, undef, undef, undef, undef, undef, undef, undef, undef, undef, undef, undef, undef, undef, undef, undef, undef, undef, undef, undef, undef, undef, undef, undef, undef, undef, undef], defers := [] } ∧ W.heap[bk]? = some (.cells #[.int .i64 x.1.1.kind, .int .i64 x.1.1.n, .string x.1.1.name, .int .i64 x.1.1.stamp, .int .i64 x.1.1.lib, .slice x.1.2.1 x.1.1.kids.length x.1.2.2.1] 28 (0, 0)) ∧ ∃ vv : Value, vv.ownBlock ≠ some bk ∧ W.heap[w.heap.size + 1 + 1 + 1 + 1 + 1]? = some (.cells #[.int .i64 4, .int .i64 0, .string ⟨#[]⟩, .int .i64 0, .int .i64 0, vv] 28 (0, 0)))
    (fun x a' _ W W' row ⟨bk, h1, h2, h3, vv, h4, h5⟩ hg hr => ⟨bk, h1, h2, (hg.block bk (Array.getElem?_eq_some_iff.1 h3).1 (fun e => by obtain ⟨_, o, q1, q2⟩ := hr bk e.symm; rw [h3] at q1; cases q1; cases q2)).trans h3, vv, h4, (hg.block _ (Array.getElem?_eq_some_iff.1 h5).1 (fun e => by obtain ⟨_, o, q1, q2⟩ := hr _ e.symm; rw [h5] at q1; cases q1; cases q2)).trans h5⟩) ?assign ?body ?done ?stop
  case assign =>
    intro l pre x W K hI hK
    simp only [encT, dv]
    gi_wp2
    have hb : Below W.heap.size W (W.alloc (.cells #[.int .i64 x.1.1.kind, .int .i64 x.1.1.n, .string x.1.1.name, .int .i64 x.1.1.stamp, .int .i64 x.1.1.lib, .slice x.1.2.1 x.1.1.kids.length x.1.2.2.1] 28)) := (Below.refl _ _).alloc (Nat.le_refl _) _
    obtain ⟨h12, vv, es, hGn⟩ := hI
    have h7 := HW.out.2.2.2.2.2.1
    refine hK _ _ (keeps_below hb _) ⟨hb.size, hb.block _ (by omega), fun k hk => hb.block k (by have := HW.out.2.2.1; omega)⟩ ⟨Nat.le_trans h12 hb.size, vv, es, hGn.below hb⟩ ⟨W.heap.size, h12, rfl, World.alloc_heap_new _ _, vv, ?_, (hGn.below hb).lb.b5⟩
    intro e
    have := (hGn.row.own.lt _ e).2
    omega
  case body =>
    rintro l pre x a' W hl ⟨r, hr⟩ ⟨hs0, vv, es, hGn⟩ ⟨bk, hbk, rfl, hbx, vv', hown, hb5⟩ hlen
    obtain rfl : vv = vv' := by
      have := hGn.lb.b5.symm.trans hb5
      simpa using this
    have hp2 : bareT (pre ++ [x]) = bareT pre ++ [(x.1.1, x.1.2.2.2)] := by simp [bareT]
    generalize pre ++ [x] = pre2 at hp2 ⊢
    obtain ⟨⟨xd, xa, xc, xt⟩, hx1, hx2, hx3⟩ := x
    simp only [dv] at hx1 hx2 hx3 hbx hp2 ⊢
    have hoB : Old B w1 W := fun k hk => (hGn.lb.old.keep.block k (by omega) (by simp; omega)).trans (HW.out.2.2.2.2.2.2 k hk).symm
    have HX : Hid (Lies B W g xa xd.kids ∧ xd.name.size ≤ maxLen ∧ (xd, xt) ∈ things ks ∧ Gst B gm gb vb mb nv L sp lbb v m W) :=
      ⟨Lies.stay hoB _ _ _ hx1, hx2, hx3, HH.out.2.1.kp hGn.lb.old⟩
    have hbkl := (Array.getElem?_eq_some_iff.1 hbx).1
    have c0 := hGn.lb.cell0
    have c1 := hGn.lb.cell1
    have HI : Hid (Gn w gb nth dp n (grownT v m sp lbb nth (bareT pre)) vv es W ∧ W.heap[bk]? = some (.cells #[.int .i64 xd.kind, .int .i64 xd.n, .string xd.name, .int .i64 xd.stamp, .int .i64 xd.lib, .slice xa xd.kids.length xc] 28 (0, 0)) ∧ vv.ownBlock ≠ some bk) := ⟨hGn, hbx, hown⟩
    have d0 : W.cell? ⟨bk, 0, none⟩ = some (.int .i64 xd.kind) := by simp [World.cell?, hbx]
    have d1 : W.cell? ⟨bk, 1, none⟩ = some (.int .i64 xd.n) := by simp [World.cell?, hbx]
    have d2 : W.cell? ⟨bk, 2, none⟩ = some (.string xd.name) := by simp [World.cell?, hbx]
    have d3 : W.cell? ⟨bk, 3, none⟩ = some (.int .i64 xd.stamp) := by simp [World.cell?, hbx]
    have d4 : W.cell? ⟨bk, 4, none⟩ = some (.int .i64 xd.lib) := by simp [World.cell?, hbx]
    have d5 : W.cell? ⟨bk, 5, none⟩ = some (.slice xa xd.kids.length xc) := by simp [World.cell?, hbx]
    have HP2 := hidd hp2
    clear hx1 hx2 hx3 hoB hbx hown hb5 hGn hp2 hlen hr
    gi_wp2_with fail
    refine wpIn_region_heldR (fun u => u.cell? ⟨w.heap.size + 1, 0, none⟩ = some (.int .i64 (nth : Int))) (by kernel_rfl) (by rfl) c1 (fun hS => ?_)
    refine wpAnyH_take (i := 0) (oi := { dst := some 23, op := Op.load 3 (Operand.tmp 6), type := 3, pos := _, after := _, guard := none }) (v := .int .i64 (nth : Int)) rfl (by kernel_rfl) (by kernel_rfl) (by kernel_rfl) (fun _ _ _ h => h) (Or.inl ⟨by rfl, fun u hu => by go_simp⟩) hS ?_
    simp only [Act.put, List.setIfInBounds_toArray, List.set_cons_zero, List.set_cons_succ]
    refine wpAnyH_take (i := 1) (oi := { dst := some 24, op := Op.load 3 (Operand.tmp 6), type := 3, pos := _, after := _, guard := none }) (v := .int .i64 (nth : Int)) rfl (by kernel_rfl) (by kernel_rfl) (by kernel_rfl) (fun _ _ _ h => h) (Or.inl ⟨by rfl, fun u hu => by go_simp⟩) hS ?_
    simp only [Act.put, List.setIfInBounds_toArray, List.set_cons_zero, List.set_cons_succ]
    refine wpAnyH_take (i := 2) (oi := { dst := some 25, op := Op.binOp BinOp.add 3 (Operand.tmp 24) (Operand.const (Value.int IntKind.i64 1)) 3, type := 3, pos := _, after := _, guard := none }) (v := .int .i64 ((nth : Int) + 1)) rfl (by kernel_rfl) (by kernel_rfl) (by kernel_rfl) (fun _ _ _ h => h) (Or.inl ⟨by rfl, fun u hu => by (go_simp; rw [IntKind.wrap_i64]; omega)⟩) hS ?_
    simp only [Act.put, List.setIfInBounds_toArray, List.set_cons_zero, List.set_cons_succ]
    refine wpAnyH_take (i := 3) (oi := { dst := some 13, op := Op.assign (Operand.tmp 23), type := 3, pos := _, after := _, guard := none }) (v := .int .i64 (nth : Int)) rfl (by kernel_rfl) (by kernel_rfl) (by kernel_rfl) (fun _ _ _ h => h) (Or.inl ⟨by rfl, fun u hu => by go_simp⟩) hS ?_
    simp only [Act.put, List.setIfInBounds_toArray, List.set_cons_zero, List.set_cons_succ]
    refine wpAnyH_take (i := 4) (oi := { dst := some 14, op := Op.assign (Operand.tmp 25), type := 3, pos := _, after := _, guard := none }) (v := .int .i64 ((nth : Int) + 1)) rfl (by kernel_rfl) (by kernel_rfl) (by kernel_rfl) (fun _ _ _ h => h) (Or.inl ⟨by rfl, fun u hu => by go_simp⟩) hS ?_
    simp only [Act.put, List.setIfInBounds_toArray, List.set_cons_zero, List.set_cons_succ]
    refine wpAnyH_done (by kernel_rfl) ?_ _
    simp only [NormQ, Exit.then]
    have H0 : Hid (∀ W', Below W.heap.size W W' → In0 w w1 W B gb nth dp bk #[.int .i64 xd.kind, .int .i64 xd.n, .string xd.name, .int .i64 xd.stamp, .int .i64 xd.lib, .slice xa xd.kids.length xc] vv es W' ∧ Ctr gb (n + sizeL (grownT v m sp lbb nth (bareT pre))) W') := fun W' hb =>
      ⟨In0.below ⟨HI.out.1.lb, HI.out.1.row, KeepsFrom.refl _ _, ⟨Nat.le_refl _, rfl, Old.refl _ _⟩, HI.out.2.1, HI.out.2.2, hs0⟩ hBg HW.out.2.2.2.2.2.1 hbk hb, HI.out.1.ctr.below hb⟩
    have GF : Hid (es.map (·.1) = bareL (grownT v m sp lbb nth (bareT pre)) ∧ holdsL n (dp + 1) (grownT v m sp lbb nth (bareT pre)) = true) := ⟨HI.out.1.same, HI.out.1.holds⟩
    have hP2 : Hid (grownT v m sp lbb nth (bareT pre2) = grownT v m sp lbb nth (bareT pre) ++ fillT v m sp lbb nth (xd, xt)) := by
      show _ = _
      rw [HP2.out, grownT_append]
      simp [grownT]
    clear HI HP2
    generalize grownT v m sp lbb nth (bareT pre) = G at H0 GF hP2
    cases xt with
    | false =>
      have HB : Hid (Below W.heap.size W W.drew) := Below.drew (Below.refl _ _)
      have FT : Hid (fillT v m sp lbb nth (xd, false) = someT v m sp lbb xd nth (nth + 1)) := someT_one v m sp lbb xd nth
      have FI : Hid (∀ i, nth ≤ i → i < nth + 1 → (if false = true then i < (cntD v m xd).headD 0 else i = nth)) := fun i h1 h2 => by simp; omega
      clear d0 d1 d2 d3 d4 d5 c0 c1 hS
      gi_wp2_with fail
      gi_loopw [15] (fun i wr => ∃ (k : Nat) (v2 : Value) (e2 : List (Dat × Option Addr × Nat)), nth ≤ k ∧ k ≤ (nth + 1) ∧ i = .int .i64 (k : Int) ∧ Hid (In0 w w1 W B gb nth dp bk #[.int .i64 xd.kind, .int .i64 xd.n, .string xd.name, .int .i64 xd.stamp, .int .i64 xd.lib, .slice xa xd.kids.length xc] v2 e2 wr ∧ e2.map (·.1) = bareL (G ++ someT v m sp lbb xd nth k) ∧ Ctr gb (n + sizeL (G ++ someT v m sp lbb xd nth k)) wr ∧ holdsL n (dp + 1) (G ++ someT v m sp lbb xd nth k) = true)) (fun i _ => (nth + 1) - (intOf i).toNat)
      case atStart =>
        refine ⟨nth, vv, es, Nat.le_refl _, by omega, rfl, ?_⟩
        rw [someT_nil, List.append_nil]
        exact ⟨(H0.out _ HB.out).1, GF.out.1, (H0.out _ HB.out).2, GF.out.2⟩
      case round =>
        obtain ⟨k, v2, e2, hk1, hk2, rfl, HP⟩ := hrel
        have c0 := HP.out.1.lb.cell0
        have c2 := HP.out.1.lb.cell2
        have d0 : wr.cell? ⟨bk, 0, none⟩ = some (.int .i64 xd.kind) := by simp [World.cell?, HP.out.1.box]
        have d1 : wr.cell? ⟨bk, 1, none⟩ = some (.int .i64 xd.n) := by simp [World.cell?, HP.out.1.box]
        have d2 : wr.cell? ⟨bk, 2, none⟩ = some (.string xd.name) := by simp [World.cell?, HP.out.1.box]
        have d3 : wr.cell? ⟨bk, 3, none⟩ = some (.int .i64 xd.stamp) := by simp [World.cell?, HP.out.1.box]
        have d4 : wr.cell? ⟨bk, 4, none⟩ = some (.int .i64 xd.lib) := by simp [World.cell?, HP.out.1.box]
        have d5 : wr.cell? ⟨bk, 5, none⟩ = some (.slice xa xd.kids.length xc) := by simp [World.cell?, HP.out.1.box]
        by_cases hlt : k < (nth + 1)
        · have hh : n + sizeL (G ++ someT v m sp lbb xd nth k) ≤ 2000 := by
            have := HP.out.2.2.2
            unfold holdsL at this
            simp at this
            omega
          have GW : Hid (Gst B gm gb vb mb nv L sp lbb v m wr) := HH.out.2.1.kp HP.out.1.lb.old
          have TH : Hid (Calls Tryz.prog 59 #[.pointer (some ⟨gb, 0, none⟩), dv xd xa xc, .int .i64 (k : Int), .int .i64 ((dp + 1 : Nat) : Int)] wr (ToldG gb (holdsB (n + sizeL (G ++ someT v m sp lbb xd nth k)) (dp + 1) (fillD v m sp lbb xd k)) (bareD (fillD v m sp lbb xd k)) (n + sizeL (G ++ someT v m sp lbb xd nth k) + sizeD (fillD v m sp lbb xd k)) wr)) :=
            HH.out.2.2.2.2 xd false HX.out.2.2.1 k (FI.out k hk1 hlt) xa xc _ wr (Lies.stay HP.out.1.kpt.2.2 _ _ _ HX.out.1) HX.out.2.1 hh GW.out HP.out.2.2.1
          have FN : Hid ((bareD (fillD v m sp lbb xd k)).name.size ≤ maxLen) := bareD_name _ (fillD_name v m sp lbb GW.out.names HX.out.2.1 k)
          have hdi : ((dp + 1 : Nat) : Int) = (dp : Int) + 1 := by omega
          rw [hdi] at TH
          unfold dv at TH
          clear hdi
          gi_wp2_with fail
          refine ⟨trivial, (CallsIn.inRound l (callsIn_wide.2 TH.out)).mono ?_⟩
          rintro e w2 ⟨hkp2, hl2, hif⟩
          have IN2 : Hid (In0 w w1 W B gb nth dp bk #[.int .i64 xd.kind, .int .i64 xd.n, .string xd.name, .int .i64 xd.stamp, .int .i64 xd.lib, .slice xa xd.kids.length xc] v2 e2 w2) := HP.out.1.kp hBg HW.out.2.2.2.2.2.1 hbk hkp2
          have hsz2 := hkp2.keep.size
          have HSM : Hid (e2.length ≤ 2000) := by
            have h1 := congrArg List.length HP.out.2.1
            rw [List.length_map, bareL_map, List.length_map] at h1
            have h2 := sizeL_many (G ++ someT v m sp lbb xd nth k)
            show e2.length ≤ 2000
            omega
          have HN1 : Hid (someT v m sp lbb xd nth (k + 1) = someT v m sp lbb xd nth k ++ [fillD v m sp lbb xd k]) := someT_next v m sp lbb xd hk1
          have HD1 : Hid (holdsL n (dp + 1) (G ++ someT v m sp lbb xd nth (k + 1)) = holdsB (n + sizeL (G ++ someT v m sp lbb xd nth k)) (dp + 1) (fillD v m sp lbb xd k)) := by
            show _ = _
            rw [HN1.out, ← List.append_assoc, holdsL_one HP.out.2.2.2]
          have HZ1 : Hid (sizeL (G ++ someT v m sp lbb xd nth (k + 1)) = sizeL (G ++ someT v m sp lbb xd nth k) + sizeD (fillD v m sp lbb xd k)) := by
            show _ = _
            rw [HN1.out, ← List.append_assoc, sizeL_append _ [fillD v m sp lbb xd k]]
            rfl
          have HB1 : Hid (bareL (G ++ someT v m sp lbb xd nth (k + 1)) = bareL (G ++ someT v m sp lbb xd nth k) ++ [bareD (fillD v m sp lbb xd k)]) := by
            show _ = _
            rw [HN1.out, ← List.append_assoc]
            simp [bareL_map]
          clear c0 c2 d0 d1 d2 d3 d4 d5 TH hh
          generalize hy : holdsB (n + sizeL (G ++ someT v m sp lbb xd nth k)) (dp + 1) (fillD v m sp lbb xd k) = ok at hif HD1
          clear hy
          cases ok with
          | true =>
            rw [if_pos rfl] at hif
            obtain ⟨hc2, a2, cap2, f2, rfl, hcap2, hdc2⟩ := hif
            have HR : Hid (Ctr gb (n + sizeL (G ++ someT v m sp lbb xd nth (k + 1))) w2 ∧ (bareD (fillD v m sp lbb xd k)).kids.length ≤ cap2 ∧ Dc (New wr w2) w2 f2 a2 (bareD (fillD v m sp lbb xd k)).kids) := ⟨by rw [HZ1.out, ← Nat.add_assoc]; exact hc2, hcap2, hdc2⟩
            clear hc2 hcap2 hdc2
            generalize bareD (fillD v m sp lbb xd k) = bd at HR HB1 FN
            obtain ⟨ao, cp, rfl⟩ : ∃ ao cp, v2 = .slice ao e2.length cp := by
              rcases IN2.out.row.own.2 with ⟨hv, h0⟩ | ⟨gg, cc, cur, hv, _⟩
              · exact ⟨none, 0, by rw [hv, h0]⟩
              · exact ⟨_, _, hv⟩
            unfold dv
            gi_wp2_with fail
            have IN3 : Hid (In0 w w1 W B gb nth dp bk #[.int .i64 xd.kind, .int .i64 xd.n, .string xd.name, .int .i64 xd.stamp, .int .i64 xd.lib, .slice xa xd.kids.length xc] (.slice ao e2.length cp) e2 (w2.alloc (.cells #[.int .i64 bd.kind, .int .i64 bd.n, .string bd.name, .int .i64 bd.stamp, .int .i64 bd.lib, .slice a2 bd.kids.length cap2] 28)) ∧ Nod w2.heap.size bd (.slice a2 bd.kids.length cap2) (w2.alloc (.cells #[.int .i64 bd.kind, .int .i64 bd.n, .string bd.name, .int .i64 bd.stamp, .int .i64 bd.lib, .slice a2 bd.kids.length cap2] 28)) ∧ Ctr gb (n + sizeL (G ++ someT v m sp lbb xd nth (k + 1))) (w2.alloc (.cells #[.int .i64 bd.kind, .int .i64 bd.n, .string bd.name, .int .i64 bd.stamp, .int .i64 bd.lib, .slice a2 bd.kids.length cap2] 28)) ∧ Dc (New wr (w2.alloc (.cells #[.int .i64 bd.kind, .int .i64 bd.n, .string bd.name, .int .i64 bd.stamp, .int .i64 bd.lib, .slice a2 bd.kids.length cap2] 28))) (w2.alloc (.cells #[.int .i64 bd.kind, .int .i64 bd.n, .string bd.name, .int .i64 bd.stamp, .int .i64 bd.lib, .slice a2 bd.kids.length cap2] 28)) f2 a2 bd.kids ∧ (w2.alloc (.cells #[.int .i64 bd.kind, .int .i64 bd.n, .string bd.name, .int .i64 bd.stamp, .int .i64 bd.lib, .slice a2 bd.kids.length cap2] 28)).heap.size = w2.heap.size + 1) :=
              ⟨IN2.out.below hBg HW.out.2.2.2.2.2.1 hbk ((Below.refl _ _).alloc (Nat.le_refl _) _), Nod.made w2 bd _, HR.out.1.alloc _, Dc.stay (fun q hq => Below.heap_alloc _ _ _ hq.2) (fun q hq => ⟨hq.1, by simp; have := hq.2; omega⟩) _ _ _ HR.out.2.2, by simp⟩
            generalize w2.alloc (.cells #[.int .i64 bd.kind, .int .i64 bd.n, .string bd.name, .int .i64 bd.stamp, .int .i64 bd.lib, .slice a2 bd.kids.length cap2] 28) = W3 at IN3
            have c5 := IN3.out.1.lb.nod5.q5
            have c6 := (IN3.out.1.lb.nod5.alloc (.cells #[.int .i64 0, .int .i64 0, .string ⟨#[]⟩, .int .i64 0, .int .i64 0, .slice none 0 0] 28)).q5
            have hz3 : w2.heap.size + 1 ≤ W3.heap.size := Nat.le_of_eq IN3.out.2.2.2.2.symm
            have hle3 := IN3.out.1.le
            have hw27 : w.heap.size + 7 ≤ w2.heap.size := by
              have := IN2.out.le
              have := HW.out.2.2.2.2.2.1
              omega
            obtain ⟨i0, hinf, hz0, hz1, hz2⟩ := info_parts infoDat
            refine wpIn_region_heldR (fun u => Nod w2.heap.size bd (.slice a2 bd.kids.length cap2) u) (by kernel_rfl) (by rfl) (IN3.out.2.1.after (Below.drew (Below.refl _ _))) (fun hS => ?_)
            refine wpAnyH_take (i := 0) (oi := { dst := some 50, op := Op.fieldAddr 28 (Operand.tmp 10) 5, type := 0, pos := _, after := _, guard := none }) (v := .pointer (some ⟨w.heap.size + 1 + 1 + 1 + 1 + 1, 5, none⟩)) rfl (by kernel_rfl) (by kernel_rfl) (by kernel_rfl) (fun _ _ _ h => h) (Or.inl ⟨by rfl, fun u hu => by go_simp⟩) hS ?_
            simp only [Act.put, List.setIfInBounds_toArray, List.set_cons_zero, List.set_cons_succ]
            refine wpAnyH_take (i := 2) (oi := { dst := some 52, op := Op.load 28 (Operand.tmp 16), type := 28, pos := _, after := _, guard := none }) (v := .agg #[.int .i64 bd.kind, .int .i64 bd.n, .string bd.name, .int .i64 bd.stamp, .int .i64 bd.lib, .slice a2 bd.kids.length cap2]) rfl (by kernel_rfl) (by kernel_rfl) (by kernel_rfl) (fun _ _ _ h => h) (Or.inl ⟨by rfl, fun u hu => by (obtain ⟨p, p0, p1, p2, p3, p4, p5, pz⟩ := hu; go_simp)⟩) hS ?_
            simp only [Act.put, List.setIfInBounds_toArray, List.set_cons_zero, List.set_cons_succ]
            refine wpAnyH_ready (rs := [1, 4]) (by kernel_rfl) (by simp) (AllReadyH.cons (o := { dst := some 51, op := Op.load 26 (Operand.tmp 50), type := 26, pos := _, after := _, guard := none }) rfl (fun K hK => ?_) (AllReadyH.cons (o := { dst := some 54, op := Op.buildSlice 26 1 #[(0, Operand.const (Value.agg #[Value.int IntKind.i64 0, Value.int IntKind.i64 0, Value.string { data := #[] }, Value.int IntKind.i64 0, Value.int IntKind.i64 0, Value.slice none 0 0]))], type := 26, pos := _, after := _, guard := none }) rfl (fun K hK => ?_) AllReadyH.nil))
            · go_simp
              refine hK.out _ _ hS (fun hS => ?_)
              clear hK K
              refine wpAnyH_take (i := 3) (oi := { dst := some 53, op := Op.call { callee := Callee.builtin Builtin.len, args := #[Operand.tmp 51], argTypes := #[26] }, type := 3, pos := _, after := _, guard := none }) (v := .int .i64 (e2.length : Int)) rfl (by kernel_rfl) (by kernel_rfl) (by kernel_rfl) (fun _ _ _ h => h) (Or.inl ⟨by rfl, fun u hu => by go_simp⟩) hS ?_
              simp only [Act.put, List.setIfInBounds_toArray, List.set_cons_zero, List.set_cons_succ]
              refine wpAnyH_ready (rs := [4]) (by kernel_rfl) (by simp) (AllReadyH.cons (o := { dst := some 54, op := Op.buildSlice 26 1 #[(0, Operand.const (Value.agg #[Value.int IntKind.i64 0, Value.int IntKind.i64 0, Value.string { data := #[] }, Value.int IntKind.i64 0, Value.int IntKind.i64 0, Value.slice none 0 0]))], type := 26, pos := _, after := _, guard := none }) rfl (fun K hK => ?_) AllReadyH.nil)
              go_simp
              refine hK.out _ _ ((IN3.out.2.1.after (Below.drew (Below.refl _ _))).alloc _) (fun hS => ?_)
              clear hK K
              refine wpAnyH_ready (rs := [5]) (by kernel_rfl) (by simp) (AllReadyH.cons (o := { dst := some 55, op := Op.call { callee := Callee.builtin Builtin.append, args := #[Operand.tmp 51, Operand.tmp 54], argTypes := #[26, 26] }, type := 26, pos := _, after := _, guard := none }) rfl (fun K hK => ?_) AllReadyH.nil)
              refine step_append_lies _ rfl (.tmp 51) (.tmp 54) 26 rfl (w.heap.size + 7) 28 i0 _ 6 72 Tryz.underlying26 hinf hz0 hz1 hz2 rfl (by decide) (.slice ao e2.length cp) e2.length (flat e2) rfl (by exact IN3.out.1.row.own.drew.alloc _) ⟨W3.heap.size, 0, none⟩ 1 1 [.int .i64 0, .int .i64 0, .string ⟨#[]⟩, .int .i64 0, .int .i64 0, .slice none 0 0] rfl rfl (by exact sixNews W3.drew _ _ _ _ _ _) (by exact sixOne _ _ _ _ _ _ _ _) (by decide) (by have := HSM.out; unfold maxLen; omega) (by have := HSM.out; omega) (by simp; have := HW.out.2.2.2.2.2.1; omega) (W3.heap.size + 1) (by simp) ?_
              intro g5 cap5 w5 hown5 hg5 hat5 hlt5
              obtain ⟨lb5, rz5, ke5, kp5, bx5, ne5, le5, g57, be5⟩ := IN3.out.1.made (z := .cells #[.int .i64 0, .int .i64 0, .string ⟨#[]⟩, .int .i64 0, .int .i64 0, .slice none 0 0] 28) hBg HW.out.2.2.2.2.2.1 hbk (wq := wr) IN3.out.2.2.2.1 (by have := HP.out.1.le; have := HW.out.2.2.2.2.2.1; omega) (fun q hq => (HP.out.1.row.own.lt q hq).2) FN.out HR.out.2.1 hown5 hg5 hat5
              have hne5 : ∀ q, ((.slice ao e2.length cp) : Value).ownBlock = some q → q < w2.heap.size := fun q hq => (IN2.out.row.own.lt q hq).2
              have ct5 : Ctr gb (n + sizeL (G ++ someT v m sp lbb xd nth (k + 1))) w5 := by
                have h1 := IN3.out.2.2.1.below be5
                exact h1.of_block (hg5.block gb h1.lt (fun e => by have := (IN3.out.1.row.own.lt gb e.symm).1; omega))
              have nd5 : Nod w2.heap.size bd (.slice a2 bd.kids.length cap2) w5 := (IN3.out.2.1.after be5).grown hg5 (fun e => by have := hne5 _ e.symm; omega)
              have hgw : g5 ≠ w2.heap.size := by
                rcases hat5 with e | e
                · have := hne5 _ e
                  omega
                · omega
              have h5l := lb5.size
              have GB := hidd rz5.fill.2
              have DN : Hid _ := In0.done hBg HW.out.2.2.2.2.2.1 hbk lb5 rz5 ke5 kp5 bx5 ne5 le5 g57 ct5
              have y0 : w5.cell? ⟨g5, e2.length * 6, none⟩ = some (.int .i64 0) := (hown5.cellAt _ (by omega)).trans (by rw [List.getElem?_append_right (by rw [flat_len]; exact Nat.le_refl _), flat_len]; simp)
              have y1 : w5.cell? ⟨g5, e2.length * 6 + 1, none⟩ = some (.int .i64 0) := (hown5.cellAt _ (by omega)).trans (by rw [List.getElem?_append_right (by rw [flat_len]; omega), flat_len]; simp)
              have y2 : w5.cell? ⟨g5, e2.length * 6 + 2, none⟩ = some (.string ⟨#[]⟩) := (hown5.cellAt _ (by omega)).trans (by rw [List.getElem?_append_right (by rw [flat_len]; omega), flat_len]; simp)
              have y3 : w5.cell? ⟨g5, e2.length * 6 + 3, none⟩ = some (.int .i64 0) := (hown5.cellAt _ (by omega)).trans (by rw [List.getElem?_append_right (by rw [flat_len]; omega), flat_len]; simp)
              have y4 : w5.cell? ⟨g5, e2.length * 6 + 4, none⟩ = some (.int .i64 0) := (hown5.cellAt _ (by omega)).trans (by rw [List.getElem?_append_right (by rw [flat_len]; omega), flat_len]; simp)
              have y5 : w5.cell? ⟨g5, e2.length * 6 + 5, none⟩ = some (.slice none 0 0) := (hown5.cellAt _ (by omega)).trans (by rw [List.getElem?_append_right (by rw [flat_len]; omega), flat_len]; simp)
              have yz : ∀ q, w5.frozen? ⟨g5, q, none⟩ = false := fun q => hown5.frozenAt q
              have x5 := lb5.nod5.q5
              have xz := lb5.nod5.z
              have hg5b : g5 ≠ w.heap.size + 1 + 1 + 1 + 1 + 1 := by omega
              clear hown5 hg5 hat5 lb5 rz5 ke5 kp5 bx5 le5 be5 ct5 hne5
              refine hK.out _ _ nd5 (fun hS => ?_)
              clear hK K
              simp only [Act.put, List.setIfInBounds_toArray, List.set_cons_zero, List.set_cons_succ]
              refine wpAnyH_take (i := 6) (oi := { dst := some 56, op := Op.indexAddr 26 (Operand.tmp 55) (Operand.tmp 53), type := 0, pos := _, after := _, guard := none }) (v := .pointer (some ⟨g5, e2.length * 6, none⟩)) rfl (by kernel_rfl) (by kernel_rfl) (by kernel_rfl) (fun _ _ _ h => h) (Or.inl ⟨by rfl, fun u hu => by (go_simp; intro hx; omega)⟩) hS ?_
              simp only [Act.put, List.setIfInBounds_toArray, List.set_cons_zero, List.set_cons_succ]
              refine wpAnyH_take (i := 8) (oi := { dst := some 57, op := Op.fieldAddr 28 (Operand.tmp 10) 5, type := 0, pos := _, after := _, guard := none }) (v := .pointer (some ⟨w.heap.size + 1 + 1 + 1 + 1 + 1, 5, none⟩)) rfl (by kernel_rfl) (by kernel_rfl) (by kernel_rfl) (fun _ _ _ h => h) (Or.inl ⟨by rfl, fun u hu => by go_simp⟩) hS ?_
              simp only [Act.put, List.setIfInBounds_toArray, List.set_cons_zero, List.set_cons_succ]
              refine wpAnyH_ready (rs := [7, 9]) (by kernel_rfl) (by simp) (AllReadyH.cons (o := { dst := none, op := Op.store 28 (Operand.tmp 56) (Operand.tmp 52), type := 0, pos := _, after := _, guard := none }) rfl (fun K hK => ?_) (AllReadyH.cons (o := { dst := none, op := Op.store 26 (Operand.tmp 57) (Operand.tmp 55), type := 0, pos := _, after := _, guard := none }) rfl (fun K hK => ?_) AllReadyH.nil))
              · go_simp
                have DA := hidd DN.out.1
                have x6 : (setSixAt w5 g5 (e2.length * 6) (.int .i64 bd.kind) (.int .i64 bd.n) (.string bd.name) (.int .i64 bd.stamp) (.int .i64 bd.lib) (.slice a2 bd.kids.length cap2)).cell? ⟨w.heap.size + 1 + 1 + 1 + 1 + 1, 5, none⟩ = some (.slice ao e2.length cp) := (World.cell?_of_block (GB.out.block _ h5l (by simp; omega))).trans x5
                have xz6 : ∀ q, (setSixAt w5 g5 (e2.length * 6) (.int .i64 bd.kind) (.int .i64 bd.n) (.string bd.name) (.int .i64 bd.stamp) (.int .i64 bd.lib) (.slice a2 bd.kids.length cap2)).frozen? ⟨w.heap.size + 1 + 1 + 1 + 1 + 1, q, none⟩ = false := fun q => (World.frozen?_of_block (GB.out.block _ h5l (by simp; omega))).trans (xz q)
                have n6 : Nod w2.heap.size bd (.slice a2 bd.kids.length cap2) (setSixAt w5 g5 (e2.length * 6) (.int .i64 bd.kind) (.int .i64 bd.n) (.string bd.name) (.int .i64 bd.stamp) (.int .i64 bd.lib) (.slice a2 bd.kids.length cap2)) := hS.grown GB.out (by simp; omega)
                change K _ (setSixAt w5 g5 (e2.length * 6) (.int .i64 bd.kind) (.int .i64 bd.n) (.string bd.name) (.int .i64 bd.stamp) (.int .i64 bd.lib) (.slice a2 bd.kids.length cap2))
                clear y0 y1 y2 y3 y4 y5 yz x5 xz DN GB
                generalize (setSixAt w5 g5 (e2.length * 6) (.int .i64 bd.kind) (.int .i64 bd.n) (.string bd.name) (.int .i64 bd.stamp) (.int .i64 bd.lib) (.slice a2 bd.kids.length cap2)) = W6 at DA x6 xz6 n6 ⊢
                refine hK.out _ _ n6 (fun hS => ?_)
                clear hK K
                refine wpAnyH_ready (rs := [9]) (by kernel_rfl) (by simp) (AllReadyH.cons (o := { dst := none, op := Op.store 26 (Operand.tmp 57) (Operand.tmp 55), type := 0, pos := _, after := _, guard := none }) rfl (fun K hK => ?_) AllReadyH.nil)
                go_simp
                refine hK.out _ _ (n6.keep (c := w.heap.size + 1 + 1 + 1 + 1 + 1) ((Keep.refl _ _).setCell ⟨w.heap.size + 1 + 1 + 1 + 1 + 1, 5, none⟩ rfl _) (by omega)) (fun hS => ?_)
                clear hK K
                refine wpAnyH_done (by kernel_rfl) ?_ _
                simp only [NormQ, Exit.inBlock, Exit.then]
                gi_wp2_with fail
                go_roundw
                case rel =>
                  refine ⟨k + 1, (.slice (some ⟨g5, 0, none⟩) (e2.length + 1) cap5), e2 ++ [(bd, a2, cap2)], by omega, by omega, by go_num, ?_⟩
                  exact ⟨DA.out.1, by rw [HB1.out, List.map_append, HP.out.2.1]; rfl, DA.out.2, HD1.out⟩
                case measure => simp [intOf]; omega
              · go_simp
                have hbb : ((w5.setCell ⟨w.heap.size + 1 + 1 + 1 + 1 + 1, 5, none⟩ (.slice (some ⟨g5, 0, none⟩) (e2.length + 1) cap5))).heap[g5]? = w5.heap[g5]? := Below.heap_setCell _ _ _ _ hg5b
                have yy : ∀ q, ((w5.setCell ⟨w.heap.size + 1 + 1 + 1 + 1 + 1, 5, none⟩ (.slice (some ⟨g5, 0, none⟩) (e2.length + 1) cap5))).cell? ⟨g5, q, none⟩ = w5.cell? ⟨g5, q, none⟩ := fun q => World.cell?_of_block hbb
                have yyz : ∀ q, ((w5.setCell ⟨w.heap.size + 1 + 1 + 1 + 1 + 1, 5, none⟩ (.slice (some ⟨g5, 0, none⟩) (e2.length + 1) cap5))).frozen? ⟨g5, q, none⟩ = false := fun q => (World.frozen?_of_block hbb).trans (yz q)
                have y0' := (yy _).trans y0
                have y1' := (yy _).trans y1
                have y2' := (yy _).trans y2
                have y3' := (yy _).trans y3
                have y4' := (yy _).trans y4
                have y5' := (yy _).trans y5
                have DB := hidd DN.out.2
                have n6 : Nod w2.heap.size bd (.slice a2 bd.kids.length cap2) (w5.setCell ⟨w.heap.size + 1 + 1 + 1 + 1 + 1, 5, none⟩ (.slice (some ⟨g5, 0, none⟩) (e2.length + 1) cap5)) := hS.keep (c := w.heap.size + 1 + 1 + 1 + 1 + 1) ((Keep.refl _ _).setCell ⟨w.heap.size + 1 + 1 + 1 + 1 + 1, 5, none⟩ rfl _) (by omega)
                have GB6 : Hid (∀ W6, Nod w2.heap.size bd (.slice a2 bd.kids.length cap2) W6 → Nod w2.heap.size bd (.slice a2 bd.kids.length cap2) (setSixAt W6 g5 (e2.length * 6) (.int .i64 bd.kind) (.int .i64 bd.n) (.string bd.name) (.int .i64 bd.stamp) (.int .i64 bd.lib) (.slice a2 bd.kids.length cap2))) := fun W6 h => h.of_block (setSixAt_heap W6 g5 _ _ _ _ _ _ _ _ (fun e => hgw e.symm)).1 (by rw [(setSixAt_heap W6 g5 _ _ _ _ _ _ _ _ (fun e => hgw e.symm)).2]; exact h.lt)
                clear y0 y1 y2 y3 y4 y5 yz x5 xz DN GB yy hbb
                generalize (w5.setCell ⟨w.heap.size + 1 + 1 + 1 + 1 + 1, 5, none⟩ (.slice (some ⟨g5, 0, none⟩) (e2.length + 1) cap5)) = W6 at DB y0' y1' y2' y3' y4' y5' yyz n6 ⊢
                refine hK.out _ _ n6 (fun hS => ?_)
                clear hK K
                refine wpAnyH_ready (rs := [7]) (by kernel_rfl) (by simp) (AllReadyH.cons (o := { dst := none, op := Op.store 28 (Operand.tmp 56) (Operand.tmp 52), type := 0, pos := _, after := _, guard := none }) rfl (fun K hK => ?_) AllReadyH.nil)
                go_simp
                refine hK.out _ _ (GB6.out W6 n6) (fun hS => ?_)
                clear hK K
                refine wpAnyH_done (by kernel_rfl) ?_ _
                simp only [NormQ, Exit.inBlock, Exit.then]
                gi_wp2_with fail
                go_roundw
                case rel =>
                  refine ⟨k + 1, (.slice (some ⟨g5, 0, none⟩) (e2.length + 1) cap5), e2 ++ [(bd, a2, cap2)], by omega, by omega, by go_num, ?_⟩
                  exact ⟨DB.out.1, by rw [HB1.out, List.map_append, HP.out.2.1]; rfl, DB.out.2, HD1.out⟩
                case measure => simp [intOf]; omega
            · go_simp
              refine hK.out _ _ ((IN3.out.2.1.after (Below.drew (Below.refl _ _))).alloc _) (fun hS => ?_)
              clear hK K
              refine wpAnyH_ready (rs := [1]) (by kernel_rfl) (by simp) (AllReadyH.cons (o := { dst := some 51, op := Op.load 26 (Operand.tmp 50), type := 26, pos := _, after := _, guard := none }) rfl (fun K hK => ?_) AllReadyH.nil)
              go_simp
              refine hK.out _ _ hS (fun hS => ?_)
              clear hK K
              refine wpAnyH_take (i := 3) (oi := { dst := some 53, op := Op.call { callee := Callee.builtin Builtin.len, args := #[Operand.tmp 51], argTypes := #[26] }, type := 3, pos := _, after := _, guard := none }) (v := .int .i64 (e2.length : Int)) rfl (by kernel_rfl) (by kernel_rfl) (by kernel_rfl) (fun _ _ _ h => h) (Or.inl ⟨by rfl, fun u hu => by go_simp⟩) hS ?_
              simp only [Act.put, List.setIfInBounds_toArray, List.set_cons_zero, List.set_cons_succ]
              refine wpAnyH_ready (rs := [5]) (by kernel_rfl) (by simp) (AllReadyH.cons (o := { dst := some 55, op := Op.call { callee := Callee.builtin Builtin.append, args := #[Operand.tmp 51, Operand.tmp 54], argTypes := #[26, 26] }, type := 26, pos := _, after := _, guard := none }) rfl (fun K hK => ?_) AllReadyH.nil)
              refine step_append_lies _ rfl (.tmp 51) (.tmp 54) 26 rfl (w.heap.size + 7) 28 i0 _ 6 72 Tryz.underlying26 hinf hz0 hz1 hz2 rfl (by decide) (.slice ao e2.length cp) e2.length (flat e2) rfl (by exact IN3.out.1.row.own.drew.alloc _) ⟨W3.heap.size, 0, none⟩ 1 1 [.int .i64 0, .int .i64 0, .string ⟨#[]⟩, .int .i64 0, .int .i64 0, .slice none 0 0] rfl rfl (by exact sixNews W3.drew _ _ _ _ _ _) (by exact sixOne _ _ _ _ _ _ _ _) (by decide) (by have := HSM.out; unfold maxLen; omega) (by have := HSM.out; omega) (by simp; have := HW.out.2.2.2.2.2.1; omega) (W3.heap.size + 1) (by simp) ?_
              intro g5 cap5 w5 hown5 hg5 hat5 hlt5
              obtain ⟨lb5, rz5, ke5, kp5, bx5, ne5, le5, g57, be5⟩ := IN3.out.1.made (z := .cells #[.int .i64 0, .int .i64 0, .string ⟨#[]⟩, .int .i64 0, .int .i64 0, .slice none 0 0] 28) hBg HW.out.2.2.2.2.2.1 hbk (wq := wr) IN3.out.2.2.2.1 (by have := HP.out.1.le; have := HW.out.2.2.2.2.2.1; omega) (fun q hq => (HP.out.1.row.own.lt q hq).2) FN.out HR.out.2.1 hown5 hg5 hat5
              have hne5 : ∀ q, ((.slice ao e2.length cp) : Value).ownBlock = some q → q < w2.heap.size := fun q hq => (IN2.out.row.own.lt q hq).2
              have ct5 : Ctr gb (n + sizeL (G ++ someT v m sp lbb xd nth (k + 1))) w5 := by
                have h1 := IN3.out.2.2.1.below be5
                exact h1.of_block (hg5.block gb h1.lt (fun e => by have := (IN3.out.1.row.own.lt gb e.symm).1; omega))
              have nd5 : Nod w2.heap.size bd (.slice a2 bd.kids.length cap2) w5 := (IN3.out.2.1.after be5).grown hg5 (fun e => by have := hne5 _ e.symm; omega)
              have hgw : g5 ≠ w2.heap.size := by
                rcases hat5 with e | e
                · have := hne5 _ e
                  omega
                · omega
              have h5l := lb5.size
              have GB := hidd rz5.fill.2
              have DN : Hid _ := In0.done hBg HW.out.2.2.2.2.2.1 hbk lb5 rz5 ke5 kp5 bx5 ne5 le5 g57 ct5
              have y0 : w5.cell? ⟨g5, e2.length * 6, none⟩ = some (.int .i64 0) := (hown5.cellAt _ (by omega)).trans (by rw [List.getElem?_append_right (by rw [flat_len]; exact Nat.le_refl _), flat_len]; simp)
              have y1 : w5.cell? ⟨g5, e2.length * 6 + 1, none⟩ = some (.int .i64 0) := (hown5.cellAt _ (by omega)).trans (by rw [List.getElem?_append_right (by rw [flat_len]; omega), flat_len]; simp)
              have y2 : w5.cell? ⟨g5, e2.length * 6 + 2, none⟩ = some (.string ⟨#[]⟩) := (hown5.cellAt _ (by omega)).trans (by rw [List.getElem?_append_right (by rw [flat_len]; omega), flat_len]; simp)
              have y3 : w5.cell? ⟨g5, e2.length * 6 + 3, none⟩ = some (.int .i64 0) := (hown5.cellAt _ (by omega)).trans (by rw [List.getElem?_append_right (by rw [flat_len]; omega), flat_len]; simp)
              have y4 : w5.cell? ⟨g5, e2.length * 6 + 4, none⟩ = some (.int .i64 0) := (hown5.cellAt _ (by omega)).trans (by rw [List.getElem?_append_right (by rw [flat_len]; omega), flat_len]; simp)
              have y5 : w5.cell? ⟨g5, e2.length * 6 + 5, none⟩ = some (.slice none 0 0) := (hown5.cellAt _ (by omega)).trans (by rw [List.getElem?_append_right (by rw [flat_len]; omega), flat_len]; simp)
              have yz : ∀ q, w5.frozen? ⟨g5, q, none⟩ = false := fun q => hown5.frozenAt q
              have x5 := lb5.nod5.q5
              have xz := lb5.nod5.z
              have hg5b : g5 ≠ w.heap.size + 1 + 1 + 1 + 1 + 1 := by omega
              clear hown5 hg5 hat5 lb5 rz5 ke5 kp5 bx5 le5 be5 ct5 hne5
              refine hK.out _ _ nd5 (fun hS => ?_)
              clear hK K
              simp only [Act.put, List.setIfInBounds_toArray, List.set_cons_zero, List.set_cons_succ]
              refine wpAnyH_take (i := 6) (oi := { dst := some 56, op := Op.indexAddr 26 (Operand.tmp 55) (Operand.tmp 53), type := 0, pos := _, after := _, guard := none }) (v := .pointer (some ⟨g5, e2.length * 6, none⟩)) rfl (by kernel_rfl) (by kernel_rfl) (by kernel_rfl) (fun _ _ _ h => h) (Or.inl ⟨by rfl, fun u hu => by (go_simp; intro hx; omega)⟩) hS ?_
              simp only [Act.put, List.setIfInBounds_toArray, List.set_cons_zero, List.set_cons_succ]
              refine wpAnyH_take (i := 8) (oi := { dst := some 57, op := Op.fieldAddr 28 (Operand.tmp 10) 5, type := 0, pos := _, after := _, guard := none }) (v := .pointer (some ⟨w.heap.size + 1 + 1 + 1 + 1 + 1, 5, none⟩)) rfl (by kernel_rfl) (by kernel_rfl) (by kernel_rfl) (fun _ _ _ h => h) (Or.inl ⟨by rfl, fun u hu => by go_simp⟩) hS ?_
              simp only [Act.put, List.setIfInBounds_toArray, List.set_cons_zero, List.set_cons_succ]
              refine wpAnyH_ready (rs := [7, 9]) (by kernel_rfl) (by simp) (AllReadyH.cons (o := { dst := none, op := Op.store 28 (Operand.tmp 56) (Operand.tmp 52), type := 0, pos := _, after := _, guard := none }) rfl (fun K hK => ?_) (AllReadyH.cons (o := { dst := none, op := Op.store 26 (Operand.tmp 57) (Operand.tmp 55), type := 0, pos := _, after := _, guard := none }) rfl (fun K hK => ?_) AllReadyH.nil))
              · go_simp
                have DA := hidd DN.out.1
                have x6 : (setSixAt w5 g5 (e2.length * 6) (.int .i64 bd.kind) (.int .i64 bd.n) (.string bd.name) (.int .i64 bd.stamp) (.int .i64 bd.lib) (.slice a2 bd.kids.length cap2)).cell? ⟨w.heap.size + 1 + 1 + 1 + 1 + 1, 5, none⟩ = some (.slice ao e2.length cp) := (World.cell?_of_block (GB.out.block _ h5l (by simp; omega))).trans x5
                have xz6 : ∀ q, (setSixAt w5 g5 (e2.length * 6) (.int .i64 bd.kind) (.int .i64 bd.n) (.string bd.name) (.int .i64 bd.stamp) (.int .i64 bd.lib) (.slice a2 bd.kids.length cap2)).frozen? ⟨w.heap.size + 1 + 1 + 1 + 1 + 1, q, none⟩ = false := fun q => (World.frozen?_of_block (GB.out.block _ h5l (by simp; omega))).trans (xz q)
                have n6 : Nod w2.heap.size bd (.slice a2 bd.kids.length cap2) (setSixAt w5 g5 (e2.length * 6) (.int .i64 bd.kind) (.int .i64 bd.n) (.string bd.name) (.int .i64 bd.stamp) (.int .i64 bd.lib) (.slice a2 bd.kids.length cap2)) := hS.grown GB.out (by simp; omega)
                change K _ (setSixAt w5 g5 (e2.length * 6) (.int .i64 bd.kind) (.int .i64 bd.n) (.string bd.name) (.int .i64 bd.stamp) (.int .i64 bd.lib) (.slice a2 bd.kids.length cap2))
                clear y0 y1 y2 y3 y4 y5 yz x5 xz DN GB
                generalize (setSixAt w5 g5 (e2.length * 6) (.int .i64 bd.kind) (.int .i64 bd.n) (.string bd.name) (.int .i64 bd.stamp) (.int .i64 bd.lib) (.slice a2 bd.kids.length cap2)) = W6 at DA x6 xz6 n6 ⊢
                refine hK.out _ _ n6 (fun hS => ?_)
                clear hK K
                refine wpAnyH_ready (rs := [9]) (by kernel_rfl) (by simp) (AllReadyH.cons (o := { dst := none, op := Op.store 26 (Operand.tmp 57) (Operand.tmp 55), type := 0, pos := _, after := _, guard := none }) rfl (fun K hK => ?_) AllReadyH.nil)
                go_simp
                refine hK.out _ _ (n6.keep (c := w.heap.size + 1 + 1 + 1 + 1 + 1) ((Keep.refl _ _).setCell ⟨w.heap.size + 1 + 1 + 1 + 1 + 1, 5, none⟩ rfl _) (by omega)) (fun hS => ?_)
                clear hK K
                refine wpAnyH_done (by kernel_rfl) ?_ _
                simp only [NormQ, Exit.inBlock, Exit.then]
                gi_wp2_with fail
                go_roundw
                case rel =>
                  refine ⟨k + 1, (.slice (some ⟨g5, 0, none⟩) (e2.length + 1) cap5), e2 ++ [(bd, a2, cap2)], by omega, by omega, by go_num, ?_⟩
                  exact ⟨DA.out.1, by rw [HB1.out, List.map_append, HP.out.2.1]; rfl, DA.out.2, HD1.out⟩
                case measure => simp [intOf]; omega
              · go_simp
                have hbb : ((w5.setCell ⟨w.heap.size + 1 + 1 + 1 + 1 + 1, 5, none⟩ (.slice (some ⟨g5, 0, none⟩) (e2.length + 1) cap5))).heap[g5]? = w5.heap[g5]? := Below.heap_setCell _ _ _ _ hg5b
                have yy : ∀ q, ((w5.setCell ⟨w.heap.size + 1 + 1 + 1 + 1 + 1, 5, none⟩ (.slice (some ⟨g5, 0, none⟩) (e2.length + 1) cap5))).cell? ⟨g5, q, none⟩ = w5.cell? ⟨g5, q, none⟩ := fun q => World.cell?_of_block hbb
                have yyz : ∀ q, ((w5.setCell ⟨w.heap.size + 1 + 1 + 1 + 1 + 1, 5, none⟩ (.slice (some ⟨g5, 0, none⟩) (e2.length + 1) cap5))).frozen? ⟨g5, q, none⟩ = false := fun q => (World.frozen?_of_block hbb).trans (yz q)
                have y0' := (yy _).trans y0
                have y1' := (yy _).trans y1
                have y2' := (yy _).trans y2
                have y3' := (yy _).trans y3
                have y4' := (yy _).trans y4
                have y5' := (yy _).trans y5
                have DB := hidd DN.out.2
                have n6 : Nod w2.heap.size bd (.slice a2 bd.kids.length cap2) (w5.setCell ⟨w.heap.size + 1 + 1 + 1 + 1 + 1, 5, none⟩ (.slice (some ⟨g5, 0, none⟩) (e2.length + 1) cap5)) := hS.keep (c := w.heap.size + 1 + 1 + 1 + 1 + 1) ((Keep.refl _ _).setCell ⟨w.heap.size + 1 + 1 + 1 + 1 + 1, 5, none⟩ rfl _) (by omega)
                have GB6 : Hid (∀ W6, Nod w2.heap.size bd (.slice a2 bd.kids.length cap2) W6 → Nod w2.heap.size bd (.slice a2 bd.kids.length cap2) (setSixAt W6 g5 (e2.length * 6) (.int .i64 bd.kind) (.int .i64 bd.n) (.string bd.name) (.int .i64 bd.stamp) (.int .i64 bd.lib) (.slice a2 bd.kids.length cap2))) := fun W6 h => h.of_block (setSixAt_heap W6 g5 _ _ _ _ _ _ _ _ (fun e => hgw e.symm)).1 (by rw [(setSixAt_heap W6 g5 _ _ _ _ _ _ _ _ (fun e => hgw e.symm)).2]; exact h.lt)
                clear y0 y1 y2 y3 y4 y5 yz x5 xz DN GB yy hbb
                generalize (w5.setCell ⟨w.heap.size + 1 + 1 + 1 + 1 + 1, 5, none⟩ (.slice (some ⟨g5, 0, none⟩) (e2.length + 1) cap5)) = W6 at DB y0' y1' y2' y3' y4' y5' yyz n6 ⊢
                refine hK.out _ _ n6 (fun hS => ?_)
                clear hK K
                refine wpAnyH_ready (rs := [7]) (by kernel_rfl) (by simp) (AllReadyH.cons (o := { dst := none, op := Op.store 28 (Operand.tmp 56) (Operand.tmp 52), type := 0, pos := _, after := _, guard := none }) rfl (fun K hK => ?_) AllReadyH.nil)
                go_simp
                refine hK.out _ _ (GB6.out W6 n6) (fun hS => ?_)
                clear hK K
                refine wpAnyH_done (by kernel_rfl) ?_ _
                simp only [NormQ, Exit.inBlock, Exit.then]
                gi_wp2_with fail
                go_roundw
                case rel =>
                  refine ⟨k + 1, (.slice (some ⟨g5, 0, none⟩) (e2.length + 1) cap5), e2 ++ [(bd, a2, cap2)], by omega, by omega, by go_num, ?_⟩
                  exact ⟨DB.out.1, by rw [HB1.out, List.map_append, HP.out.2.1]; rfl, DB.out.2, HD1.out⟩
                case measure => simp [intOf]; omega
          | false =>
            rw [if_neg (by simp)] at hif
            subst hif
            have HF : Hid (holdsL n (dp + 1) (grownT v m sp lbb nth (bareT pre2)) = false) := by
              show _ = false
              obtain ⟨r, hr⟩ := someT_upto v m sp lbb xd (fr := nth) (k := k + 1) (t := (nth + 1)) (by omega)
              rw [hP2.out, FT.out, hr, ← List.append_assoc]
              exact holdsL_append HD1.out
            have IN3 : Hid (In0 w w1 W B gb nth dp bk #[.int .i64 xd.kind, .int .i64 xd.n, .string xd.name, .int .i64 xd.stamp, .int .i64 xd.lib, .slice xa xd.kids.length xc] v2 e2 (w2.alloc (.cells #[.int .i64 0, .int .i64 0, .string ⟨#[]⟩, .int .i64 0, .int .i64 0, .slice none 0 0] 28))) := IN2.out.below hBg HW.out.2.2.2.2.2.1 hbk ((Below.refl _ _).alloc (Nat.le_refl _) _)
            simp only [dv, zeroD, emS, List.length_nil]
            iterate 24 gi_step
            generalize w2.alloc (.cells #[.int .i64 0, .int .i64 0, .string ⟨#[]⟩, .int .i64 0, .int .i64 0, .slice none 0 0] 28) = W3 at IN3
            obtain ⟨q, q0, q1, q2, q3, q4, q5, qz⟩ := (show LB w gb nth dp #[.int .i64 0, .int .i64 0, .string ⟨#[]⟩, .int .i64 0, .int .i64 0, .slice none 0 0] false v2 W3 from IN3.out.lb).nod3
            simp only at q0 q1 q2 q3 q4 q5
            have t4 := IN3.out.lb.thaw4
            have t5 := IN3.out.lb.cell4
            iterate 18 gi_step
            have LB4 : Hid (LB w gb nth dp z6 false v2 (setSix W3 (w.heap.size + 1 + 1 + 1) (.int .i64 0) (.int .i64 0) (.string ⟨#[]⟩) (.int .i64 0) (.int .i64 0) (.slice none 0 0)) ∧ KeepsFrom w1.heap.size W (setSix W3 (w.heap.size + 1 + 1 + 1) (.int .i64 0) (.int .i64 0) (.string ⟨#[]⟩) (.int .i64 0) (.int .i64 0) (.slice none 0 0))) := by
              have hh := six_heap W3 (w.heap.size + 1 + 1 + 1) (.int .i64 0) (.int .i64 0) (.string ⟨#[]⟩) (.int .i64 0) (.int .i64 0) (.slice none 0 0)
              refine ⟨LB.set3 (x0 := .int .i64 0) (x1 := .int .i64 0) (x2 := .string ⟨#[]⟩) (x3 := .int .i64 0) (x4 := .int .i64 0) (x5 := .slice none 0 0) IN3.out.lb _ _ _ _ _ _, IN3.out.keeps.trans ⟨Nat.le_of_eq hh.2.symm, fun q o _ hq ho => (hh.1 q (fun e => ?_)).trans hq⟩⟩
              subst e
              rw [IN3.out.lb.b3] at hq
              cases hq
              cases ho
            unfold setSix at LB4
            generalize (((((W3.setCell ⟨w.heap.size + 1 + 1 + 1, 0, none⟩ (.int .i64 0)).setCell ⟨w.heap.size + 1 + 1 + 1, 1, none⟩ (.int .i64 0)).setCell ⟨w.heap.size + 1 + 1 + 1, 2, none⟩ (.string ⟨#[]⟩)).setCell ⟨w.heap.size + 1 + 1 + 1, 3, none⟩ (.int .i64 0)).setCell ⟨w.heap.size + 1 + 1 + 1, 4, none⟩ (.int .i64 0)).setCell ⟨w.heap.size + 1 + 1 + 1, 5, none⟩ (.slice none 0 0) = W4 at LB4
            clear q q0 q1 q2 q3 q4 q5 qz t4 t5
            have t4 := LB4.out.1.thaw4
            have t5 := LB4.out.1.cell4
            have FIN : KeepsFrom w1.heap.size W (W4.setCell ⟨w.heap.size + 1 + 1 + 1 + 1, 0, none⟩ (.bool false)) ∧ XL B g gb v m sp lbb nth dp n w1 ks w .ret pre2 (W4.setCell ⟨w.heap.size + 1 + 1 + 1 + 1, 0, none⟩ (.bool false)) := by
              refine ⟨LB4.out.2.trans ⟨by simp [World.setCell], fun q o _ hq ho => (Below.heap_setCell _ _ _ _ (fun e => ?_)).trans hq⟩, rfl, v2, LB4.out.1.set4 false, HF.out⟩
              have e' : q = w.heap.size + 1 + 1 + 1 + 1 := e
              subst e'
              rw [LB4.out.1.b4] at hq
              cases hq
              cases ho
            iterate 8 gi_step
            exact FIN
        · have HE : Hid (grownT v m sp lbb nth (bareT pre2) = G ++ someT v m sp lbb xd nth k) := hP2.out.trans (by rw [FT.out, show k = (nth + 1) by omega])
          gi_wp2_with fail
          refine ⟨HP.out.1.keeps, HP.out.1.kpt, HP.out.1.le, v2, e2, ⟨HP.out.1.lb, HP.out.1.row, ?_, ?_, ?_⟩⟩
          · rw [HE.out]; exact HP.out.2.1
          · rw [HE.out]; exact HP.out.2.2.1
          · rw [HE.out]; exact HP.out.2.2.2

    | true =>
      have CC : Hid (cntD v m xd ≠ [] ∧ sizeD xd ≤ 2000) := HH.out.2.2.2.1 (xd, true) HX.out.2.2.1 rfl
      have CA : Hid (∀ W', Below W.heap.size W W' → Calls Tryz.prog 113 #[.pointer (some ⟨gb, 0, none⟩), dv xd xa xc] W' (ToldC (cntD v m xd) W')) := fun W' hb =>
        counts_any B gb vb mb nv L sp lbb v m g xd xa xc W' (by have := hb.size; have := HW.out.2.2.1; omega) (Lies.stay (fun q hq => hb.block q (by have := HW.out.2.2.1; omega)) _ _ _ HX.out.1) HX.out.2.1 CC.out.2 (HX.out.2.2.2.below hb).cnt
      have CF : Hid ((cntD v m xd).length ≤ 2000 ∧ ∀ c ∈ cntD v m xd, c ≤ 2000) := ⟨Nat.le_trans (cntD_len v m xd) CC.out.2, cntD_few v m HX.out.2.2.2.few xd⟩
      obtain ⟨c9, cr, hcr⟩ : ∃ c9 cr, cntD v m xd = c9 :: cr := by
        cases hq : cntD v m xd with
        | nil => exact absurd hq CC.out.1
        | cons x y => exact ⟨x, y, rfl⟩
      have hc9 : c9 ≤ 2000 := CF.out.2 c9 (by rw [hcr]; simp)
      have FT : Hid (fillT v m sp lbb nth (xd, true) = someT v m sp lbb xd 0 c9) := by
        show _ = _
        rw [someT_dots, hcr]
        rfl
      have FI : Hid (∀ i, 0 ≤ i → i < c9 → (if true = true then i < (cntD v m xd).headD 0 else i = nth)) := fun i _ h => by
        rw [hcr]
        simpa using h
      rw [hcr] at CA CF
      clear hcr CC
      unfold dv at CA
      gi_wp2_with fail
      refine wpIn_region_heldR (fun u => u.cell? ⟨w.heap.size, 0, none⟩ = some (.pointer (some ⟨gb, 0, none⟩)) ∧ u.cell? ⟨bk, 0, none⟩ = some (.int .i64 xd.kind) ∧ u.cell? ⟨bk, 1, none⟩ = some (.int .i64 xd.n) ∧ u.cell? ⟨bk, 2, none⟩ = some (.string xd.name) ∧ u.cell? ⟨bk, 3, none⟩ = some (.int .i64 xd.stamp) ∧ u.cell? ⟨bk, 4, none⟩ = some (.int .i64 xd.lib) ∧ u.cell? ⟨bk, 5, none⟩ = some (.slice xa xd.kids.length xc)) (by kernel_rfl) (by rfl) ⟨c0, d0, d1, d2, d3, d4, d5⟩ (fun hS => ?_)
      refine wpAnyH_take (i := 0) (oi := { dst := some 27, op := Op.load 114 (Operand.tmp 4), type := 114, pos := _, after := _, guard := none }) (v := .pointer (some ⟨gb, 0, none⟩)) rfl (by kernel_rfl) (by kernel_rfl) (by kernel_rfl) (fun _ _ _ h => h) (Or.inl ⟨by rfl, fun u hu => by (obtain ⟨p0, p1, p2, p3, p4, p5, p6⟩ := hu; go_simp)⟩) hS ?_
      simp only [Act.put, List.setIfInBounds_toArray, List.set_cons_zero, List.set_cons_succ]
      refine wpAnyH_take (i := 1) (oi := { dst := some 28, op := Op.load 28 (Operand.tmp 11), type := 28, pos := _, after := _, guard := none }) (v := .agg #[.int .i64 xd.kind, .int .i64 xd.n, .string xd.name, .int .i64 xd.stamp, .int .i64 xd.lib, .slice xa xd.kids.length xc]) rfl (by kernel_rfl) (by kernel_rfl) (by kernel_rfl) (fun _ _ _ h => h) (Or.inl ⟨by rfl, fun u hu => by (obtain ⟨p0, p1, p2, p3, p4, p5, p6⟩ := hu; go_simp)⟩) hS ?_
      simp only [Act.put, List.setIfInBounds_toArray, List.set_cons_zero, List.set_cons_succ]
      refine wpAnyH_ready (rs := [2]) (by kernel_rfl) (by simp) (AllReadyH.cons (o := { dst := some 29, op := Op.call { callee := Callee.value (Operand.func 113), args := #[Operand.tmp 27, Operand.tmp 28], argTypes := #[114, 28] }, type := 174, pos := _, after := _, guard := none }) rfl (fun K hK => ?_) AllReadyH.nil)
      go_simp
      go_at_call 113
      refine (CA.out _ (Below.drew (Below.drew (Below.refl _ _)))).mono ?_
      rintro e W2 ⟨hb2, y2, rfl, hown2⟩
      obtain ⟨g2, cp2, rfl, hcell2⟩ : ∃ g2 cp2, y2 = .slice (some ⟨g2, 0, none⟩) (cr.length + 1) cp2 ∧ W2.cell? ⟨g2, 0, none⟩ = some (.int .i64 (c9 : Int)) := by
        rcases hown2.2 with ⟨_, h0⟩ | ⟨gg, cc, cur, hv, _⟩
        · simp at h0
        · refine ⟨gg, cc, hv, ?_⟩
          have := hown2.cells (g := gg) (by rw [hv]; rfl) 0 (.int .i64 (c9 : Int)) (by simp [intsV])
          rwa [addr_add] at this
      have HB : Hid (Below W.heap.size W W2) := (Below.drew (Below.drew (Below.refl _ _))).trans hb2
      have hS2 : W2.cell? ⟨w.heap.size, 0, none⟩ = some (.pointer (some ⟨gb, 0, none⟩)) ∧ W2.cell? ⟨bk, 0, none⟩ = some (.int .i64 xd.kind) ∧ W2.cell? ⟨bk, 1, none⟩ = some (.int .i64 xd.n) ∧ W2.cell? ⟨bk, 2, none⟩ = some (.string xd.name) ∧ W2.cell? ⟨bk, 3, none⟩ = some (.int .i64 xd.stamp) ∧ W2.cell? ⟨bk, 4, none⟩ = some (.int .i64 xd.lib) ∧ W2.cell? ⟨bk, 5, none⟩ = some (.slice xa xd.kids.length xc) := by
        have hc : ∀ q, W2.cell? ⟨bk, q, none⟩ = W.cell? ⟨bk, q, none⟩ := fun q => HB.out.cell (p := ⟨bk, q, none⟩) hbkl
        exact ⟨(H0.out W2 HB.out).1.lb.cell0, (hc _).trans d0, (hc _).trans d1, (hc _).trans d2, (hc _).trans d3, (hc _).trans d4, (hc _).trans d5⟩
      clear hb2 hown2 CA CF
      show K _ W2
      refine hK.out _ _ hS2 (fun hS => ?_)
      clear hK K
      refine wpAnyH_take (i := 3) (oi := { dst := some 30, op := Op.indexAddr 174 (Operand.tmp 29) (Operand.const (Value.int IntKind.i64 0)), type := 0, pos := _, after := _, guard := none }) (v := .pointer (some ⟨g2, 0, none⟩)) rfl (by kernel_rfl) (by kernel_rfl) (by kernel_rfl) (fun _ _ _ h => h) (Or.inl ⟨by rfl, fun u hu => by go_simp⟩) hS ?_
      simp only [Act.put, List.setIfInBounds_toArray, List.set_cons_zero, List.set_cons_succ]
      refine wpAnyH_take (i := 5) (oi := { dst := some 13, op := Op.assign (Operand.const (Value.int IntKind.i64 0)), type := 3, pos := _, after := _, guard := none }) (v := .int .i64 0) rfl (by kernel_rfl) (by kernel_rfl) (by kernel_rfl) (fun _ _ _ h => h) (Or.inl ⟨by rfl, fun u hu => by go_simp⟩) hS ?_
      simp only [Act.put, List.setIfInBounds_toArray, List.set_cons_zero, List.set_cons_succ]
      refine wpAnyH_ready (rs := [4]) (by kernel_rfl) (by simp) (AllReadyH.cons (o := { dst := some 31, op := Op.load 3 (Operand.tmp 30), type := 3, pos := _, after := _, guard := none }) rfl (fun K hK => ?_) AllReadyH.nil)
      go_simp
      refine hK.out _ _ hS2 (fun hS => ?_)
      clear hK K
      refine wpAnyH_take (i := 6) (oi := { dst := some 14, op := Op.assign (Operand.tmp 31), type := 3, pos := _, after := _, guard := none }) (v := .int .i64 (c9 : Int)) rfl (by kernel_rfl) (by kernel_rfl) (by kernel_rfl) (fun _ _ _ h => h) (Or.inl ⟨by rfl, fun u hu => by go_simp⟩) hS ?_
      simp only [Act.put, List.setIfInBounds_toArray, List.set_cons_zero, List.set_cons_succ]
      refine wpAnyH_done (by kernel_rfl) ?_ _
      simp only [NormQ, Exit.then]
      clear d0 d1 d2 d3 d4 d5 c0 c1 hS hS2 hcell2
      gi_wp2_with fail
      gi_loopw [15] (fun i wr => ∃ (k : Nat) (v2 : Value) (e2 : List (Dat × Option Addr × Nat)), 0 ≤ k ∧ k ≤ c9 ∧ i = .int .i64 (k : Int) ∧ Hid (In0 w w1 W B gb nth dp bk #[.int .i64 xd.kind, .int .i64 xd.n, .string xd.name, .int .i64 xd.stamp, .int .i64 xd.lib, .slice xa xd.kids.length xc] v2 e2 wr ∧ e2.map (·.1) = bareL (G ++ someT v m sp lbb xd 0 k) ∧ Ctr gb (n + sizeL (G ++ someT v m sp lbb xd 0 k)) wr ∧ holdsL n (dp + 1) (G ++ someT v m sp lbb xd 0 k) = true)) (fun i _ => c9 - (intOf i).toNat)
      case atStart =>
        refine ⟨0, vv, es, Nat.le_refl _, by omega, rfl, ?_⟩
        rw [someT_nil, List.append_nil]
        exact ⟨(H0.out _ HB.out).1, GF.out.1, (H0.out _ HB.out).2, GF.out.2⟩
      case round =>
        obtain ⟨k, v2, e2, hk1, hk2, rfl, HP⟩ := hrel
        have c0 := HP.out.1.lb.cell0
        have c2 := HP.out.1.lb.cell2
        have d0 : wr.cell? ⟨bk, 0, none⟩ = some (.int .i64 xd.kind) := by simp [World.cell?, HP.out.1.box]
        have d1 : wr.cell? ⟨bk, 1, none⟩ = some (.int .i64 xd.n) := by simp [World.cell?, HP.out.1.box]
        have d2 : wr.cell? ⟨bk, 2, none⟩ = some (.string xd.name) := by simp [World.cell?, HP.out.1.box]
        have d3 : wr.cell? ⟨bk, 3, none⟩ = some (.int .i64 xd.stamp) := by simp [World.cell?, HP.out.1.box]
        have d4 : wr.cell? ⟨bk, 4, none⟩ = some (.int .i64 xd.lib) := by simp [World.cell?, HP.out.1.box]
        have d5 : wr.cell? ⟨bk, 5, none⟩ = some (.slice xa xd.kids.length xc) := by simp [World.cell?, HP.out.1.box]
        by_cases hlt : k < c9
        · have hh : n + sizeL (G ++ someT v m sp lbb xd 0 k) ≤ 2000 := by
            have := HP.out.2.2.2
            unfold holdsL at this
            simp at this
            omega
          have GW : Hid (Gst B gm gb vb mb nv L sp lbb v m wr) := HH.out.2.1.kp HP.out.1.lb.old
          have TH : Hid (Calls Tryz.prog 59 #[.pointer (some ⟨gb, 0, none⟩), dv xd xa xc, .int .i64 (k : Int), .int .i64 ((dp + 1 : Nat) : Int)] wr (ToldG gb (holdsB (n + sizeL (G ++ someT v m sp lbb xd 0 k)) (dp + 1) (fillD v m sp lbb xd k)) (bareD (fillD v m sp lbb xd k)) (n + sizeL (G ++ someT v m sp lbb xd 0 k) + sizeD (fillD v m sp lbb xd k)) wr)) :=
            HH.out.2.2.2.2 xd true HX.out.2.2.1 k (FI.out k hk1 hlt) xa xc _ wr (Lies.stay HP.out.1.kpt.2.2 _ _ _ HX.out.1) HX.out.2.1 hh GW.out HP.out.2.2.1
          have FN : Hid ((bareD (fillD v m sp lbb xd k)).name.size ≤ maxLen) := bareD_name _ (fillD_name v m sp lbb GW.out.names HX.out.2.1 k)
          have hdi : ((dp + 1 : Nat) : Int) = (dp : Int) + 1 := by omega
          rw [hdi] at TH
          unfold dv at TH
          clear hdi
          gi_wp2_with fail
          refine ⟨trivial, (CallsIn.inRound l (callsIn_wide.2 TH.out)).mono ?_⟩
          rintro e w2 ⟨hkp2, hl2, hif⟩
          have IN2 : Hid (In0 w w1 W B gb nth dp bk #[.int .i64 xd.kind, .int .i64 xd.n, .string xd.name, .int .i64 xd.stamp, .int .i64 xd.lib, .slice xa xd.kids.length xc] v2 e2 w2) := HP.out.1.kp hBg HW.out.2.2.2.2.2.1 hbk hkp2
          have hsz2 := hkp2.keep.size
          have HSM : Hid (e2.length ≤ 2000) := by
            have h1 := congrArg List.length HP.out.2.1
            rw [List.length_map, bareL_map, List.length_map] at h1
            have h2 := sizeL_many (G ++ someT v m sp lbb xd 0 k)
            show e2.length ≤ 2000
            omega
          have HN1 : Hid (someT v m sp lbb xd 0 (k + 1) = someT v m sp lbb xd 0 k ++ [fillD v m sp lbb xd k]) := someT_next v m sp lbb xd hk1
          have HD1 : Hid (holdsL n (dp + 1) (G ++ someT v m sp lbb xd 0 (k + 1)) = holdsB (n + sizeL (G ++ someT v m sp lbb xd 0 k)) (dp + 1) (fillD v m sp lbb xd k)) := by
            show _ = _
            rw [HN1.out, ← List.append_assoc, holdsL_one HP.out.2.2.2]
          have HZ1 : Hid (sizeL (G ++ someT v m sp lbb xd 0 (k + 1)) = sizeL (G ++ someT v m sp lbb xd 0 k) + sizeD (fillD v m sp lbb xd k)) := by
            show _ = _
            rw [HN1.out, ← List.append_assoc, sizeL_append _ [fillD v m sp lbb xd k]]
            rfl
          have HB1 : Hid (bareL (G ++ someT v m sp lbb xd 0 (k + 1)) = bareL (G ++ someT v m sp lbb xd 0 k) ++ [bareD (fillD v m sp lbb xd k)]) := by
            show _ = _
            rw [HN1.out, ← List.append_assoc]
            simp [bareL_map]
          clear c0 c2 d0 d1 d2 d3 d4 d5 TH hh
          generalize hy : holdsB (n + sizeL (G ++ someT v m sp lbb xd 0 k)) (dp + 1) (fillD v m sp lbb xd k) = ok at hif HD1
          clear hy
          cases ok with
          | true =>
            rw [if_pos rfl] at hif
            obtain ⟨hc2, a2, cap2, f2, rfl, hcap2, hdc2⟩ := hif
            have HR : Hid (Ctr gb (n + sizeL (G ++ someT v m sp lbb xd 0 (k + 1))) w2 ∧ (bareD (fillD v m sp lbb xd k)).kids.length ≤ cap2 ∧ Dc (New wr w2) w2 f2 a2 (bareD (fillD v m sp lbb xd k)).kids) := ⟨by rw [HZ1.out, ← Nat.add_assoc]; exact hc2, hcap2, hdc2⟩
            clear hc2 hcap2 hdc2
            generalize bareD (fillD v m sp lbb xd k) = bd at HR HB1 FN
            obtain ⟨ao, cp, rfl⟩ : ∃ ao cp, v2 = .slice ao e2.length cp := by
              rcases IN2.out.row.own.2 with ⟨hv, h0⟩ | ⟨gg, cc, cur, hv, _⟩
              · exact ⟨none, 0, by rw [hv, h0]⟩
              · exact ⟨_, _, hv⟩
            unfold dv
            gi_wp2_with fail
            have IN3 : Hid (In0 w w1 W B gb nth dp bk #[.int .i64 xd.kind, .int .i64 xd.n, .string xd.name, .int .i64 xd.stamp, .int .i64 xd.lib, .slice xa xd.kids.length xc] (.slice ao e2.length cp) e2 (w2.alloc (.cells #[.int .i64 bd.kind, .int .i64 bd.n, .string bd.name, .int .i64 bd.stamp, .int .i64 bd.lib, .slice a2 bd.kids.length cap2] 28)) ∧ Nod w2.heap.size bd (.slice a2 bd.kids.length cap2) (w2.alloc (.cells #[.int .i64 bd.kind, .int .i64 bd.n, .string bd.name, .int .i64 bd.stamp, .int .i64 bd.lib, .slice a2 bd.kids.length cap2] 28)) ∧ Ctr gb (n + sizeL (G ++ someT v m sp lbb xd 0 (k + 1))) (w2.alloc (.cells #[.int .i64 bd.kind, .int .i64 bd.n, .string bd.name, .int .i64 bd.stamp, .int .i64 bd.lib, .slice a2 bd.kids.length cap2] 28)) ∧ Dc (New wr (w2.alloc (.cells #[.int .i64 bd.kind, .int .i64 bd.n, .string bd.name, .int .i64 bd.stamp, .int .i64 bd.lib, .slice a2 bd.kids.length cap2] 28))) (w2.alloc (.cells #[.int .i64 bd.kind, .int .i64 bd.n, .string bd.name, .int .i64 bd.stamp, .int .i64 bd.lib, .slice a2 bd.kids.length cap2] 28)) f2 a2 bd.kids ∧ (w2.alloc (.cells #[.int .i64 bd.kind, .int .i64 bd.n, .string bd.name, .int .i64 bd.stamp, .int .i64 bd.lib, .slice a2 bd.kids.length cap2] 28)).heap.size = w2.heap.size + 1) :=
              ⟨IN2.out.below hBg HW.out.2.2.2.2.2.1 hbk ((Below.refl _ _).alloc (Nat.le_refl _) _), Nod.made w2 bd _, HR.out.1.alloc _, Dc.stay (fun q hq => Below.heap_alloc _ _ _ hq.2) (fun q hq => ⟨hq.1, by simp; have := hq.2; omega⟩) _ _ _ HR.out.2.2, by simp⟩
            generalize w2.alloc (.cells #[.int .i64 bd.kind, .int .i64 bd.n, .string bd.name, .int .i64 bd.stamp, .int .i64 bd.lib, .slice a2 bd.kids.length cap2] 28) = W3 at IN3
            have c5 := IN3.out.1.lb.nod5.q5
            have c6 := (IN3.out.1.lb.nod5.alloc (.cells #[.int .i64 0, .int .i64 0, .string ⟨#[]⟩, .int .i64 0, .int .i64 0, .slice none 0 0] 28)).q5
            have hz3 : w2.heap.size + 1 ≤ W3.heap.size := Nat.le_of_eq IN3.out.2.2.2.2.symm
            have hle3 := IN3.out.1.le
            have hw27 : w.heap.size + 7 ≤ w2.heap.size := by
              have := IN2.out.le
              have := HW.out.2.2.2.2.2.1
              omega
            obtain ⟨i0, hinf, hz0, hz1, hz2⟩ := info_parts infoDat
            refine wpIn_region_heldR (fun u => Nod w2.heap.size bd (.slice a2 bd.kids.length cap2) u) (by kernel_rfl) (by rfl) (IN3.out.2.1.after (Below.drew (Below.refl _ _))) (fun hS => ?_)
            refine wpAnyH_take (i := 0) (oi := { dst := some 50, op := Op.fieldAddr 28 (Operand.tmp 10) 5, type := 0, pos := _, after := _, guard := none }) (v := .pointer (some ⟨w.heap.size + 1 + 1 + 1 + 1 + 1, 5, none⟩)) rfl (by kernel_rfl) (by kernel_rfl) (by kernel_rfl) (fun _ _ _ h => h) (Or.inl ⟨by rfl, fun u hu => by go_simp⟩) hS ?_
            simp only [Act.put, List.setIfInBounds_toArray, List.set_cons_zero, List.set_cons_succ]
            refine wpAnyH_take (i := 2) (oi := { dst := some 52, op := Op.load 28 (Operand.tmp 16), type := 28, pos := _, after := _, guard := none }) (v := .agg #[.int .i64 bd.kind, .int .i64 bd.n, .string bd.name, .int .i64 bd.stamp, .int .i64 bd.lib, .slice a2 bd.kids.length cap2]) rfl (by kernel_rfl) (by kernel_rfl) (by kernel_rfl) (fun _ _ _ h => h) (Or.inl ⟨by rfl, fun u hu => by (obtain ⟨p, p0, p1, p2, p3, p4, p5, pz⟩ := hu; go_simp)⟩) hS ?_
            simp only [Act.put, List.setIfInBounds_toArray, List.set_cons_zero, List.set_cons_succ]
            refine wpAnyH_ready (rs := [1, 4]) (by kernel_rfl) (by simp) (AllReadyH.cons (o := { dst := some 51, op := Op.load 26 (Operand.tmp 50), type := 26, pos := _, after := _, guard := none }) rfl (fun K hK => ?_) (AllReadyH.cons (o := { dst := some 54, op := Op.buildSlice 26 1 #[(0, Operand.const (Value.agg #[Value.int IntKind.i64 0, Value.int IntKind.i64 0, Value.string { data := #[] }, Value.int IntKind.i64 0, Value.int IntKind.i64 0, Value.slice none 0 0]))], type := 26, pos := _, after := _, guard := none }) rfl (fun K hK => ?_) AllReadyH.nil))
            · go_simp
              refine hK.out _ _ hS (fun hS => ?_)
              clear hK K
              refine wpAnyH_take (i := 3) (oi := { dst := some 53, op := Op.call { callee := Callee.builtin Builtin.len, args := #[Operand.tmp 51], argTypes := #[26] }, type := 3, pos := _, after := _, guard := none }) (v := .int .i64 (e2.length : Int)) rfl (by kernel_rfl) (by kernel_rfl) (by kernel_rfl) (fun _ _ _ h => h) (Or.inl ⟨by rfl, fun u hu => by go_simp⟩) hS ?_
              simp only [Act.put, List.setIfInBounds_toArray, List.set_cons_zero, List.set_cons_succ]
              refine wpAnyH_ready (rs := [4]) (by kernel_rfl) (by simp) (AllReadyH.cons (o := { dst := some 54, op := Op.buildSlice 26 1 #[(0, Operand.const (Value.agg #[Value.int IntKind.i64 0, Value.int IntKind.i64 0, Value.string { data := #[] }, Value.int IntKind.i64 0, Value.int IntKind.i64 0, Value.slice none 0 0]))], type := 26, pos := _, after := _, guard := none }) rfl (fun K hK => ?_) AllReadyH.nil)
              go_simp
              refine hK.out _ _ ((IN3.out.2.1.after (Below.drew (Below.refl _ _))).alloc _) (fun hS => ?_)
              clear hK K
              refine wpAnyH_ready (rs := [5]) (by kernel_rfl) (by simp) (AllReadyH.cons (o := { dst := some 55, op := Op.call { callee := Callee.builtin Builtin.append, args := #[Operand.tmp 51, Operand.tmp 54], argTypes := #[26, 26] }, type := 26, pos := _, after := _, guard := none }) rfl (fun K hK => ?_) AllReadyH.nil)
              refine step_append_lies _ rfl (.tmp 51) (.tmp 54) 26 rfl (w.heap.size + 7) 28 i0 _ 6 72 Tryz.underlying26 hinf hz0 hz1 hz2 rfl (by decide) (.slice ao e2.length cp) e2.length (flat e2) rfl (by exact IN3.out.1.row.own.drew.alloc _) ⟨W3.heap.size, 0, none⟩ 1 1 [.int .i64 0, .int .i64 0, .string ⟨#[]⟩, .int .i64 0, .int .i64 0, .slice none 0 0] rfl rfl (by exact sixNews W3.drew _ _ _ _ _ _) (by exact sixOne _ _ _ _ _ _ _ _) (by decide) (by have := HSM.out; unfold maxLen; omega) (by have := HSM.out; omega) (by simp; have := HW.out.2.2.2.2.2.1; omega) (W3.heap.size + 1) (by simp) ?_
              intro g5 cap5 w5 hown5 hg5 hat5 hlt5
              obtain ⟨lb5, rz5, ke5, kp5, bx5, ne5, le5, g57, be5⟩ := IN3.out.1.made (z := .cells #[.int .i64 0, .int .i64 0, .string ⟨#[]⟩, .int .i64 0, .int .i64 0, .slice none 0 0] 28) hBg HW.out.2.2.2.2.2.1 hbk (wq := wr) IN3.out.2.2.2.1 (by have := HP.out.1.le; have := HW.out.2.2.2.2.2.1; omega) (fun q hq => (HP.out.1.row.own.lt q hq).2) FN.out HR.out.2.1 hown5 hg5 hat5
              have hne5 : ∀ q, ((.slice ao e2.length cp) : Value).ownBlock = some q → q < w2.heap.size := fun q hq => (IN2.out.row.own.lt q hq).2
              have ct5 : Ctr gb (n + sizeL (G ++ someT v m sp lbb xd 0 (k + 1))) w5 := by
                have h1 := IN3.out.2.2.1.below be5
                exact h1.of_block (hg5.block gb h1.lt (fun e => by have := (IN3.out.1.row.own.lt gb e.symm).1; omega))
              have nd5 : Nod w2.heap.size bd (.slice a2 bd.kids.length cap2) w5 := (IN3.out.2.1.after be5).grown hg5 (fun e => by have := hne5 _ e.symm; omega)
              have hgw : g5 ≠ w2.heap.size := by
                rcases hat5 with e | e
                · have := hne5 _ e
                  omega
                · omega
              have h5l := lb5.size
              have GB := hidd rz5.fill.2
              have DN : Hid _ := In0.done hBg HW.out.2.2.2.2.2.1 hbk lb5 rz5 ke5 kp5 bx5 ne5 le5 g57 ct5
              have y0 : w5.cell? ⟨g5, e2.length * 6, none⟩ = some (.int .i64 0) := (hown5.cellAt _ (by omega)).trans (by rw [List.getElem?_append_right (by rw [flat_len]; exact Nat.le_refl _), flat_len]; simp)
              have y1 : w5.cell? ⟨g5, e2.length * 6 + 1, none⟩ = some (.int .i64 0) := (hown5.cellAt _ (by omega)).trans (by rw [List.getElem?_append_right (by rw [flat_len]; omega), flat_len]; simp)
              have y2 : w5.cell? ⟨g5, e2.length * 6 + 2, none⟩ = some (.string ⟨#[]⟩) := (hown5.cellAt _ (by omega)).trans (by rw [List.getElem?_append_right (by rw [flat_len]; omega), flat_len]; simp)
              have y3 : w5.cell? ⟨g5, e2.length * 6 + 3, none⟩ = some (.int .i64 0) := (hown5.cellAt _ (by omega)).trans (by rw [List.getElem?_append_right (by rw [flat_len]; omega), flat_len]; simp)
              have y4 : w5.cell? ⟨g5, e2.length * 6 + 4, none⟩ = some (.int .i64 0) := (hown5.cellAt _ (by omega)).trans (by rw [List.getElem?_append_right (by rw [flat_len]; omega), flat_len]; simp)
              have y5 : w5.cell? ⟨g5, e2.length * 6 + 5, none⟩ = some (.slice none 0 0) := (hown5.cellAt _ (by omega)).trans (by rw [List.getElem?_append_right (by rw [flat_len]; omega), flat_len]; simp)
              have yz : ∀ q, w5.frozen? ⟨g5, q, none⟩ = false := fun q => hown5.frozenAt q
              have x5 := lb5.nod5.q5
              have xz := lb5.nod5.z
              have hg5b : g5 ≠ w.heap.size + 1 + 1 + 1 + 1 + 1 := by omega
              clear hown5 hg5 hat5 lb5 rz5 ke5 kp5 bx5 le5 be5 ct5 hne5
              refine hK.out _ _ nd5 (fun hS => ?_)
              clear hK K
              simp only [Act.put, List.setIfInBounds_toArray, List.set_cons_zero, List.set_cons_succ]
              refine wpAnyH_take (i := 6) (oi := { dst := some 56, op := Op.indexAddr 26 (Operand.tmp 55) (Operand.tmp 53), type := 0, pos := _, after := _, guard := none }) (v := .pointer (some ⟨g5, e2.length * 6, none⟩)) rfl (by kernel_rfl) (by kernel_rfl) (by kernel_rfl) (fun _ _ _ h => h) (Or.inl ⟨by rfl, fun u hu => by (go_simp; intro hx; omega)⟩) hS ?_
              simp only [Act.put, List.setIfInBounds_toArray, List.set_cons_zero, List.set_cons_succ]
              refine wpAnyH_take (i := 8) (oi := { dst := some 57, op := Op.fieldAddr 28 (Operand.tmp 10) 5, type := 0, pos := _, after := _, guard := none }) (v := .pointer (some ⟨w.heap.size + 1 + 1 + 1 + 1 + 1, 5, none⟩)) rfl (by kernel_rfl) (by kernel_rfl) (by kernel_rfl) (fun _ _ _ h => h) (Or.inl ⟨by rfl, fun u hu => by go_simp⟩) hS ?_
              simp only [Act.put, List.setIfInBounds_toArray, List.set_cons_zero, List.set_cons_succ]
              refine wpAnyH_ready (rs := [7, 9]) (by kernel_rfl) (by simp) (AllReadyH.cons (o := { dst := none, op := Op.store 28 (Operand.tmp 56) (Operand.tmp 52), type := 0, pos := _, after := _, guard := none }) rfl (fun K hK => ?_) (AllReadyH.cons (o := { dst := none, op := Op.store 26 (Operand.tmp 57) (Operand.tmp 55), type := 0, pos := _, after := _, guard := none }) rfl (fun K hK => ?_) AllReadyH.nil))
              · go_simp
                have DA := hidd DN.out.1
                have x6 : (setSixAt w5 g5 (e2.length * 6) (.int .i64 bd.kind) (.int .i64 bd.n) (.string bd.name) (.int .i64 bd.stamp) (.int .i64 bd.lib) (.slice a2 bd.kids.length cap2)).cell? ⟨w.heap.size + 1 + 1 + 1 + 1 + 1, 5, none⟩ = some (.slice ao e2.length cp) := (World.cell?_of_block (GB.out.block _ h5l (by simp; omega))).trans x5
                have xz6 : ∀ q, (setSixAt w5 g5 (e2.length * 6) (.int .i64 bd.kind) (.int .i64 bd.n) (.string bd.name) (.int .i64 bd.stamp) (.int .i64 bd.lib) (.slice a2 bd.kids.length cap2)).frozen? ⟨w.heap.size + 1 + 1 + 1 + 1 + 1, q, none⟩ = false := fun q => (World.frozen?_of_block (GB.out.block _ h5l (by simp; omega))).trans (xz q)
                have n6 : Nod w2.heap.size bd (.slice a2 bd.kids.length cap2) (setSixAt w5 g5 (e2.length * 6) (.int .i64 bd.kind) (.int .i64 bd.n) (.string bd.name) (.int .i64 bd.stamp) (.int .i64 bd.lib) (.slice a2 bd.kids.length cap2)) := hS.grown GB.out (by simp; omega)
                change K _ (setSixAt w5 g5 (e2.length * 6) (.int .i64 bd.kind) (.int .i64 bd.n) (.string bd.name) (.int .i64 bd.stamp) (.int .i64 bd.lib) (.slice a2 bd.kids.length cap2))
                clear y0 y1 y2 y3 y4 y5 yz x5 xz DN GB
                generalize (setSixAt w5 g5 (e2.length * 6) (.int .i64 bd.kind) (.int .i64 bd.n) (.string bd.name) (.int .i64 bd.stamp) (.int .i64 bd.lib) (.slice a2 bd.kids.length cap2)) = W6 at DA x6 xz6 n6 ⊢
                refine hK.out _ _ n6 (fun hS => ?_)
                clear hK K
                refine wpAnyH_ready (rs := [9]) (by kernel_rfl) (by simp) (AllReadyH.cons (o := { dst := none, op := Op.store 26 (Operand.tmp 57) (Operand.tmp 55), type := 0, pos := _, after := _, guard := none }) rfl (fun K hK => ?_) AllReadyH.nil)
                go_simp
                refine hK.out _ _ (n6.keep (c := w.heap.size + 1 + 1 + 1 + 1 + 1) ((Keep.refl _ _).setCell ⟨w.heap.size + 1 + 1 + 1 + 1 + 1, 5, none⟩ rfl _) (by omega)) (fun hS => ?_)
                clear hK K
                refine wpAnyH_done (by kernel_rfl) ?_ _
                simp only [NormQ, Exit.inBlock, Exit.then]
                gi_wp2_with fail
                go_roundw
                case rel =>
                  refine ⟨k + 1, (.slice (some ⟨g5, 0, none⟩) (e2.length + 1) cap5), e2 ++ [(bd, a2, cap2)], by omega, by omega, by go_num, ?_⟩
                  exact ⟨DA.out.1, by rw [HB1.out, List.map_append, HP.out.2.1]; rfl, DA.out.2, HD1.out⟩
                case measure => simp [intOf]; omega
              · go_simp
                have hbb : ((w5.setCell ⟨w.heap.size + 1 + 1 + 1 + 1 + 1, 5, none⟩ (.slice (some ⟨g5, 0, none⟩) (e2.length + 1) cap5))).heap[g5]? = w5.heap[g5]? := Below.heap_setCell _ _ _ _ hg5b
                have yy : ∀ q, ((w5.setCell ⟨w.heap.size + 1 + 1 + 1 + 1 + 1, 5, none⟩ (.slice (some ⟨g5, 0, none⟩) (e2.length + 1) cap5))).cell? ⟨g5, q, none⟩ = w5.cell? ⟨g5, q, none⟩ := fun q => World.cell?_of_block hbb
                have yyz : ∀ q, ((w5.setCell ⟨w.heap.size + 1 + 1 + 1 + 1 + 1, 5, none⟩ (.slice (some ⟨g5, 0, none⟩) (e2.length + 1) cap5))).frozen? ⟨g5, q, none⟩ = false := fun q => (World.frozen?_of_block hbb).trans (yz q)
                have y0' := (yy _).trans y0
                have y1' := (yy _).trans y1
                have y2' := (yy _).trans y2
                have y3' := (yy _).trans y3
                have y4' := (yy _).trans y4
                have y5' := (yy _).trans y5
                have DB := hidd DN.out.2
                have n6 : Nod w2.heap.size bd (.slice a2 bd.kids.length cap2) (w5.setCell ⟨w.heap.size + 1 + 1 + 1 + 1 + 1, 5, none⟩ (.slice (some ⟨g5, 0, none⟩) (e2.length + 1) cap5)) := hS.keep (c := w.heap.size + 1 + 1 + 1 + 1 + 1) ((Keep.refl _ _).setCell ⟨w.heap.size + 1 + 1 + 1 + 1 + 1, 5, none⟩ rfl _) (by omega)
                have GB6 : Hid (∀ W6, Nod w2.heap.size bd (.slice a2 bd.kids.length cap2) W6 → Nod w2.heap.size bd (.slice a2 bd.kids.length cap2) (setSixAt W6 g5 (e2.length * 6) (.int .i64 bd.kind) (.int .i64 bd.n) (.string bd.name) (.int .i64 bd.stamp) (.int .i64 bd.lib) (.slice a2 bd.kids.length cap2))) := fun W6 h => h.of_block (setSixAt_heap W6 g5 _ _ _ _ _ _ _ _ (fun e => hgw e.symm)).1 (by rw [(setSixAt_heap W6 g5 _ _ _ _ _ _ _ _ (fun e => hgw e.symm)).2]; exact h.lt)
                clear y0 y1 y2 y3 y4 y5 yz x5 xz DN GB yy hbb
                generalize (w5.setCell ⟨w.heap.size + 1 + 1 + 1 + 1 + 1, 5, none⟩ (.slice (some ⟨g5, 0, none⟩) (e2.length + 1) cap5)) = W6 at DB y0' y1' y2' y3' y4' y5' yyz n6 ⊢
                refine hK.out _ _ n6 (fun hS => ?_)
                clear hK K
                refine wpAnyH_ready (rs := [7]) (by kernel_rfl) (by simp) (AllReadyH.cons (o := { dst := none, op := Op.store 28 (Operand.tmp 56) (Operand.tmp 52), type := 0, pos := _, after := _, guard := none }) rfl (fun K hK => ?_) AllReadyH.nil)
                go_simp
                refine hK.out _ _ (GB6.out W6 n6) (fun hS => ?_)
                clear hK K
                refine wpAnyH_done (by kernel_rfl) ?_ _
                simp only [NormQ, Exit.inBlock, Exit.then]
                gi_wp2_with fail
                go_roundw
                case rel =>
                  refine ⟨k + 1, (.slice (some ⟨g5, 0, none⟩) (e2.length + 1) cap5), e2 ++ [(bd, a2, cap2)], by omega, by omega, by go_num, ?_⟩
                  exact ⟨DB.out.1, by rw [HB1.out, List.map_append, HP.out.2.1]; rfl, DB.out.2, HD1.out⟩
                case measure => simp [intOf]; omega
            · go_simp
              refine hK.out _ _ ((IN3.out.2.1.after (Below.drew (Below.refl _ _))).alloc _) (fun hS => ?_)
              clear hK K
              refine wpAnyH_ready (rs := [1]) (by kernel_rfl) (by simp) (AllReadyH.cons (o := { dst := some 51, op := Op.load 26 (Operand.tmp 50), type := 26, pos := _, after := _, guard := none }) rfl (fun K hK => ?_) AllReadyH.nil)
              go_simp
              refine hK.out _ _ hS (fun hS => ?_)
              clear hK K
              refine wpAnyH_take (i := 3) (oi := { dst := some 53, op := Op.call { callee := Callee.builtin Builtin.len, args := #[Operand.tmp 51], argTypes := #[26] }, type := 3, pos := _, after := _, guard := none }) (v := .int .i64 (e2.length : Int)) rfl (by kernel_rfl) (by kernel_rfl) (by kernel_rfl) (fun _ _ _ h => h) (Or.inl ⟨by rfl, fun u hu => by go_simp⟩) hS ?_
              simp only [Act.put, List.setIfInBounds_toArray, List.set_cons_zero, List.set_cons_succ]
              refine wpAnyH_ready (rs := [5]) (by kernel_rfl) (by simp) (AllReadyH.cons (o := { dst := some 55, op := Op.call { callee := Callee.builtin Builtin.append, args := #[Operand.tmp 51, Operand.tmp 54], argTypes := #[26, 26] }, type := 26, pos := _, after := _, guard := none }) rfl (fun K hK => ?_) AllReadyH.nil)
              refine step_append_lies _ rfl (.tmp 51) (.tmp 54) 26 rfl (w.heap.size + 7) 28 i0 _ 6 72 Tryz.underlying26 hinf hz0 hz1 hz2 rfl (by decide) (.slice ao e2.length cp) e2.length (flat e2) rfl (by exact IN3.out.1.row.own.drew.alloc _) ⟨W3.heap.size, 0, none⟩ 1 1 [.int .i64 0, .int .i64 0, .string ⟨#[]⟩, .int .i64 0, .int .i64 0, .slice none 0 0] rfl rfl (by exact sixNews W3.drew _ _ _ _ _ _) (by exact sixOne _ _ _ _ _ _ _ _) (by decide) (by have := HSM.out; unfold maxLen; omega) (by have := HSM.out; omega) (by simp; have := HW.out.2.2.2.2.2.1; omega) (W3.heap.size + 1) (by simp) ?_
              intro g5 cap5 w5 hown5 hg5 hat5 hlt5
              obtain ⟨lb5, rz5, ke5, kp5, bx5, ne5, le5, g57, be5⟩ := IN3.out.1.made (z := .cells #[.int .i64 0, .int .i64 0, .string ⟨#[]⟩, .int .i64 0, .int .i64 0, .slice none 0 0] 28) hBg HW.out.2.2.2.2.2.1 hbk (wq := wr) IN3.out.2.2.2.1 (by have := HP.out.1.le; have := HW.out.2.2.2.2.2.1; omega) (fun q hq => (HP.out.1.row.own.lt q hq).2) FN.out HR.out.2.1 hown5 hg5 hat5
              have hne5 : ∀ q, ((.slice ao e2.length cp) : Value).ownBlock = some q → q < w2.heap.size := fun q hq => (IN2.out.row.own.lt q hq).2
              have ct5 : Ctr gb (n + sizeL (G ++ someT v m sp lbb xd 0 (k + 1))) w5 := by
                have h1 := IN3.out.2.2.1.below be5
                exact h1.of_block (hg5.block gb h1.lt (fun e => by have := (IN3.out.1.row.own.lt gb e.symm).1; omega))
              have nd5 : Nod w2.heap.size bd (.slice a2 bd.kids.length cap2) w5 := (IN3.out.2.1.after be5).grown hg5 (fun e => by have := hne5 _ e.symm; omega)
              have hgw : g5 ≠ w2.heap.size := by
                rcases hat5 with e | e
                · have := hne5 _ e
                  omega
                · omega
              have h5l := lb5.size
              have GB := hidd rz5.fill.2
              have DN : Hid _ := In0.done hBg HW.out.2.2.2.2.2.1 hbk lb5 rz5 ke5 kp5 bx5 ne5 le5 g57 ct5
              have y0 : w5.cell? ⟨g5, e2.length * 6, none⟩ = some (.int .i64 0) := (hown5.cellAt _ (by omega)).trans (by rw [List.getElem?_append_right (by rw [flat_len]; exact Nat.le_refl _), flat_len]; simp)
              have y1 : w5.cell? ⟨g5, e2.length * 6 + 1, none⟩ = some (.int .i64 0) := (hown5.cellAt _ (by omega)).trans (by rw [List.getElem?_append_right (by rw [flat_len]; omega), flat_len]; simp)
              have y2 : w5.cell? ⟨g5, e2.length * 6 + 2, none⟩ = some (.string ⟨#[]⟩) := (hown5.cellAt _ (by omega)).trans (by rw [List.getElem?_append_right (by rw [flat_len]; omega), flat_len]; simp)
              have y3 : w5.cell? ⟨g5, e2.length * 6 + 3, none⟩ = some (.int .i64 0) := (hown5.cellAt _ (by omega)).trans (by rw [List.getElem?_append_right (by rw [flat_len]; omega), flat_len]; simp)
              have y4 : w5.cell? ⟨g5, e2.length * 6 + 4, none⟩ = some (.int .i64 0) := (hown5.cellAt _ (by omega)).trans (by rw [List.getElem?_append_right (by rw [flat_len]; omega), flat_len]; simp)
              have y5 : w5.cell? ⟨g5, e2.length * 6 + 5, none⟩ = some (.slice none 0 0) := (hown5.cellAt _ (by omega)).trans (by rw [List.getElem?_append_right (by rw [flat_len]; omega), flat_len]; simp)
              have yz : ∀ q, w5.frozen? ⟨g5, q, none⟩ = false := fun q => hown5.frozenAt q
              have x5 := lb5.nod5.q5
              have xz := lb5.nod5.z
              have hg5b : g5 ≠ w.heap.size + 1 + 1 + 1 + 1 + 1 := by omega
              clear hown5 hg5 hat5 lb5 rz5 ke5 kp5 bx5 le5 be5 ct5 hne5
              refine hK.out _ _ nd5 (fun hS => ?_)
              clear hK K
              simp only [Act.put, List.setIfInBounds_toArray, List.set_cons_zero, List.set_cons_succ]
              refine wpAnyH_take (i := 6) (oi := { dst := some 56, op := Op.indexAddr 26 (Operand.tmp 55) (Operand.tmp 53), type := 0, pos := _, after := _, guard := none }) (v := .pointer (some ⟨g5, e2.length * 6, none⟩)) rfl (by kernel_rfl) (by kernel_rfl) (by kernel_rfl) (fun _ _ _ h => h) (Or.inl ⟨by rfl, fun u hu => by (go_simp; intro hx; omega)⟩) hS ?_
              simp only [Act.put, List.setIfInBounds_toArray, List.set_cons_zero, List.set_cons_succ]
              refine wpAnyH_take (i := 8) (oi := { dst := some 57, op := Op.fieldAddr 28 (Operand.tmp 10) 5, type := 0, pos := _, after := _, guard := none }) (v := .pointer (some ⟨w.heap.size + 1 + 1 + 1 + 1 + 1, 5, none⟩)) rfl (by kernel_rfl) (by kernel_rfl) (by kernel_rfl) (fun _ _ _ h => h) (Or.inl ⟨by rfl, fun u hu => by go_simp⟩) hS ?_
              simp only [Act.put, List.setIfInBounds_toArray, List.set_cons_zero, List.set_cons_succ]
              refine wpAnyH_ready (rs := [7, 9]) (by kernel_rfl) (by simp) (AllReadyH.cons (o := { dst := none, op := Op.store 28 (Operand.tmp 56) (Operand.tmp 52), type := 0, pos := _, after := _, guard := none }) rfl (fun K hK => ?_) (AllReadyH.cons (o := { dst := none, op := Op.store 26 (Operand.tmp 57) (Operand.tmp 55), type := 0, pos := _, after := _, guard := none }) rfl (fun K hK => ?_) AllReadyH.nil))
              · go_simp
                have DA := hidd DN.out.1
                have x6 : (setSixAt w5 g5 (e2.length * 6) (.int .i64 bd.kind) (.int .i64 bd.n) (.string bd.name) (.int .i64 bd.stamp) (.int .i64 bd.lib) (.slice a2 bd.kids.length cap2)).cell? ⟨w.heap.size + 1 + 1 + 1 + 1 + 1, 5, none⟩ = some (.slice ao e2.length cp) := (World.cell?_of_block (GB.out.block _ h5l (by simp; omega))).trans x5
                have xz6 : ∀ q, (setSixAt w5 g5 (e2.length * 6) (.int .i64 bd.kind) (.int .i64 bd.n) (.string bd.name) (.int .i64 bd.stamp) (.int .i64 bd.lib) (.slice a2 bd.kids.length cap2)).frozen? ⟨w.heap.size + 1 + 1 + 1 + 1 + 1, q, none⟩ = false := fun q => (World.frozen?_of_block (GB.out.block _ h5l (by simp; omega))).trans (xz q)
                have n6 : Nod w2.heap.size bd (.slice a2 bd.kids.length cap2) (setSixAt w5 g5 (e2.length * 6) (.int .i64 bd.kind) (.int .i64 bd.n) (.string bd.name) (.int .i64 bd.stamp) (.int .i64 bd.lib) (.slice a2 bd.kids.length cap2)) := hS.grown GB.out (by simp; omega)
                change K _ (setSixAt w5 g5 (e2.length * 6) (.int .i64 bd.kind) (.int .i64 bd.n) (.string bd.name) (.int .i64 bd.stamp) (.int .i64 bd.lib) (.slice a2 bd.kids.length cap2))
                clear y0 y1 y2 y3 y4 y5 yz x5 xz DN GB
                generalize (setSixAt w5 g5 (e2.length * 6) (.int .i64 bd.kind) (.int .i64 bd.n) (.string bd.name) (.int .i64 bd.stamp) (.int .i64 bd.lib) (.slice a2 bd.kids.length cap2)) = W6 at DA x6 xz6 n6 ⊢
                refine hK.out _ _ n6 (fun hS => ?_)
                clear hK K
                refine wpAnyH_ready (rs := [9]) (by kernel_rfl) (by simp) (AllReadyH.cons (o := { dst := none, op := Op.store 26 (Operand.tmp 57) (Operand.tmp 55), type := 0, pos := _, after := _, guard := none }) rfl (fun K hK => ?_) AllReadyH.nil)
                go_simp
                refine hK.out _ _ (n6.keep (c := w.heap.size + 1 + 1 + 1 + 1 + 1) ((Keep.refl _ _).setCell ⟨w.heap.size + 1 + 1 + 1 + 1 + 1, 5, none⟩ rfl _) (by omega)) (fun hS => ?_)
                clear hK K
                refine wpAnyH_done (by kernel_rfl) ?_ _
                simp only [NormQ, Exit.inBlock, Exit.then]
                gi_wp2_with fail
                go_roundw
                case rel =>
                  refine ⟨k + 1, (.slice (some ⟨g5, 0, none⟩) (e2.length + 1) cap5), e2 ++ [(bd, a2, cap2)], by omega, by omega, by go_num, ?_⟩
                  exact ⟨DA.out.1, by rw [HB1.out, List.map_append, HP.out.2.1]; rfl, DA.out.2, HD1.out⟩
                case measure => simp [intOf]; omega
              · go_simp
                have hbb : ((w5.setCell ⟨w.heap.size + 1 + 1 + 1 + 1 + 1, 5, none⟩ (.slice (some ⟨g5, 0, none⟩) (e2.length + 1) cap5))).heap[g5]? = w5.heap[g5]? := Below.heap_setCell _ _ _ _ hg5b
                have yy : ∀ q, ((w5.setCell ⟨w.heap.size + 1 + 1 + 1 + 1 + 1, 5, none⟩ (.slice (some ⟨g5, 0, none⟩) (e2.length + 1) cap5))).cell? ⟨g5, q, none⟩ = w5.cell? ⟨g5, q, none⟩ := fun q => World.cell?_of_block hbb
                have yyz : ∀ q, ((w5.setCell ⟨w.heap.size + 1 + 1 + 1 + 1 + 1, 5, none⟩ (.slice (some ⟨g5, 0, none⟩) (e2.length + 1) cap5))).frozen? ⟨g5, q, none⟩ = false := fun q => (World.frozen?_of_block hbb).trans (yz q)
                have y0' := (yy _).trans y0
                have y1' := (yy _).trans y1
                have y2' := (yy _).trans y2
                have y3' := (yy _).trans y3
                have y4' := (yy _).trans y4
                have y5' := (yy _).trans y5
                have DB := hidd DN.out.2
                have n6 : Nod w2.heap.size bd (.slice a2 bd.kids.length cap2) (w5.setCell ⟨w.heap.size + 1 + 1 + 1 + 1 + 1, 5, none⟩ (.slice (some ⟨g5, 0, none⟩) (e2.length + 1) cap5)) := hS.keep (c := w.heap.size + 1 + 1 + 1 + 1 + 1) ((Keep.refl _ _).setCell ⟨w.heap.size + 1 + 1 + 1 + 1 + 1, 5, none⟩ rfl _) (by omega)
                have GB6 : Hid (∀ W6, Nod w2.heap.size bd (.slice a2 bd.kids.length cap2) W6 → Nod w2.heap.size bd (.slice a2 bd.kids.length cap2) (setSixAt W6 g5 (e2.length * 6) (.int .i64 bd.kind) (.int .i64 bd.n) (.string bd.name) (.int .i64 bd.stamp) (.int .i64 bd.lib) (.slice a2 bd.kids.length cap2))) := fun W6 h => h.of_block (setSixAt_heap W6 g5 _ _ _ _ _ _ _ _ (fun e => hgw e.symm)).1 (by rw [(setSixAt_heap W6 g5 _ _ _ _ _ _ _ _ (fun e => hgw e.symm)).2]; exact h.lt)
                clear y0 y1 y2 y3 y4 y5 yz x5 xz DN GB yy hbb
                generalize (w5.setCell ⟨w.heap.size + 1 + 1 + 1 + 1 + 1, 5, none⟩ (.slice (some ⟨g5, 0, none⟩) (e2.length + 1) cap5)) = W6 at DB y0' y1' y2' y3' y4' y5' yyz n6 ⊢
                refine hK.out _ _ n6 (fun hS => ?_)
                clear hK K
                refine wpAnyH_ready (rs := [7]) (by kernel_rfl) (by simp) (AllReadyH.cons (o := { dst := none, op := Op.store 28 (Operand.tmp 56) (Operand.tmp 52), type := 0, pos := _, after := _, guard := none }) rfl (fun K hK => ?_) AllReadyH.nil)
                go_simp
                refine hK.out _ _ (GB6.out W6 n6) (fun hS => ?_)
                clear hK K
                refine wpAnyH_done (by kernel_rfl) ?_ _
                simp only [NormQ, Exit.inBlock, Exit.then]
                gi_wp2_with fail
                go_roundw
                case rel =>
                  refine ⟨k + 1, (.slice (some ⟨g5, 0, none⟩) (e2.length + 1) cap5), e2 ++ [(bd, a2, cap2)], by omega, by omega, by go_num, ?_⟩
                  exact ⟨DB.out.1, by rw [HB1.out, List.map_append, HP.out.2.1]; rfl, DB.out.2, HD1.out⟩
                case measure => simp [intOf]; omega
          | false =>
            rw [if_neg (by simp)] at hif
            subst hif
            have HF : Hid (holdsL n (dp + 1) (grownT v m sp lbb nth (bareT pre2)) = false) := by
              show _ = false
              obtain ⟨r, hr⟩ := someT_upto v m sp lbb xd (fr := 0) (k := k + 1) (t := c9) (by omega)
              rw [hP2.out, FT.out, hr, ← List.append_assoc]
              exact holdsL_append HD1.out
            have IN3 : Hid (In0 w w1 W B gb nth dp bk #[.int .i64 xd.kind, .int .i64 xd.n, .string xd.name, .int .i64 xd.stamp, .int .i64 xd.lib, .slice xa xd.kids.length xc] v2 e2 (w2.alloc (.cells #[.int .i64 0, .int .i64 0, .string ⟨#[]⟩, .int .i64 0, .int .i64 0, .slice none 0 0] 28))) := IN2.out.below hBg HW.out.2.2.2.2.2.1 hbk ((Below.refl _ _).alloc (Nat.le_refl _) _)
            simp only [dv, zeroD, emS, List.length_nil]
            iterate 24 gi_step
            generalize w2.alloc (.cells #[.int .i64 0, .int .i64 0, .string ⟨#[]⟩, .int .i64 0, .int .i64 0, .slice none 0 0] 28) = W3 at IN3
            obtain ⟨q, q0, q1, q2, q3, q4, q5, qz⟩ := (show LB w gb nth dp #[.int .i64 0, .int .i64 0, .string ⟨#[]⟩, .int .i64 0, .int .i64 0, .slice none 0 0] false v2 W3 from IN3.out.lb).nod3
            simp only at q0 q1 q2 q3 q4 q5
            have t4 := IN3.out.lb.thaw4
            have t5 := IN3.out.lb.cell4
            iterate 18 gi_step
            have LB4 : Hid (LB w gb nth dp z6 false v2 (setSix W3 (w.heap.size + 1 + 1 + 1) (.int .i64 0) (.int .i64 0) (.string ⟨#[]⟩) (.int .i64 0) (.int .i64 0) (.slice none 0 0)) ∧ KeepsFrom w1.heap.size W (setSix W3 (w.heap.size + 1 + 1 + 1) (.int .i64 0) (.int .i64 0) (.string ⟨#[]⟩) (.int .i64 0) (.int .i64 0) (.slice none 0 0))) := by
              have hh := six_heap W3 (w.heap.size + 1 + 1 + 1) (.int .i64 0) (.int .i64 0) (.string ⟨#[]⟩) (.int .i64 0) (.int .i64 0) (.slice none 0 0)
              refine ⟨LB.set3 (x0 := .int .i64 0) (x1 := .int .i64 0) (x2 := .string ⟨#[]⟩) (x3 := .int .i64 0) (x4 := .int .i64 0) (x5 := .slice none 0 0) IN3.out.lb _ _ _ _ _ _, IN3.out.keeps.trans ⟨Nat.le_of_eq hh.2.symm, fun q o _ hq ho => (hh.1 q (fun e => ?_)).trans hq⟩⟩
              subst e
              rw [IN3.out.lb.b3] at hq
              cases hq
              cases ho
            unfold setSix at LB4
            generalize (((((W3.setCell ⟨w.heap.size + 1 + 1 + 1, 0, none⟩ (.int .i64 0)).setCell ⟨w.heap.size + 1 + 1 + 1, 1, none⟩ (.int .i64 0)).setCell ⟨w.heap.size + 1 + 1 + 1, 2, none⟩ (.string ⟨#[]⟩)).setCell ⟨w.heap.size + 1 + 1 + 1, 3, none⟩ (.int .i64 0)).setCell ⟨w.heap.size + 1 + 1 + 1, 4, none⟩ (.int .i64 0)).setCell ⟨w.heap.size + 1 + 1 + 1, 5, none⟩ (.slice none 0 0) = W4 at LB4
            clear q q0 q1 q2 q3 q4 q5 qz t4 t5
            have t4 := LB4.out.1.thaw4
            have t5 := LB4.out.1.cell4
            have FIN : KeepsFrom w1.heap.size W (W4.setCell ⟨w.heap.size + 1 + 1 + 1 + 1, 0, none⟩ (.bool false)) ∧ XL B g gb v m sp lbb nth dp n w1 ks w .ret pre2 (W4.setCell ⟨w.heap.size + 1 + 1 + 1 + 1, 0, none⟩ (.bool false)) := by
              refine ⟨LB4.out.2.trans ⟨by simp [World.setCell], fun q o _ hq ho => (Below.heap_setCell _ _ _ _ (fun e => ?_)).trans hq⟩, rfl, v2, LB4.out.1.set4 false, HF.out⟩
              have e' : q = w.heap.size + 1 + 1 + 1 + 1 := e
              subst e'
              rw [LB4.out.1.b4] at hq
              cases hq
              cases ho
            iterate 8 gi_step
            exact FIN
        · have HE : Hid (grownT v m sp lbb nth (bareT pre2) = G ++ someT v m sp lbb xd 0 k) := hP2.out.trans (by rw [FT.out, show k = c9 by omega])
          gi_wp2_with fail
          refine ⟨HP.out.1.keeps, HP.out.1.kpt, HP.out.1.le, v2, e2, ⟨HP.out.1.lb, HP.out.1.row, ?_, ?_, ?_⟩⟩
          · rw [HE.out]; exact HP.out.2.1
          · rw [HE.out]; exact HP.out.2.2.1
          · rw [HE.out]; exact HP.out.2.2.2

  case done =>
    rintro Dd ys W hD hys ⟨hs0, vv, es, hGn⟩ hK
    have HF : Hid (grownT v m sp lbb nth (bareT ys) = fillL v m sp lbb ks nth) := by
      show _ = _
      rw [hys, fillL_things]
      rfl
    obtain ⟨a9, cap9, f9, hv, hcap9, hdc9⟩ := hGn.row.lie (by
      have h1 := congrArg List.length hGn.same
      rw [List.length_map, bareL_map, List.length_map] at h1
      have h2 := sizeL_many (grownT v m sp lbb nth (bareT ys))
      have h3 := hGn.holds
      unfold holdsL at h3
      simp at h3
      omega)
    rw [hGn.same, HF.out] at hv hcap9 hdc9
    have HG : Hid (Gn w gb nth dp n (fillL v m sp lbb ks nth) vv es W ∧ (bareL (fillL v m sp lbb ks nth)).length ≤ cap9 ∧ Dc (fun b => w.heap.size + 7 ≤ b ∧ b < W.heap.size) W f9 a9 (bareL (fillL v m sp lbb ks nth))) := ⟨by rw [← HF.out]; exact hGn, hcap9, hdc9⟩
    clear hGn hcap9 hdc9 hys HF
    subst hv
    obtain ⟨q, q0, q1, q2, q3, q4, q5, qz⟩ := HG.out.1.lb.nod5
    obtain ⟨r, r0, r1, r2, r3, r4, r5, rz⟩ := (show LB w gb nth dp #[.int .i64 0, .int .i64 0, .string ⟨#[]⟩, .int .i64 0, .int .i64 0, .slice none 0 0] false (.slice a9 (bareL (fillL v m sp lbb ks nth)).length cap9) W from HG.out.1.lb).nod3
    simp only at q0 q1 q2 q3 q4 q5 r0 r1 r2 r3 r4 r5
    have t4 := HG.out.1.lb.thaw4
    have t5 := HG.out.1.lb.cell4
    gi_wp2_with fail
    have lbF : LB w gb nth dp #[.int .i64 4, .int .i64 0, .string ⟨#[]⟩, .int .i64 0, .int .i64 0, .slice a9 (bareL (fillL v m sp lbb ks nth)).length cap9] true (.slice a9 (bareL (fillL v m sp lbb ks nth)).length cap9) ((setSix W (w.heap.size + 1 + 1 + 1) (.int .i64 4) (.int .i64 0) (.string ⟨#[]⟩) (.int .i64 0) (.int .i64 0) (.slice a9 (bareL (fillL v m sp lbb ks nth)).length cap9)).setCell ⟨w.heap.size + 1 + 1 + 1 + 1, 0, none⟩ (.bool true)) :=
      (LB.set3 (x0 := .int .i64 0) (x1 := .int .i64 0) (x2 := .string ⟨#[]⟩) (x3 := .int .i64 0) (x4 := .int .i64 0) (x5 := .slice none 0 0) HG.out.1.lb _ _ _ _ _ _).set4 true
    have hh := six_heap W (w.heap.size + 1 + 1 + 1) (.int .i64 4) (.int .i64 0) (.string ⟨#[]⟩) (.int .i64 0) (.int .i64 0) (.slice a9 (bareL (fillL v m sp lbb ks nth)).length cap9)
    have hbl : ∀ k, k ≠ w.heap.size + 1 + 1 + 1 → k ≠ w.heap.size + 1 + 1 + 1 + 1 → ((setSix W (w.heap.size + 1 + 1 + 1) (.int .i64 4) (.int .i64 0) (.string ⟨#[]⟩) (.int .i64 0) (.int .i64 0) (.slice a9 (bareL (fillL v m sp lbb ks nth)).length cap9)).setCell ⟨w.heap.size + 1 + 1 + 1 + 1, 0, none⟩ (.bool true)).heap[k]? = W.heap[k]? := fun k h1 h2 => (Below.heap_setCell _ _ _ _ h2).trans (hh.1 k h1)
    have hsz : ((setSix W (w.heap.size + 1 + 1 + 1) (.int .i64 4) (.int .i64 0) (.string ⟨#[]⟩) (.int .i64 0) (.int .i64 0) (.slice a9 (bareL (fillL v m sp lbb ks nth)).length cap9)).setCell ⟨w.heap.size + 1 + 1 + 1 + 1, 0, none⟩ (.bool true)).heap.size = W.heap.size := by
      simp [World.setCell, setSix]
    change bodyPostM Fence.wide 3 Tryz.prog Tryz.f90 _ Exit.ret _ ((setSix W (w.heap.size + 1 + 1 + 1) (.int .i64 4) (.int .i64 0) (.string ⟨#[]⟩) (.int .i64 0) (.int .i64 0) (.slice a9 (bareL (fillL v m sp lbb ks nth)).length cap9)).setCell ⟨w.heap.size + 1 + 1 + 1 + 1, 0, none⟩ (.bool true))
    clear hh q q0 q1 q2 q3 q4 q5 qz r r0 r1 r2 r3 r4 r5 rz t4 t5
    generalize (setSix W (w.heap.size + 1 + 1 + 1) (.int .i64 4) (.int .i64 0) (.string ⟨#[]⟩) (.int .i64 0) (.int .i64 0) (.slice a9 (bareL (fillL v m sp lbb ks nth)).length cap9)).setCell ⟨w.heap.size + 1 + 1 + 1 + 1, 0, none⟩ (.bool true) = W9 at lbF hbl hsz ⊢
    have h7 := HW.out.2.2.2.2.2.1
    have hK2 : W9.heap[Dd]? = some (.deferred (some [])) := (hbl Dd (by omega) (by omega)).trans hK
    refine ⟨by simp, .inl ⟨_, _, rfl, run_takeDeferred hK2, ?_⟩⟩
    have h2 := lbF.put (Dd := Dd) (by omega) (.deferred none)
    have hgr : W9.grownBy (W9.putObj Dd (.deferred none)) (some Dd) := ⟨rfl, rfl, rfl, by simp [World.putObj], fun k _ hk => World.putObj_heap_other (fun e => hk (by rw [e]))⟩
    refine ⟨_, ret90 h2.nod3 h2.cell4 rfl rfl, h2.old, h2.old.lt', ?_⟩
    rw [HG.out.1.holds, if_pos rfl]
    refine ⟨?_, a9, cap9, f9, rfl, HG.out.2.1, ?_⟩
    · exact HG.out.1.ctr.of_block ((hgr.block gb (by rw [hsz]; exact HG.out.1.ctr.lt) (fun e => by have := Option.some.inj e; omega)).trans (hbl gb (by omega) (by omega)))
    · have d1 : Dc (fun b => w.heap.size + 7 ≤ b ∧ b < W9.heap.size) W9 f9 a9 (bareL (fillL v m sp lbb ks nth)) := Dc.stay (fun k hk => hbl k (by have := hk.1; omega) (by have := hk.1; omega)) (fun k hk => ⟨hk.1, by rw [hsz]; exact hk.2⟩) _ _ _ HG.out.2.2
      exact Dc.own hgr (fun k hk => hk.2) (fun r e => by cases e; exact ⟨_, hK2, rfl⟩) (fun k hk => ⟨by have := hk.1; omega, Nat.lt_of_lt_of_le hk.2 hgr.size⟩) _ _ _ d1
  case stop =>
    rintro Dd c pre W hD ⟨r, hr⟩ ⟨rfl, vv, hlb, hno⟩ hK
    have HF : Hid (holdsL n (dp + 1) (fillL v m sp lbb ks nth) = false) := by
      show _ = false
      have e : fillL v m sp lbb ks nth = grownT v m sp lbb nth (things ks) := by
        rw [fillL_things]
        rfl
      rw [e, hr, grownT_append]
      exact holdsL_append hno
    have HRW := hidd hlb
    clear hlb hno hr
    gi_wp2
    refine ⟨by simp, .inl ⟨_, _, rfl, run_takeDeferred hK, ?_⟩⟩
    have h2 := HRW.out.put (Dd := Dd) (by have := HW.out.2.2.2.2.2.1; omega) (.deferred none)
    refine ⟨_, ret90 (show LB w gb nth dp #[.int .i64 0, .int .i64 0, .string ⟨#[]⟩, .int .i64 0, .int .i64 0, .slice none 0 0] false vv _ from h2).nod3 h2.cell4 rfl rfl, h2.old, h2.old.lt', ?_⟩
    rw [HF.out]
    rfl
end Go.Proofs.YtgeedaabdonjcaeGreatDoor
