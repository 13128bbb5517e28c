/- Package rule set: what comes of a template's list, where it is known what comes of its things. Package rule set: what grows of a template, where it is known what comes of it. Package rule set: what a list of a template has in memory while it grows. -/
import Derived.Test.YtgeedaabdonjcaeGreatDoorK25
namespace Go.Proofs.YtgeedaabdonjcaeGreatDoor
section
set_option linter.unusedVariables false
set_option linter.unusedSimpArgs false
open Go.RowKit Go.Maps Go.WideMaps

set_option maxRecDepth 100000 in
set_option maxHeartbeats 3200000 in
theorem thing_list (B gm gb vb mb nv L : Nat) (sp lbb : Int) (v : ByteArray → Nat) (m : ByteArray → List Dat) (d : Dat) (a : Option Addr) (cap nth n dp : Nat) (w : World) (hs : d.name.size ≤ maxLen) (h1 : v (symS d.kind d.name) ≠ 1) (h2 : v (symS d.kind d.name) ≠ 2) (ok : Bool) (y : Dat) (n2 : Nat)
    (hG : Gst B gm gb vb mb nv L sp lbb v m w) (hc : Ctr gb n w) (hn : n ≤ 1999) (hdp : dp ≤ 40) (h4 : d.kind = 4)
    (ls : ∀ W, Kp gb w W → Ctr gb (n + 1) W → Calls Tryz.prog 90 #[.pointer (some ⟨gb, 0, none⟩), .slice a d.kids.length cap, .int .i64 (nth : Int), .int .i64 (dp : Int)] W (ToldG gb ok y n2 W)) :
    Calls Tryz.prog 59 #[.pointer (some ⟨gb, 0, none⟩), dv d a cap, .int .i64 (nth : Int), .int .i64 (dp : Int)] w (ToldG gb ok y n2 w) := by
  have LS := hidd ls
  clear ls
  have S8 : Hid (∀ W, Calls Tryz.prog 88 #[dv d a cap] W fun e w' => e = .returned (.string (symS d.kind d.name)) ∧ Below W.heap.size W w') := fun W => symbol88_any d a cap W
  have hsy : (symS d.kind d.name).size ≤ maxLen := by
    unfold symS
    split
    · exact hs
    · exact Nat.zero_le _
  obtain ⟨k, n', nm, st, lb, ks⟩ := d
  simp only at hs h1 h2 S8 hsy h4 LS ⊢
  subst h4
  generalize symS 4 nm = sy at S8 h1 h2 hsy
  have l1 := hG.grw.lt
  have SK : Hid (∀ w3, Below (thW w ⟨4, n', nm, st, lb, ks⟩ (.slice a ks.length cap)).heap.size (thW w ⟨4, n', nm, st, lb, ks⟩ (.slice a ks.length cap)) w3 →
      Gst B gm gb vb mb nv L sp lbb v m w3 ∧ Below w.heap.size w w3 ∧ Nod w.heap.size ⟨4, n', nm, st, lb, ks⟩ (.slice a ks.length cap) w3 ∧ Nod (w.heap.size + 1) zeroD (.slice none 0 0) w3 ∧ Ctr gb n w3) := fun w3 hb => by
    obtain ⟨q1, q2, q3⟩ := thing_head hb
    exact ⟨hG.below q1, q1, q2, q3, hc.below q1⟩
  have c1 := hG.grw.c1
  have hBg := hG.hB
  obtain ⟨c, hcv⟩ : ∃ c, v sy = c := ⟨_, rfl⟩
  rw [hcv] at h1 h2
  have HCV := hidd hcv
  clear hcv
  have hc1 : ((c : Int) == 1) = false := by simp; omega
  have hc2 : ((c : Int) == 2) = false := by simp; omega
  unfold dv at S8 ⊢
  simp only at S8 ⊢
  clear hG hc
  go_enter Tryz.func59, Tryz.ntmps59
  go_wp2_with fail
  go_region_held3 (fun w' => w'.cell? ⟨gb, 1, none⟩ = some (.map (some vb)) ∧ w'.cell? ⟨w.heap.size, 0, none⟩ = some (.int .i64 4) ∧ w'.cell? ⟨w.heap.size, 1, none⟩ = some (.int .i64 n') ∧ w'.cell? ⟨w.heap.size, 2, none⟩ = some (.string nm) ∧ w'.cell? ⟨w.heap.size, 3, none⟩ = some (.int .i64 st) ∧ w'.cell? ⟨w.heap.size, 4, none⟩ = some (.int .i64 lb) ∧ w'.cell? ⟨w.heap.size, 5, none⟩ = some (.slice a ks.length cap))
    (first | exact hc3 | (refine ⟨?_, ?_, ?_, ?_, ?_, ?_, ?_⟩ <;> (first | go_simp | (go_simp; exact c1))))
    (first | (go_at_call 88; refine (S8.out _).mono ?_; rintro e w3 ⟨rfl, hb3⟩; have h3 := SK.out w3 hb3; have hc3 : w3.cell? ⟨gb, 1, none⟩ = some (.map (some vb)) ∧ w3.cell? ⟨w.heap.size, 0, none⟩ = some (.int .i64 4) ∧ w3.cell? ⟨w.heap.size, 1, none⟩ = some (.int .i64 n') ∧ w3.cell? ⟨w.heap.size, 2, none⟩ = some (.string nm) ∧ w3.cell? ⟨w.heap.size, 3, none⟩ = some (.int .i64 st) ∧ w3.cell? ⟨w.heap.size, 4, none⟩ = some (.int .i64 lb) ∧ w3.cell? ⟨w.heap.size, 5, none⟩ = some (.slice a ks.length cap) := ⟨h3.1.grw.c1, h3.2.2.1.q0, h3.2.2.1.q1, h3.2.2.1.q2, h3.2.2.1.q3, h3.2.2.1.q4, h3.2.2.1.q5⟩; have hr3 := h3.1.vars.run (t := 74) Tryz.underlying74 sy hsy; rw [HCV.out] at hr3; have H3 := hidd h3; clear h3 hb3))
  all_goals
    go_wp2_with fail
    refine (takes_ok gb n dp w3 hn hdp H3.out.2.2.2.2).mono ?_
    rintro e w4 ⟨rfl, hw4⟩
    have NO : Hid (Nod (w.heap.size + 1) zeroD (.slice none 0 0) w4 ∧ Kp gb w w4 ∧ Nod w.heap.size ⟨4, n', nm, st, lb, ks⟩ (.slice a ks.length cap) w4 ∧ Ctr gb (n + 1) w4) := by
      rw [hw4]
      exact ⟨H3.out.2.2.2.1.keep ((Keep.refl gb _).setCell ⟨gb, 0, none⟩ rfl _) (by omega), ((Kp.refl l1).below H3.out.2.1).setZero _, H3.out.2.2.1.keep ((Keep.refl gb _).setCell ⟨gb, 0, none⟩ rfl _) (by omega), H3.out.2.2.2.2.at (n + 1)⟩
    clear hw4 hc3
    obtain ⟨p, p0, p1, p2, p3, p4, p5, pz⟩ := NO.out.2.2.1
    simp only at p0 p1 p2 p3 p4 p5
    go_wp2_with fail
    refine (LS.out _ NO.out.2.1 NO.out.2.2.2).mono ?_
    rintro e w5 ⟨hk5, hl5, hif⟩
    have N5 : Hid (Nod (w.heap.size + 1) zeroD (.slice none 0 0) w5 ∧ Kp gb w w5) := ⟨NO.out.1.keep hk5.keep (by omega), NO.out.2.1.trans hk5⟩
    have hs45 := hk5.keep.size
    have ln4 := NO.out.1.lt
    clear hk5 p p0 p1 p2 p3 p4 p5 pz
    obtain ⟨q, q0, q1, q2, q3, q4, q5, qz⟩ := N5.out.1
    simp only [zeroD, emS] at q0 q1 q2 q3 q4 q5
    cases ok with
    | true =>
      rw [if_pos rfl] at hif
      obtain ⟨hc5, a5, cap5, f5, rfl, hcap5, hd5⟩ := hif
      have F5 : Hid (Ctr gb n2 w5 ∧ y.kids.length ≤ cap5 ∧ Dc (New w4 w5) w5 f5 a5 y.kids) := ⟨hc5, hcap5, hd5⟩
      clear hc5 hcap5 hd5
      unfold dv
      simp only
      go_wp2_with fail
      refine bodyPost_ret (ret59 (N5.out.1.store y (.slice a5 y.kids.length cap5)) rfl rfl) rfl ?_
      refine ⟨N5.out.2.six (by omega) _ _ _ _ _ _, ?_, ?_⟩
      · have := F5.out.1.lt
        simpa [World.setCell] using this
      · rw [if_pos rfl]
        refine ⟨?_, a5, cap5, f5, rfl, F5.out.2.1, ?_⟩
        · have e2 := F5.out.1.six (N := w.heap.size + 1) (v0 := .int .i64 y.kind) (v1 := .int .i64 y.n) (v2 := .string y.name) (v3 := .int .i64 y.stamp) (v4 := .int .i64 y.lib) (v5 := .slice a5 y.kids.length cap5) (by omega)
          exact e2
        · have hh := six_heap w5 (w.heap.size + 1) (.int .i64 y.kind) (.int .i64 y.n) (.string y.name) (.int .i64 y.stamp) (.int .i64 y.lib) (.slice a5 y.kids.length cap5)
          refine Dc.stay (fun b hb => hh.1 b (by have h0 := hb.1; omega)) (fun b hb => ⟨by have h0 := hb.1; omega, ?_⟩) f5 _ _ F5.out.2.2
          rw [hh.2]
          exact hb.2
    | false =>
      rw [if_neg (by decide)] at hif
      subst hif
      simp only [dv, zeroD, emS, List.length_nil]
      go_wp2_with fail
      refine bodyPost_ret (ret59 (N5.out.1.store zeroD (.slice none 0 0)) rfl rfl) rfl ?_
      refine ⟨N5.out.2.six (by omega) _ _ _ _ _ _, ?_, rfl⟩
      have := N5.out.2.lt'
      simpa [World.setCell] using this
end
section
set_option linter.unusedVariables false
set_option linter.unusedSimpArgs false
open Go.RowKit Go.Maps Go.WideMaps

theorem ret35 {ts : Array Value} {W : World} {R : Nat} {d : Dat} {v b : Value} (h : Nod R d v W) (h6 : ts[4]? = some (.pointer (some ⟨R, 0, none⟩))) (h7 : ts[5]? = some b) :
    (results Tryz.f35 ts).run Tryz.prog W = .ok (.tuple #[.agg #[.int .i64 d.kind, .int .i64 d.n, .string d.name, .int .i64 d.stamp, .int .i64 d.lib, v], b]) W := by
  obtain ⟨q, q0, q1, q2, q3, q4, q5, qz⟩ := h
  simp [results, Tryz.results35, go_sem, h6, h7, q0, q1, q2, q3, q4, q5]

/-- What is promised of grown. -/
def ToldW (gb : Nat) (fb ok : Bool) (y : Dat) (w : World) (e : Ending) (w' : World) : Prop :=
  Kp gb w w' ∧ if fb then (if ok then ∃ a cap f, e = .returned (.tuple #[dv y a cap, .int .i64 0]) ∧ y.kids.length ≤ cap ∧ Dc (New w w') w' f a y.kids else e = .returned (.tuple #[dv zeroD none 0, .int .i64 4])) else e = .returned (.tuple #[dv zeroD none 0, .int .i64 8])

set_option maxRecDepth 100000 in
set_option maxHeartbeats 3200000 in
theorem grown_any (gb : Nat) (d : Dat) (a : Option Addr) (cap : Nat) (w : World) (fb ok : Bool) (y : Dat) (n2 : Nat) (hg : gb < w.heap.size)
    (ft : ∀ W, Below w.heap.size w W → Calls Tryz.prog 58 #[.pointer (some ⟨gb, 0, none⟩), dv d a cap] W fun e w' => e = .returned (.bool fb) ∧ Below W.heap.size W w')
    (th : fb = true → ∀ W, Below w.heap.size w W → Calls Tryz.prog 59 #[.pointer (some ⟨gb, 0, none⟩), dv d a cap, .int .i64 0, .int .i64 1] W (ToldG gb ok y n2 W)) :
    Calls Tryz.prog 35 #[.pointer (some ⟨gb, 0, none⟩), dv d a cap] w (ToldW gb fb ok y w) := by
  have FT := hidd ft
  have TH := hidd th
  clear ft th
  obtain ⟨k, n', nm, st, lb, ks⟩ := d
  unfold dv at FT TH ⊢
  simp only at FT TH ⊢
  have HEAD : Hid (∀ w3, Below ((w.alloc (.cells #[.int .i64 k, .int .i64 n', .string nm, .int .i64 st, .int .i64 lb, .slice a ks.length cap] 28)).alloc (.cells #[.int .i64 0, .int .i64 0, .string ⟨#[]⟩, .int .i64 0, .int .i64 0, .slice none 0 0] 28)).heap.size ((w.alloc (.cells #[.int .i64 k, .int .i64 n', .string nm, .int .i64 st, .int .i64 lb, .slice a ks.length cap] 28)).alloc (.cells #[.int .i64 0, .int .i64 0, .string ⟨#[]⟩, .int .i64 0, .int .i64 0, .slice none 0 0] 28)) w3 →
      Below w.heap.size w w3 ∧ Nod w.heap.size ⟨k, n', nm, st, lb, ks⟩ (.slice a ks.length cap) w3 ∧ Nod (w.heap.size + 1) zeroD (.slice none 0 0) w3) := fun w3 hb =>
    thing_head (d := ⟨k, n', nm, st, lb, ks⟩) (sl := .slice a ks.length cap) ⟨hb.os, hb.tape, hb.output, hb.size, hb.block⟩
  go_enter Tryz.func35, Tryz.ntmps35
  go_wp2_with fail
  refine (FT.out _ (((Below.refl _ _).alloc (Nat.le_refl _) _).alloc (by simp) _)).mono ?_
  rintro e w3 ⟨rfl, hb3⟩
  have H3 := hidd (HEAD.out w3 hb3)
  clear hb3 HEAD FT
  obtain ⟨p, p0, p1, p2, p3, p4, p5, pz⟩ := H3.out.2.1
  obtain ⟨q, q0, q1, q2, q3, q4, q5, qz⟩ := H3.out.2.2
  simp only [zeroD, emS] at p0 p1 p2 p3 p4 p5 q0 q1 q2 q3 q4 q5
  cases fb with
  | false =>
    go_wp2_with fail
    refine bodyPost_ret (ret35 (H3.out.2.2.store zeroD (.slice none 0 0)) rfl rfl) rfl ?_
    exact ⟨((Kp.refl hg).below H3.out.1).six (by omega) _ _ _ _ _ _, rfl⟩
  | true =>
    go_wp2_with fail
    refine (TH.out (by trivial) _ H3.out.1).mono ?_
    rintro e w5 ⟨hk5, hl5, hif⟩
    have N5 : Hid (Nod (w.heap.size + 1) zeroD (.slice none 0 0) w5 ∧ Kp gb w w5) := ⟨H3.out.2.2.keep hk5.keep (by omega), ((Kp.refl hg).below H3.out.1).trans hk5⟩
    have hs45 := hk5.keep.size
    have ln4 := H3.out.2.2.lt
    clear hk5 p p0 p1 p2 p3 p4 p5 pz q q0 q1 q2 q3 q4 q5 qz
    obtain ⟨q, q0, q1, q2, q3, q4, q5, qz⟩ := N5.out.1
    simp only [zeroD, emS] at q0 q1 q2 q3 q4 q5
    cases ok with
    | true =>
      rw [if_pos rfl] at hif
      obtain ⟨hc5, a5, cap5, f5, rfl, hcap5, hd5⟩ := hif
      have F5 : Hid (y.kids.length ≤ cap5 ∧ Dc (New w3 w5) w5 f5 a5 y.kids) := ⟨hcap5, hd5⟩
      clear hc5 hcap5 hd5
      unfold dv
      simp only
      go_wp2_with fail
      refine bodyPost_ret (ret35 ((N5.out.1.store y (.slice a5 y.kids.length cap5)).alloc _) rfl rfl) rfl ?_
      refine ⟨(N5.out.2.six (by omega) _ _ _ _ _ _).alloc _, ?_⟩
      rw [if_pos rfl, if_pos rfl]
      refine ⟨a5, cap5, f5, rfl, F5.out.1, ?_⟩
      have hh := six_heap w5 (w.heap.size + 1) (.int .i64 y.kind) (.int .i64 y.n) (.string y.name) (.int .i64 y.stamp) (.int .i64 y.lib) (.slice a5 y.kids.length cap5)
      refine Dc.stay (fun b hb => (Below.heap_alloc _ _ _ (by rw [hh.2]; exact hb.2)).trans (hh.1 b (by have h0 := hb.1; omega))) (fun b hb => ⟨by have h0 := hb.1; omega, ?_⟩) f5 _ _ F5.out.2
      rw [World.size_alloc, hh.2]
      have := hb.2
      omega
    | false =>
      rw [if_neg (by decide)] at hif
      subst hif
      simp only [dv, zeroD, emS, List.length_nil]
      go_wp2_with fail
      refine bodyPost_ret (ret35 ((N5.out.1.store zeroD (.slice none 0 0)).alloc _) rfl rfl) rfl ?_
      exact ⟨(N5.out.2.six (by omega) _ _ _ _ _ _).alloc _, rfl⟩
end
section
set_option linter.unusedVariables false
set_option linter.unusedSimpArgs false
open Go.RowKit Go.Maps Go.WideMaps

theorem cell_cells {w : World} {b q : Nat} {v : Value} {o : Obj} (h : w.cell? ⟨b, q, none⟩ = some v) (ho : w.heap[b]? = some o) : o.isCells ≠ false := by
  intro hc
  cases o with
  | cells c t f => cases hc
  | _ => simp [World.cell?, ho] at h

theorem Dc.own {ok ok' : Nat → Prop} {w w' : World} {row : Option Nat} (hg : w.grownBy w' row) (hlt : ∀ k, ok k → k < w.heap.size) (hr : ∀ r, row = some r → ∃ o : Obj, w.heap[r]? = some o ∧ o.isCells = false) (ho : ∀ k, ok k → ok' k) :
    ∀ (f : Nat) (a : Option Addr) (ds : List Dat), Dc ok w f a ds → Dc ok' w' f a ds
  | 0, _, _, h => h
  | f + 1, a, ds, h => by
    obtain ⟨hl, h⟩ := h
    refine ⟨hl, ?_⟩
    rcases h with h | ⟨b, o, ha, hb, h⟩
    · exact Or.inl h
    · refine Or.inr ⟨b, o, ha, ho b hb, fun i d hd => ?_⟩
      obtain ⟨a', cap, c0, c1, c2, c3, c4, c5, hn, hc, hk⟩ := h i d hd
      have hbl : w'.heap[b]? = w.heap[b]? := hg.block b (hlt b hb) fun e => by
        obtain ⟨ob, h1, h2⟩ := hr b e.symm
        exact cell_cells c0 h1 h2
      have e : ∀ q, w'.cell? ⟨b, q, none⟩ = w.cell? ⟨b, q, none⟩ := fun q => World.cell?_of_block hbl
      exact ⟨a', cap, (e _).trans c0, (e _).trans c1, (e _).trans c2, (e _).trans c3, (e _).trans c4, (e _).trans c5, hn, hc, Dc.own hg hlt hr ho f a' _ hk⟩

theorem RowC.own' {B : Nat} {v : Value} {es : List (Dat × Option Addr × Nat)} {w w' : World} {row : Option Nat} (h : RowC B v es w) (hg : w.grownBy w' row) (hr : ∀ r, row = some r → ∃ o : Obj, w.heap[r]? = some o ∧ o.isCells = false) : RowC B v es w' := by
  refine ⟨h.own.kept hg ?_, fun e he => ?_⟩
  · cases hv : v.ownBlock with
    | none => exact Or.inl rfl
    | some k =>
      refine Or.inr fun e => ?_
      obtain ⟨ob, h1, h2⟩ := hr k (by simpa using e.symm)
      rcases h.own.2 with ⟨rfl, h0⟩ | ⟨g, cap, cur, rfl, hbg, hgc, hnc, hcm, hcs, htake⟩
      · cases hv
      · have : g = k := by simpa [Value.ownBlock] using hv
        subst this
        rw [hgc] at h1
        cases h1
        cases h2
  · obtain ⟨hn, hc, f, hd⟩ := h.kids e he
    exact ⟨hn, hc, f, Dc.own hg (fun k hk => hk.2.1) hr (fun k hk => ⟨hk.1, Nat.lt_of_lt_of_le hk.2.1 hg.size, hk.2.2⟩) f _ _ hd⟩

theorem Ctr.of_block {cb n : Nat} {w w' : World} (h : Ctr cb n w) (hb : w'.heap[cb]? = w.heap[cb]?) : Ctr cb n w' := by
  refine ⟨?_, (World.cell?_of_block hb).trans h.cell, (World.frozen?_of_block hb).trans h.thaw⟩
  obtain ⟨o, ho⟩ : ∃ o, w.heap[cb]? = some o := ⟨w.heap[cb]'h.lt, Array.getElem?_eq_getElem h.lt⟩
  rw [ho] at hb
  exact (Array.getElem?_eq_some_iff.1 hb).1
theorem Ctr.cells {cb n : Nat} {w : World} (h : Ctr cb n w) {o : Obj} (ho : w.heap[cb]? = some o) : o.isCells ≠ false := cell_cells h.cell ho

/-- What a list that grows has in memory, but for what has grown. -/
structure LB (w : World) (gb : Nat) (nth dp : Int) (D : Array Value) (res : Bool) (v : Value) (W : World) : Prop where
  old : Kp gb w W
  b0 : W.heap[w.heap.size]? = some (.cells #[.pointer (some ⟨gb, 0, none⟩)] 114 (0, 0))
  b1 : W.heap[w.heap.size + 1]? = some (.cells #[.int .i64 nth] 3 (0, 0))
  b2 : W.heap[w.heap.size + 1 + 1]? = some (.cells #[.int .i64 dp] 3 (0, 0))
  b3 : W.heap[w.heap.size + 1 + 1 + 1]? = some (.cells D 28 (0, 0))
  b4 : W.heap[w.heap.size + 1 + 1 + 1 + 1]? = some (.cells #[.bool res] 4 (0, 0))
  b5 : W.heap[w.heap.size + 1 + 1 + 1 + 1 + 1]? = some (.cells #[.int .i64 4, .int .i64 0, .string ⟨#[]⟩, .int .i64 0, .int .i64 0, v] 28 (0, 0))

section
variable {w W W' : World} {gb : Nat} {nth dp : Int} {D : Array Value} {res : Bool} {v : Value} {es : List (Dat × Option Addr × Nat)}
theorem LB.size (h : LB w gb nth dp D res v W) : w.heap.size + 1 + 1 + 1 + 1 + 1 < W.heap.size := (Array.getElem?_eq_some_iff.1 h.b5).1
theorem LB.start (w : World) (gb : Nat) (hg : gb < w.heap.size) (nth dp : Int) (D : Array Value) (res : Bool) (v : Value) (W : World)
    (hW : W = (((((w.alloc (.cells #[.pointer (some ⟨gb, 0, none⟩)] 114)).alloc (.cells #[.int .i64 nth] 3)).alloc (.cells #[.int .i64 dp] 3)).alloc (.cells D 28)).alloc (.cells #[.bool res] 4)).alloc (.cells #[.int .i64 4, .int .i64 0, .string ⟨#[]⟩, .int .i64 0, .int .i64 0, v] 28)) : LB w gb nth dp D res v W := by
  have a0 := fun (u : World) (o : Obj) (k : Nat) (h : k < u.heap.size) => Below.heap_alloc u o k h
  have n0 := fun (u : World) (o : Obj) => World.alloc_heap_new u o
  subst hW
  refine ⟨((((((Kp.refl hg).alloc _).alloc _).alloc _).alloc _).alloc _).alloc _, ?_, ?_, ?_, ?_, ?_, ?_⟩
  · rw [a0 _ _ _ (by simp only [World.size_alloc]; omega), a0 _ _ _ (by simp only [World.size_alloc]; omega), a0 _ _ _ (by simp only [World.size_alloc]; omega), a0 _ _ _ (by simp only [World.size_alloc]; omega), a0 _ _ _ (by simp only [World.size_alloc]; omega)]
    exact n0 w _
  · rw [a0 _ _ _ (by simp only [World.size_alloc]; omega), a0 _ _ _ (by simp only [World.size_alloc]; omega), a0 _ _ _ (by simp only [World.size_alloc]; omega), a0 _ _ _ (by simp only [World.size_alloc]; omega)]
    have := n0 (w.alloc (.cells #[.pointer (some ⟨gb, 0, none⟩)] 114)) (.cells #[.int .i64 nth] 3)
    rwa [World.size_alloc] at this
  · rw [a0 _ _ _ (by simp only [World.size_alloc]; omega), a0 _ _ _ (by simp only [World.size_alloc]; omega), a0 _ _ _ (by simp only [World.size_alloc]; omega)]
    have := n0 ((w.alloc (.cells #[.pointer (some ⟨gb, 0, none⟩)] 114)).alloc (.cells #[.int .i64 nth] 3)) (.cells #[.int .i64 dp] 3)
    rwa [World.size_alloc, World.size_alloc] at this
  · rw [a0 _ _ _ (by simp only [World.size_alloc]; omega), a0 _ _ _ (by simp only [World.size_alloc]; omega)]
    have := n0 (((w.alloc (.cells #[.pointer (some ⟨gb, 0, none⟩)] 114)).alloc (.cells #[.int .i64 nth] 3)).alloc (.cells #[.int .i64 dp] 3)) (.cells D 28)
    rwa [World.size_alloc, World.size_alloc, World.size_alloc] at this
  · rw [a0 _ _ _ (by simp only [World.size_alloc]; omega)]
    have := n0 ((((w.alloc (.cells #[.pointer (some ⟨gb, 0, none⟩)] 114)).alloc (.cells #[.int .i64 nth] 3)).alloc (.cells #[.int .i64 dp] 3)).alloc (.cells D 28)) (.cells #[.bool res] 4)
    rwa [World.size_alloc, World.size_alloc, World.size_alloc, World.size_alloc] at this
  · have := n0 (((((w.alloc (.cells #[.pointer (some ⟨gb, 0, none⟩)] 114)).alloc (.cells #[.int .i64 nth] 3)).alloc (.cells #[.int .i64 dp] 3)).alloc (.cells D 28)).alloc (.cells #[.bool res] 4)) (.cells #[.int .i64 4, .int .i64 0, .string ⟨#[]⟩, .int .i64 0, .int .i64 0, v] 28)
    rwa [World.size_alloc, World.size_alloc, World.size_alloc, World.size_alloc, World.size_alloc] at this
theorem LB.kp (h : LB w gb nth dp D res v W) (k : Kp gb W W') : LB w gb nth dp D res v W' := by
  have hl := h.old.lt
  have e : ∀ q o, w.heap.size ≤ q → W.heap[q]? = some o → W'.heap[q]? = some o := fun q o hq ho => (k.keep.block q (Array.getElem?_eq_some_iff.1 ho).1 (by simp; omega)).trans ho
  exact ⟨h.old.trans k, e _ _ (by omega) h.b0, e _ _ (by omega) h.b1, e _ _ (by omega) h.b2, e _ _ (by omega) h.b3, e _ _ (by omega) h.b4, e _ _ (by omega) h.b5⟩
theorem LB.below (h : LB w gb nth dp D res v W) (k : Below W.heap.size W W') : LB w gb nth dp D res v W' := h.kp ((Kp.refl h.old.lt').below k)
theorem LB.own (h : LB w gb nth dp D res v W) {row : Option Nat} (hg : W.grownBy W' row) (hr : ∀ r, row = some r → w.heap.size ≤ r ∧ ∃ o : Obj, W.heap[r]? = some o ∧ o.isCells = false) : LB w gb nth dp D res v W' := by
  have hk : ∀ (k : Nat) (c : Array Value) (e : TypeId) (f : Nat × Nat), W.heap[k]? = some (.cells c e f) → W'.heap[k]? = W.heap[k]? := fun k c e f h => hg.block k (Array.getElem?_eq_some_iff.1 h).1 fun q => by
    obtain ⟨_, o, h1, h2⟩ := hr k q.symm
    rw [h] at h1
    cases h1
    cases h2
  exact ⟨h.old.grown hg (fun k hk => (hr k hk).1), (hk _ _ _ _ h.b0).trans h.b0, (hk _ _ _ _ h.b1).trans h.b1, (hk _ _ _ _ h.b2).trans h.b2, (hk _ _ _ _ h.b3).trans h.b3, (hk _ _ _ _ h.b4).trans h.b4, (hk _ _ _ _ h.b5).trans h.b5⟩
/-- A row of its own grows. -/
theorem LB.grown (h : LB w gb nth dp D res v W) {row : Option Nat} (hg : W.grownBy W' row) (hr : ∀ r, row = some r → w.heap.size + 6 ≤ r) : LB w gb nth dp D res v W' := by
  have hk : ∀ (k : Nat) (o : Obj), k < w.heap.size + 6 → W.heap[k]? = some o → W'.heap[k]? = some o := fun k o hlt h => (hg.block k (Array.getElem?_eq_some_iff.1 h).1 fun q => by have := hr k q.symm; omega).trans h
  exact ⟨h.old.grown hg (fun k hk => by have := hr k hk; omega), hk _ _ (by omega) h.b0, hk _ _ (by omega) h.b1, hk _ _ (by omega) h.b2, hk _ _ (by omega) h.b3, hk _ _ (by omega) h.b4, hk _ _ (by omega) h.b5⟩
theorem LB.put (h : LB w gb nth dp D res v W) {Dd : Nat} (hd : w.heap.size + 6 ≤ Dd) (o : Obj) : LB w gb nth dp D res v (W.putObj Dd o) := by
  refine h.grown (row := some Dd) ⟨rfl, rfl, rfl, by simp [World.putObj], fun k _ hk => World.putObj_heap_other (fun e => hk (by rw [e]))⟩ (fun r e => by have := Option.some.inj e; omega)
theorem LB.set5 (h : LB w gb nth dp D res v W) (v' : Value) : LB w gb nth dp D res v' (W.setCell ⟨w.heap.size + 1 + 1 + 1 + 1 + 1, 5, none⟩ v') := by
  have o : ∀ k, k ≠ w.heap.size + 1 + 1 + 1 + 1 + 1 → (W.setCell ⟨w.heap.size + 1 + 1 + 1 + 1 + 1, 5, none⟩ v').heap[k]? = W.heap[k]? := fun k hk => Below.heap_setCell _ _ _ _ hk
  exact ⟨h.old.setNew _ (by show _ ≤ w.heap.size + 1 + 1 + 1 + 1 + 1; omega) _, (o _ (by omega)).trans h.b0, (o _ (by omega)).trans h.b1, (o _ (by omega)).trans h.b2, (o _ (by omega)).trans h.b3, (o _ (by omega)).trans h.b4, heap_setCell h.b5 (by simp) _⟩
theorem LB.set4 (h : LB w gb nth dp D res v W) (y : Bool) : LB w gb nth dp D y v (W.setCell ⟨w.heap.size + 1 + 1 + 1 + 1, 0, none⟩ (.bool y)) := by
  have o : ∀ k, k ≠ w.heap.size + 1 + 1 + 1 + 1 → (W.setCell ⟨w.heap.size + 1 + 1 + 1 + 1, 0, none⟩ (.bool y)).heap[k]? = W.heap[k]? := fun k hk => Below.heap_setCell _ _ _ _ hk
  exact ⟨h.old.setNew _ (by show _ ≤ w.heap.size + 1 + 1 + 1 + 1; omega) _, (o _ (by omega)).trans h.b0, (o _ (by omega)).trans h.b1, (o _ (by omega)).trans h.b2, (o _ (by omega)).trans h.b3, heap_setCell h.b4 (by simp) _, (o _ (by omega)).trans h.b5⟩
theorem LB.set3 {x0 x1 x2 x3 x4 x5 : Value} (h : LB w gb nth dp #[x0, x1, x2, x3, x4, x5] res v W) (v0 v1 v2 v3 v4 v5 : Value) : LB w gb nth dp #[v0, v1, v2, v3, v4, v5] res v (setSix W (w.heap.size + 1 + 1 + 1) v0 v1 v2 v3 v4 v5) := by
  have hh := six_heap W (w.heap.size + 1 + 1 + 1) v0 v1 v2 v3 v4 v5
  have o : ∀ k, k ≠ w.heap.size + 1 + 1 + 1 → (setSix W (w.heap.size + 1 + 1 + 1) v0 v1 v2 v3 v4 v5).heap[k]? = W.heap[k]? := fun k hk => hh.1 k hk
  refine ⟨h.old.six (by omega) _ _ _ _ _ _, (o _ (by omega)).trans h.b0, (o _ (by omega)).trans h.b1, (o _ (by omega)).trans h.b2, ?_, (o _ (by omega)).trans h.b4, (o _ (by omega)).trans h.b5⟩
  have e0 := heap_setCell h.b3 (i := 0) (by simp) v0
  have e1 := heap_setCell e0 (i := 1) (by simp) v1
  have e2 := heap_setCell e1 (i := 2) (by simp) v2
  have e3 := heap_setCell e2 (i := 3) (by simp) v3
  have e4 := heap_setCell e3 (i := 4) (by simp) v4
  have e5 := heap_setCell e4 (i := 5) (by simp) v5
  exact e5
theorem LB.cell0 (h : LB w gb nth dp D res v W) : W.cell? ⟨w.heap.size, 0, none⟩ = some (.pointer (some ⟨gb, 0, none⟩)) := by simp [World.cell?, h.b0]
theorem LB.cell1 (h : LB w gb nth dp D res v W) : W.cell? ⟨w.heap.size + 1, 0, none⟩ = some (.int .i64 nth) := by simp [World.cell?, h.b1]
theorem LB.cell2 (h : LB w gb nth dp D res v W) : W.cell? ⟨w.heap.size + 1 + 1, 0, none⟩ = some (.int .i64 dp) := by simp [World.cell?, h.b2]
theorem LB.cell4 (h : LB w gb nth dp D res v W) : W.cell? ⟨w.heap.size + 1 + 1 + 1 + 1, 0, none⟩ = some (.bool res) := by simp [World.cell?, h.b4]
theorem LB.thaw4 (h : LB w gb nth dp D res v W) : W.frozen? ⟨w.heap.size + 1 + 1 + 1 + 1, 0, none⟩ = false := by simp [World.frozen?, h.b4]
theorem LB.nod3 {x0 x1 x3 x4 : Int} {x2 : ByteArray} {x5 : Value} (h : LB w gb nth dp #[.int .i64 x0, .int .i64 x1, .string x2, .int .i64 x3, .int .i64 x4, x5] res v W) : Nod (w.heap.size + 1 + 1 + 1) ⟨x0, x1, x2, x3, x4, []⟩ x5 W :=
  ⟨by have := h.size; omega, by simp [World.cell?, h.b3], by simp [World.cell?, h.b3], by simp [World.cell?, h.b3], by simp [World.cell?, h.b3], by simp [World.cell?, h.b3], by simp [World.cell?, h.b3], fun j => by simp [World.frozen?, h.b3]⟩
theorem LB.nod5 (h : LB w gb nth dp D res v W) : Nod (w.heap.size + 1 + 1 + 1 + 1 + 1) ⟨4, 0, ⟨#[]⟩, 0, 0, []⟩ v W :=
  ⟨h.size, by simp [World.cell?, h.b5], by simp [World.cell?, h.b5], by simp [World.cell?, h.b5], by simp [World.cell?, h.b5], by simp [World.cell?, h.b5], by simp [World.cell?, h.b5], fun j => by simp [World.frozen?, h.b5]⟩
end

def six (d : Dat) (a : Option Addr) (cap : Nat) : List Value := [.int .i64 d.kind, .int .i64 d.n, .string d.name, .int .i64 d.stamp, .int .i64 d.lib, .slice a d.kids.length cap]

/-- A row that has room for one more: its last place is not written yet. -/
structure RZ (B g cap : Nat) (es : List (Dat × Option Addr × Nat)) (d : Dat) (da : Option Addr) (dc : Nat) (w : World) : Prop where
  own : ∃ z0 z1 z2 z3 z4 z5, w.ownsRow B 28 6 (.slice (some ⟨g, 0, none⟩) (es.length + 1) cap) (es.length + 1) (flat es ++ [z0, z1, z2, z3, z4, z5])
  kids : ∀ e ∈ es ++ [(d, da, dc)], e.1.name.size ≤ maxLen ∧ e.1.kids.length ≤ e.2.2 ∧ ∃ f, Dc (fun b => B ≤ b ∧ b < w.heap.size ∧ some b ≠ some g) w f e.2.1 e.1.kids

theorem RZ.made {B g cap : Nat} {v : Value} {es : List (Dat × Option Addr × Nat)} {wr w w' : World} (o : Obj) {d : Dat} {a : Option Addr} {dc f : Nat} {z0 z1 z2 z3 z4 z5 : Value} (h : RowC B v es w) (hB : B ≤ wr.heap.size) (hv : ∀ k, v.ownBlock = some k → k < wr.heap.size)
    (hd : Dc (New wr w) w f a d.kids) (hn : d.name.size ≤ maxLen) (hcap : d.kids.length ≤ dc)
    (hown : w'.ownsRow B 28 6 (.slice (some ⟨g, 0, none⟩) (es.length + 1) cap) (es.length + 1) (flat es ++ [z0, z1, z2, z3, z4, z5]))
    (hg : (w.alloc o).grownBy w' v.ownBlock) (hw : v.ownBlock = some g ∨ g = w.heap.size + 1) : RZ B g cap es d a dc w' := by
  have hsz : (w.alloc o).heap.size = w.heap.size + 1 := by simp
  have hold : ∀ k, k < w.heap.size → some k ≠ v.ownBlock → w'.heap[k]? = w.heap[k]? := fun k hk hne => (hg.block k (by omega) hne).trans (Below.heap_alloc _ _ _ hk)
  have hnew : ∀ k, k < w.heap.size → some k ≠ v.ownBlock → some k ≠ some g := by
    intro k hk hne
    rcases hw with e | e
    · rw [← e]; exact hne
    · intro e2
      have := Option.some.inj e2
      omega
  have hle : w.heap.size ≤ w'.heap.size := Nat.le_trans (by omega) hg.size
  refine ⟨⟨_, _, _, _, _, _, hown⟩, fun e he => ?_⟩
  rcases List.mem_append.1 he with he | he
  · obtain ⟨hn, hc, f, hd⟩ := h.kids e he
    refine ⟨hn, hc, f, Dc.stay (fun k hk => hold k hk.2.1 hk.2.2) (fun k hk => ⟨hk.1, Nat.lt_of_lt_of_le hk.2.1 hle, hnew k hk.2.1 hk.2.2⟩) f _ _ hd⟩
  · simp at he
    subst he
    have hne : ∀ k, New wr w k → some k ≠ v.ownBlock := by
      intro k hk e
      have := hv k e.symm
      have := hk.1
      omega
    exact ⟨hn, hcap, f, Dc.stay (fun k hk => hold k hk.2 (hne k hk)) (fun k hk => ⟨by have := hk.1; omega, Nat.lt_of_lt_of_le hk.2 hle, hnew k hk.2 (hne k hk)⟩) f _ _ hd⟩

theorem RZ.set {B g cap : Nat} {es : List (Dat × Option Addr × Nat)} {d : Dat} {da : Option Addr} {dc : Nat} {w : World} (h : RZ B g cap es d da dc w) {p : Addr} (hp : p.block < B) (u : Value) : RZ B g cap es d da dc (w.setCell p u) := by
  obtain ⟨⟨z0, z1, z2, z3, z4, z5, ho⟩, hk⟩ := h
  have hlt := (ho.lt g rfl).1
  refine ⟨⟨z0, z1, z2, z3, z4, z5, ownsRow_setCell_other ho (by simp [Value.ownBlock]; omega) u⟩, fun e he => ?_⟩
  obtain ⟨h1, h2, f, h3⟩ := hk e he
  exact ⟨h1, h2, f, Dc.stay (fun k hk => Below.heap_setCell _ _ _ _ (by have := hk.1; omega)) (fun k hk => ⟨hk.1, by simpa [World.setCell] using hk.2.1, hk.2.2⟩) f _ _ h3⟩

theorem set_six (xs : List Value) (z0 z1 z2 z3 z4 z5 v0 v1 v2 v3 v4 v5 : Value) :
    ((((((xs ++ [z0, z1, z2, z3, z4, z5]).set xs.length v0).set (xs.length + 1) v1).set (xs.length + 2) v2).set (xs.length + 3) v3).set (xs.length + 4) v4).set (xs.length + 5) v5 = xs ++ [v0, v1, v2, v3, v4, v5] := by
  simp [List.set_append]

theorem flat_len (es : List (Dat × Option Addr × Nat)) : (flat es).length = es.length * 6 := by
  induction es with
  | nil => rfl
  | cons e r ih =>
    have e1 : flat (e :: r) = six e.1 e.2.1 e.2.2 ++ flat r := by simp [flat, six]
    rw [e1, List.length_append, ih, List.length_cons]
    simp [six]
    omega

/-- Six cells from a place on. -/
def setSixAt (w : World) (N q : Nat) (v0 v1 v2 v3 v4 v5 : Value) : World := (((((w.setCell ⟨N, q, none⟩ v0).setCell ⟨N, q + 1, none⟩ v1).setCell ⟨N, q + 2, none⟩ v2).setCell ⟨N, q + 3, none⟩ v3).setCell ⟨N, q + 4, none⟩ v4).setCell ⟨N, q + 5, none⟩ v5

/-- Its last place is written. -/
theorem RZ.fill {B g cap : Nat} {es : List (Dat × Option Addr × Nat)} {d : Dat} {da : Option Addr} {dc : Nat} {w : World} (h : RZ B g cap es d da dc w) :
    RowC B (.slice (some ⟨g, 0, none⟩) (es.length + 1) cap) (es ++ [(d, da, dc)]) (setSixAt w g (es.length * 6) (.int .i64 d.kind) (.int .i64 d.n) (.string d.name) (.int .i64 d.stamp) (.int .i64 d.lib) (.slice da d.kids.length dc)) ∧
    w.grownBy (setSixAt w g (es.length * 6) (.int .i64 d.kind) (.int .i64 d.n) (.string d.name) (.int .i64 d.stamp) (.int .i64 d.lib) (.slice da d.kids.length dc)) (some g) := by
  obtain ⟨⟨z0, z1, z2, z3, z4, z5, ho⟩, hk⟩ := h
  have s0 := ho.stored (es.length * 6) (.int .i64 d.kind)
  have s1 := s0.1.stored (es.length * 6 + 1) (.int .i64 d.n)
  have s2 := s1.1.stored (es.length * 6 + 2) (.string d.name)
  have s3 := s2.1.stored (es.length * 6 + 3) (.int .i64 d.stamp)
  have s4 := s3.1.stored (es.length * 6 + 4) (.int .i64 d.lib)
  have s5 := s4.1.stored (es.length * 6 + 5) (.slice da d.kids.length dc)
  have hg : w.grownBy (setSixAt w g (es.length * 6) (.int .i64 d.kind) (.int .i64 d.n) (.string d.name) (.int .i64 d.stamp) (.int .i64 d.lib) (.slice da d.kids.length dc)) (some g) := by
    have t : ∀ {a b c : World}, a.grownBy b (some g) → b.grownBy c (some g) → a.grownBy c (some g) := fun h k => Keep.trans h k
    exact t (t (t (t (t s0.2 s1.2) s2.2) s3.2) s4.2) s5.2
  have e1 : flat (es ++ [(d, da, dc)]) = flat es ++ [.int .i64 d.kind, .int .i64 d.n, .string d.name, .int .i64 d.stamp, .int .i64 d.lib, .slice da d.kids.length dc] := by simp [flat]
  refine ⟨⟨?_, fun e he => ?_⟩, hg⟩
  · rw [e1, List.length_append]
    have := s5.1
    rw [← flat_len es, set_six, flat_len es] at this
    exact this
  · obtain ⟨h1, h2, f, h3⟩ := hk e he
    exact ⟨h1, h2, f, Dc.stay (fun k hk => hg.block k hk.2.1 hk.2.2) (fun k hk => ⟨hk.1, Nat.lt_of_lt_of_le hk.2.1 hg.size, hk.2.2⟩) f _ _ h3⟩
end
end Go.Proofs.YtgeedaabdonjcaeGreatDoor
