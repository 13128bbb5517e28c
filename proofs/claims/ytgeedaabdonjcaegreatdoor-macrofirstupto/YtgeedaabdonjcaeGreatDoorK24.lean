/- Package rule set: what comes of a variable of a template. -/
import Derived.Test.YtgeedaabdonjcaeGreatDoorK23
import Derived.StillTail
import Derived.BigQuiet
import Derived.Deep.QuietTactic
namespace Go.Proofs.YtgeedaabdonjcaeGreatDoor
set_option linter.unusedVariables false
set_option linter.unusedSimpArgs false
open Go.RowKit Go.Maps Go.WideMaps

theorem still_of_quiet {P : Program} {ops : Array Oper} {W : World} {Q : Act → Prop} : ∀ (l : List Oper) (a : Act), wpQuiet P ops (fun w' => w' = W) Q l a → wpStill P ops W Q l a
  | [], _, h => h
  | o :: rest, a, h => by
    unfold wpQuiet at h
    unfold wpStill
    by_cases hw : Region.wanted o (yielded ops a.tmps) = true
    · rw [if_pos hw] at h ⊢
      obtain ⟨v, h1, h2⟩ := h
      have h3 := h1 W rfl
      have h4 := still_of_quiet rest _ h2
      unfold Oper.quietAt at h3
      unfold Oper.still
      generalize (execOp a.eval o).run P W = r at h3
      unfold Oper.quietUpon at h3
      unfold Oper.stillUpon
      split at h3
      · obtain ⟨rfl, rfl⟩ := h3; exact ⟨rfl, h4⟩
      · obtain ⟨rfl, rfl⟩ := h3; exact ⟨rfl, h4⟩
      · obtain ⟨rfl, h5⟩ := h3; exact ⟨rfl, v, h5, h4⟩
      · exact h3.elim
    · rw [if_neg hw] at h ⊢
      exact still_of_quiet rest _ h

/-- A region that draws its order, whose first operations only read and whose others wait for them all. -/
theorem wp_region_quiet_tail {P : Program} {id : Nat} {Q : Exit → Act → World → Prop} {a : Act} {w : World} {l : List Oper} (n : Nat) (hm : P.follows .mixedOrders = true) (hB : Region.lexTailB .any l.toArray n = true)
    (h : wpQuiet P l.toArray (fun w' => w' = w.drew) (fun a' => wpList P l.toArray Q (l.drop n) a' w.drew) (l.take n) a) : (Code.region id l.toArray true).wp P Q a w :=
  wp_region_still_tail n hm hB (still_of_quiet _ _ h)

theorem ret59 {ts : Array Value} {W : World} {R : Nat} {d : Dat} {v b : Value} (h : Nod R d v W) (h6 : ts[8]? = some (.pointer (some ⟨R, 0, none⟩))) (h7 : ts[9]? = some b) :
    (results Tryz.f59 ts).run Tryz.prog W = .ok (.tuple #[.agg #[.int .i64 d.kind, .int .i64 d.n, .string d.name, .int .i64 d.stamp, .int .i64 d.lib, v], b]) W := by
  obtain ⟨q, q0, q1, q2, q3, q4, q5, qz⟩ := h
  simp [results, Tryz.results59, go_sem, h6, h7, q0, q1, q2, q3, q4, q5]

/-- The world in which thing begins. -/
def thW (w : World) (d : Dat) (sl : Value) : World :=
  ((w.alloc (.cells #[.int .i64 d.kind, .int .i64 d.n, .string d.name, .int .i64 d.stamp, .int .i64 d.lib, sl] 28)).alloc (.cells #[.int .i64 0, .int .i64 0, .string ⟨#[]⟩, .int .i64 0, .int .i64 0, .slice none 0 0] 28)).drew
theorem thing_head {w w3 : World} {d : Dat} {sl : Value} (h : Below (thW w d sl).heap.size (thW w d sl) w3) : Below w.heap.size w w3 ∧ Nod w.heap.size d sl w3 ∧ Nod (w.heap.size + 1) zeroD (.slice none 0 0) w3 := by
  have hb1 : Below w.heap.size w (thW w d sl) := Below.drew (((Below.refl _ _).alloc (Nat.le_refl _) _).alloc (by simp) _)
  have hz : (thW w d sl).heap.size = w.heap.size + 1 + 1 := by unfold thW; simp
  refine ⟨hb1.trans (h.mono (by rw [hz]; omega)), ?_, ?_⟩
  · have h1 := (Nod.made w d sl).alloc (.cells #[.int .i64 0, .int .i64 0, .string ⟨#[]⟩, .int .i64 0, .int .i64 0, .slice none 0 0] 28)
    exact (h1.after (w' := thW w d sl) (Below.drew (Below.refl _ _))).after h
  · have h1 := Nod.made (w.alloc (.cells #[.int .i64 d.kind, .int .i64 d.n, .string d.name, .int .i64 d.stamp, .int .i64 d.lib, sl] 28)) zeroD (.slice none 0 0)
    have h2 : (w.alloc (.cells #[.int .i64 d.kind, .int .i64 d.n, .string d.name, .int .i64 d.stamp, .int .i64 d.lib, sl] 28)).heap.size = w.heap.size + 1 := by simp
    rw [h2] at h1
    exact (h1.after (w' := thW w d sl) (Below.drew (Below.refl _ _))).after h

set_option maxRecDepth 100000 in
set_option maxHeartbeats 6400000 in
theorem thing_one (B gm gb vb mb nv L : Nat) (sp lbb : Int) (v : ByteArray → Nat) (m : ByteArray → List Dat) (d : Dat) (a : Option Addr) (cap nth n dp : Nat) (w : World) (hs : d.name.size ≤ maxLen) (h1 : v (symS d.kind d.name) = 1) (x : Dat) (hx : (m d.name)[0]? = some x)
    (hG : Gst B gm gb vb mb nv L sp lbb v m w) (hc : Ctr gb n w) (hn : n ≤ 2000) (hdp : dp ≤ 41) :
    Calls Tryz.prog 59 #[.pointer (some ⟨gb, 0, none⟩), dv d a cap, .int .i64 (nth : Int), .int .i64 (dp : Int)] w (ToldG gb (holdsB n dp x) (bareD x) (n + sizeD x) w) := by
  have S8 : Hid (∀ W, Calls Tryz.prog 88 #[dv d a cap] W fun e w' => e = .returned (.string (symS d.kind d.name)) ∧ Below W.heap.size W w') := fun W => symbol88_any d a cap W
  have hsy : (symS d.kind d.name).size ≤ maxLen := by
    unfold symS
    split
    · exact hs
    · exact Nat.zero_le _
  obtain ⟨k, n', nm, st, lb, ks⟩ := d
  simp only at hs h1 S8 hsy hx ⊢
  generalize symS k nm = sy at S8 h1 hsy
  have l1 := hG.grw.lt
  have SK : Hid (∀ w3, Below (thW w ⟨k, n', nm, st, lb, ks⟩ (.slice a ks.length cap)).heap.size (thW w ⟨k, n', nm, st, lb, ks⟩ (.slice a ks.length cap)) w3 →
      Gst B gm gb vb mb nv L sp lbb v m w3 ∧ Below w.heap.size w w3 ∧ Nod w.heap.size ⟨k, n', nm, st, lb, ks⟩ (.slice a ks.length cap) w3 ∧ Nod (w.heap.size + 1) zeroD (.slice none 0 0) w3 ∧ Ctr gb n w3) := fun w3 hb => by
    obtain ⟨q1, q2, q3⟩ := thing_head hb
    exact ⟨hG.below q1, q1, q2, q3, hc.below q1⟩
  have c1 := hG.grw.c1
  have HX : Hid ((m nm)[0]? = some x) := hx
  have hpos : 0 < (m nm).length := by
    rcases Nat.eq_zero_or_pos (m nm).length with h | h
    · rw [List.length_eq_zero_iff.1 h] at hx
      simp at hx
    · exact h
  have HF : Hid ((m nm).length ≤ 2000) := hG.few nm
  have hBg := hG.hB
  obtain ⟨gg, fc, da, dc, hr69, hgg, hggl, e0, e1, e2, e3, e4, e5, en, eL, eS⟩ := hG.entry hs hx
  rw [Nat.zero_mul] at e0
  rw [Nat.zero_mul, Nat.zero_add] at e1 e2 e3 e4 e5
  have HE : Hid (LC B w gm da x.kids ∧ smD x ∧ B ≤ w.heap.size ∧ (∀ w', Below w.heap.size w w' → (Instr.lookup 69 (.map (some mb)) (.string nm) false).run Tryz.prog w' = .ok (.slice (some ⟨gg, 0, none⟩) (m nm).length fc) w') ∧ (w.cell? ⟨gg, 0, none⟩ = some (.int .i64 x.kind) ∧ w.cell? ⟨gg, 1, none⟩ = some (.int .i64 x.n) ∧ w.cell? ⟨gg, 2, none⟩ = some (.string x.name) ∧ w.cell? ⟨gg, 3, none⟩ = some (.int .i64 x.stamp) ∧ w.cell? ⟨gg, 4, none⟩ = some (.int .i64 x.lib) ∧ w.cell? ⟨gg, 5, none⟩ = some (.slice da x.kids.length dc))) := ⟨eL, eS, by omega, hr69, e0, e1, e2, e3, e4, e5⟩
  clear hr69 e0 e1 e2 e3 e4 e5 en eL eS
  unfold dv at S8 ⊢
  simp only at S8 ⊢
  clear hG hx hc
  go_enter Tryz.func59, Tryz.ntmps59
  go_wp2_with fail
  go_region_held3 (fun w' => w'.cell? ⟨gb, 1, none⟩ = some (.map (some vb)) ∧ w'.cell? ⟨w.heap.size, 0, none⟩ = some (.int .i64 k) ∧ w'.cell? ⟨w.heap.size, 1, none⟩ = some (.int .i64 n') ∧ w'.cell? ⟨w.heap.size, 2, none⟩ = some (.string nm) ∧ w'.cell? ⟨w.heap.size, 3, none⟩ = some (.int .i64 st) ∧ w'.cell? ⟨w.heap.size, 4, none⟩ = some (.int .i64 lb) ∧ w'.cell? ⟨w.heap.size, 5, none⟩ = some (.slice a ks.length cap))
    (first | exact hc3 | (refine ⟨?_, ?_, ?_, ?_, ?_, ?_, ?_⟩ <;> (first | go_simp | (go_simp; exact c1))))
    (first | (go_at_call 88; refine (S8.out _).mono ?_; rintro e w3 ⟨rfl, hb3⟩; have h3 := SK.out w3 hb3; have hc3 : w3.cell? ⟨gb, 1, none⟩ = some (.map (some vb)) ∧ w3.cell? ⟨w.heap.size, 0, none⟩ = some (.int .i64 k) ∧ w3.cell? ⟨w.heap.size, 1, none⟩ = some (.int .i64 n') ∧ w3.cell? ⟨w.heap.size, 2, none⟩ = some (.string nm) ∧ w3.cell? ⟨w.heap.size, 3, none⟩ = some (.int .i64 st) ∧ w3.cell? ⟨w.heap.size, 4, none⟩ = some (.int .i64 lb) ∧ w3.cell? ⟨w.heap.size, 5, none⟩ = some (.slice a ks.length cap) := ⟨h3.1.grw.c1, h3.2.2.1.q0, h3.2.2.1.q1, h3.2.2.1.q2, h3.2.2.1.q3, h3.2.2.1.q4, h3.2.2.1.q5⟩; have hr3 := h3.1.vars.run (t := 74) Tryz.underlying74 sy hsy; rw [h1] at hr3; have H3 := hidd h3; clear h3 hb3))
  all_goals
    have hr69 := HE.out.2.2.2.1 w3 H3.out.2.1
    have hr69' := HE.out.2.2.2.1 w3.drew (Below.drew H3.out.2.1)
    have og : ∀ q, w3.cell? ⟨gg, q, none⟩ = w.cell? ⟨gg, q, none⟩ := fun q => H3.out.2.1.cell (p := ⟨gg, q, none⟩) hggl
    have e0 := (og 0).trans HE.out.2.2.2.2.1
    have e1 := (og 1).trans HE.out.2.2.2.2.2.1
    have e2 := (og 2).trans HE.out.2.2.2.2.2.2.1
    have e3 := (og 3).trans HE.out.2.2.2.2.2.2.2.1
    have e4 := (og 4).trans HE.out.2.2.2.2.2.2.2.2.1
    have e5 := (og 5).trans HE.out.2.2.2.2.2.2.2.2.2
    clear og
    have d2 := H3.out.1.grw.c2
    have q2 := hc3.2.2.2.1
    have lb3 := H3.out.2.2.1.lt
    have lg3 := H3.out.1.grw.lt
    have hfl := HF.out
    have hsw3 := H3.out.2.1.size
    clear hc3 SK S8
    have CP : Hid (Calls Tryz.prog 89 #[.pointer (some ⟨gb, 0, none⟩), dv x da dc, .int .i64 (dp : Int)] w3.drew (ToldG gb (holdsB n dp x) (bareD x) (n + sizeD x) w3.drew)) :=
      copied_any B gb hBg gm x da dc n dp _ (HE.out.1.below ((Below.drew H3.out.2.1).mono HE.out.2.2.1)) HE.out.2.1 hn hdp (H3.out.2.2.2.2.below (Below.drew (Below.refl _ _)))
    unfold dv at CP
    have K4 : Hid (∀ w4, Kp gb w3.drew w4 → (w4.cell? ⟨gb, 2, none⟩ = some (.map (some mb)) ∧ w4.cell? ⟨w.heap.size, 2, none⟩ = some (.string nm) ∧ w4.cell? ⟨gg, 0, none⟩ = some (.int .i64 x.kind) ∧ w4.cell? ⟨gg, 1, none⟩ = some (.int .i64 x.n) ∧ w4.cell? ⟨gg, 2, none⟩ = some (.string x.name) ∧ w4.cell? ⟨gg, 3, none⟩ = some (.int .i64 x.stamp) ∧ w4.cell? ⟨gg, 4, none⟩ = some (.int .i64 x.lib) ∧ w4.cell? ⟨gg, 5, none⟩ = some (.slice da x.kids.length dc)) ∧ Nod (w.heap.size + 1) zeroD (.slice none 0 0) w4 ∧ Kp gb w w4) := fun w4 hk => by
      have kk : Kp gb w w4 := ((Kp.refl l1).below (Below.drew H3.out.2.1)).trans hk
      have o : ∀ b q, b ≠ gb → b < w3.heap.size → w4.cell? ⟨b, q, none⟩ = w3.cell? ⟨b, q, none⟩ := fun b q hb hl => hk.keep.cell (p := ⟨b, q, none⟩) hl hb
      refine ⟨⟨(hk.rest 2 (by decide)).trans d2, (o _ _ (by omega) lb3).trans q2, (o _ _ hgg (by omega)).trans e0, (o _ _ hgg (by omega)).trans e1, (o _ _ hgg (by omega)).trans e2, (o _ _ hgg (by omega)).trans e3, (o _ _ hgg (by omega)).trans e4, (o _ _ hgg (by omega)).trans e5⟩, (H3.out.2.2.2.1.after (w' := w3.drew) (Below.drew (Below.refl _ _))).keep hk.keep (by omega), kk⟩
    have K5 : Hid (∀ (w4 : World) (v0 v1 v2 v3 v4 v5 : Value), (w4.cell? ⟨gb, 2, none⟩ = some (.map (some mb)) ∧ w4.cell? ⟨w.heap.size, 2, none⟩ = some (.string nm) ∧ w4.cell? ⟨gg, 0, none⟩ = some (.int .i64 x.kind) ∧ w4.cell? ⟨gg, 1, none⟩ = some (.int .i64 x.n) ∧ w4.cell? ⟨gg, 2, none⟩ = some (.string x.name) ∧ w4.cell? ⟨gg, 3, none⟩ = some (.int .i64 x.stamp) ∧ w4.cell? ⟨gg, 4, none⟩ = some (.int .i64 x.lib) ∧ w4.cell? ⟨gg, 5, none⟩ = some (.slice da x.kids.length dc)) → (((((((w4.setCell ⟨w.heap.size + 1, 0, none⟩ v0).setCell ⟨w.heap.size + 1, 1, none⟩ v1).setCell ⟨w.heap.size + 1, 2, none⟩ v2).setCell ⟨w.heap.size + 1, 3, none⟩ v3).setCell ⟨w.heap.size + 1, 4, none⟩ v4).setCell ⟨w.heap.size + 1, 5, none⟩ v5).cell? ⟨gb, 2, none⟩ = some (.map (some mb)) ∧ ((((((w4.setCell ⟨w.heap.size + 1, 0, none⟩ v0).setCell ⟨w.heap.size + 1, 1, none⟩ v1).setCell ⟨w.heap.size + 1, 2, none⟩ v2).setCell ⟨w.heap.size + 1, 3, none⟩ v3).setCell ⟨w.heap.size + 1, 4, none⟩ v4).setCell ⟨w.heap.size + 1, 5, none⟩ v5).cell? ⟨w.heap.size, 2, none⟩ = some (.string nm) ∧ ((((((w4.setCell ⟨w.heap.size + 1, 0, none⟩ v0).setCell ⟨w.heap.size + 1, 1, none⟩ v1).setCell ⟨w.heap.size + 1, 2, none⟩ v2).setCell ⟨w.heap.size + 1, 3, none⟩ v3).setCell ⟨w.heap.size + 1, 4, none⟩ v4).setCell ⟨w.heap.size + 1, 5, none⟩ v5).cell? ⟨gg, 0, none⟩ = some (.int .i64 x.kind) ∧ ((((((w4.setCell ⟨w.heap.size + 1, 0, none⟩ v0).setCell ⟨w.heap.size + 1, 1, none⟩ v1).setCell ⟨w.heap.size + 1, 2, none⟩ v2).setCell ⟨w.heap.size + 1, 3, none⟩ v3).setCell ⟨w.heap.size + 1, 4, none⟩ v4).setCell ⟨w.heap.size + 1, 5, none⟩ v5).cell? ⟨gg, 1, none⟩ = some (.int .i64 x.n) ∧ ((((((w4.setCell ⟨w.heap.size + 1, 0, none⟩ v0).setCell ⟨w.heap.size + 1, 1, none⟩ v1).setCell ⟨w.heap.size + 1, 2, none⟩ v2).setCell ⟨w.heap.size + 1, 3, none⟩ v3).setCell ⟨w.heap.size + 1, 4, none⟩ v4).setCell ⟨w.heap.size + 1, 5, none⟩ v5).cell? ⟨gg, 2, none⟩ = some (.string x.name) ∧ ((((((w4.setCell ⟨w.heap.size + 1, 0, none⟩ v0).setCell ⟨w.heap.size + 1, 1, none⟩ v1).setCell ⟨w.heap.size + 1, 2, none⟩ v2).setCell ⟨w.heap.size + 1, 3, none⟩ v3).setCell ⟨w.heap.size + 1, 4, none⟩ v4).setCell ⟨w.heap.size + 1, 5, none⟩ v5).cell? ⟨gg, 3, none⟩ = some (.int .i64 x.stamp) ∧ ((((((w4.setCell ⟨w.heap.size + 1, 0, none⟩ v0).setCell ⟨w.heap.size + 1, 1, none⟩ v1).setCell ⟨w.heap.size + 1, 2, none⟩ v2).setCell ⟨w.heap.size + 1, 3, none⟩ v3).setCell ⟨w.heap.size + 1, 4, none⟩ v4).setCell ⟨w.heap.size + 1, 5, none⟩ v5).cell? ⟨gg, 4, none⟩ = some (.int .i64 x.lib) ∧ ((((((w4.setCell ⟨w.heap.size + 1, 0, none⟩ v0).setCell ⟨w.heap.size + 1, 1, none⟩ v1).setCell ⟨w.heap.size + 1, 2, none⟩ v2).setCell ⟨w.heap.size + 1, 3, none⟩ v3).setCell ⟨w.heap.size + 1, 4, none⟩ v4).setCell ⟨w.heap.size + 1, 5, none⟩ v5).cell? ⟨gg, 5, none⟩ = some (.slice da x.kids.length dc))) := fun w4 v0 v1 v2 v3 v4 v5 h => by
      have hh := six_heap w4 (w.heap.size + 1) v0 v1 v2 v3 v4 v5
      have o : ∀ b q, b ≠ w.heap.size + 1 → ((((((w4.setCell ⟨w.heap.size + 1, 0, none⟩ v0).setCell ⟨w.heap.size + 1, 1, none⟩ v1).setCell ⟨w.heap.size + 1, 2, none⟩ v2).setCell ⟨w.heap.size + 1, 3, none⟩ v3).setCell ⟨w.heap.size + 1, 4, none⟩ v4).setCell ⟨w.heap.size + 1, 5, none⟩ v5).cell? ⟨b, q, none⟩ = w4.cell? ⟨b, q, none⟩ := fun b q hb => World.cell?_of_block (hh.1 b hb)
      obtain ⟨h1, h2, h3, h4, h5, h6, h7, h8⟩ := h
      exact ⟨(o _ _ (by omega)).trans h1, (o _ _ (by omega)).trans h2, (o _ _ (by omega)).trans h3, (o _ _ (by omega)).trans h4, (o _ _ (by omega)).trans h5, (o _ _ (by omega)).trans h6, (o _ _ (by omega)).trans h7, (o _ _ (by omega)).trans h8⟩
    have hsz3 := H3.out.2.1.size
    have KB : Hid (w3.drew.cell? ⟨gb, 2, none⟩ = some (.map (some mb)) ∧ w3.drew.cell? ⟨w.heap.size, 2, none⟩ = some (.string nm) ∧ w3.drew.cell? ⟨gg, 0, none⟩ = some (.int .i64 x.kind) ∧ w3.drew.cell? ⟨gg, 1, none⟩ = some (.int .i64 x.n) ∧ w3.drew.cell? ⟨gg, 2, none⟩ = some (.string x.name) ∧ w3.drew.cell? ⟨gg, 3, none⟩ = some (.int .i64 x.stamp) ∧ w3.drew.cell? ⟨gg, 4, none⟩ = some (.int .i64 x.lib) ∧ w3.drew.cell? ⟨gg, 5, none⟩ = some (.slice da x.kids.length dc)) := ⟨d2, q2, e0, e1, e2, e3, e4, e5⟩
    cases hy : holdsB n dp x with
    | true =>
      rw [hy] at CP
      obtain ⟨bx, hbx⟩ : ∃ bx, bx = bareD x := ⟨_, rfl⟩
      rw [← hbx] at CP ⊢
      have CT : Hid (Calls Tryz.prog 89 #[.pointer (some ⟨gb, 0, none⟩), .agg #[.int .i64 x.kind, .int .i64 x.n, .string x.name, .int .i64 x.stamp, .int .i64 x.lib, .slice da x.kids.length dc], .int .i64 (dp : Int)] w3.drew fun e w4 => Kp gb w3.drew w4 ∧ Ctr gb (n + sizeD x) w4 ∧ ∃ a4 cap4 f4, e = .returned (.tuple #[.agg #[.int .i64 bx.kind, .int .i64 bx.n, .string bx.name, .int .i64 bx.stamp, .int .i64 bx.lib, .slice a4 bx.kids.length cap4], .bool true]) ∧ bx.kids.length ≤ cap4 ∧ Dc (New w3.drew w4) w4 f4 a4 bx.kids) :=
        CP.out.mono fun e w4 h => by
          obtain ⟨k1, k2, k3⟩ := h
          rw [if_pos rfl] at k3
          exact ⟨k1, k3.1, k3.2⟩
      have HY : Hid (holdsB n dp x = true ∧ bx = bareD x) := ⟨hy, hbx⟩
      clear CP hbx hy
      go_wp2_with fail
      have hposi : (0 : Int) < ((m nm).length : Int) := by omega
      generalize hml : (m nm).length = ml at hposi hr69 hr69' hpos hfl
      clear hml HF HX
      go_region_held3 (fun w' => w'.cell? ⟨gb, 2, none⟩ = some (.map (some mb)) ∧ w'.cell? ⟨w.heap.size, 2, none⟩ = some (.string nm) ∧ w'.cell? ⟨gg, 0, none⟩ = some (.int .i64 x.kind) ∧ w'.cell? ⟨gg, 1, none⟩ = some (.int .i64 x.n) ∧ w'.cell? ⟨gg, 2, none⟩ = some (.string x.name) ∧ w'.cell? ⟨gg, 3, none⟩ = some (.int .i64 x.stamp) ∧ w'.cell? ⟨gg, 4, none⟩ = some (.int .i64 x.lib) ∧ w'.cell? ⟨gg, 5, none⟩ = some (.slice da x.kids.length dc))
        (first | (with_reducible exact KB.out) | (with_reducible exact hc5) | (with_reducible exact K5.out _ _ _ _ _ _ _ hc5))
        (first | (go_at_call 89; refine CT.out.mono ?_; rintro e w4 ⟨hk4, hc4, a4, cap4, f4, rfl, hcap4, hd4⟩; obtain ⟨hc5, hn4, hkw4⟩ := K4.out w4 hk4; have N4 := hidd hn4; have F4 : Hid (Kp gb w w4 ∧ Ctr gb (n + sizeD x) w4 ∧ bx.kids.length ≤ cap4 ∧ Dc (New w3.drew w4) w4 f4 a4 bx.kids) := ⟨hkw4, hc4, hcap4, hd4⟩; obtain ⟨p, p0, p1, p2, p3, p4, p5, pz⟩ := hn4; simp only [zeroD, emS] at p0 p1 p2 p3 p4 p5; clear hk4 hc4 hcap4 hd4 hkw4))
      all_goals (go_wp2_with fail)
      all_goals
        refine bodyPost_ret (ret59 (N4.out.store bx (.slice a4 bx.kids.length cap4)) rfl rfl) rfl ?_
        rw [HY.out.1, ← HY.out.2]
        refine ⟨F4.out.1.six (by omega) _ _ _ _ _ _, ?_, ?_⟩
        · have := F4.out.2.1.lt
          simpa [World.setCell] using this
        · rw [if_pos rfl]
          refine ⟨?_, a4, cap4, f4, rfl, F4.out.2.2.1, ?_⟩
          · have h2 := F4.out.2.1.six (N := w.heap.size + 1) (v0 := .int .i64 bx.kind) (v1 := .int .i64 bx.n) (v2 := .string bx.name) (v3 := .int .i64 bx.stamp) (v4 := .int .i64 bx.lib) (v5 := .slice a4 bx.kids.length cap4) (by omega)
            exact h2
          · have hh := six_heap w4 (w.heap.size + 1) (.int .i64 bx.kind) (.int .i64 bx.n) (.string bx.name) (.int .i64 bx.stamp) (.int .i64 bx.lib) (.slice a4 bx.kids.length cap4)
            have ln := H3.out.2.2.2.1.lt
            refine Dc.stay (fun b hb => hh.1 b (by have h0 : w3.heap.size ≤ b := hb.1; omega)) (fun b hb => ⟨by have h0 : w3.heap.size ≤ b := hb.1; omega, ?_⟩) f4 _ _ F4.out.2.2.2
            rw [hh.2]
            exact hb.2
    | false =>
      rw [hy] at CP
      have CT : Hid (Calls Tryz.prog 89 #[.pointer (some ⟨gb, 0, none⟩), .agg #[.int .i64 x.kind, .int .i64 x.n, .string x.name, .int .i64 x.stamp, .int .i64 x.lib, .slice da x.kids.length dc], .int .i64 (dp : Int)] w3.drew fun e w4 => Kp gb w3.drew w4 ∧ e = .returned (.tuple #[.agg #[.int .i64 0, .int .i64 0, .string ⟨#[]⟩, .int .i64 0, .int .i64 0, .slice none 0 0], .bool false])) :=
        CP.out.mono fun e w4 h => by
          obtain ⟨k1, k2, k3⟩ := h
          rw [if_neg (by decide)] at k3
          exact ⟨k1, k3⟩
      have HY : Hid (holdsB n dp x = false) := hy
      clear CP hy
      go_wp2_with fail
      have hposi : (0 : Int) < ((m nm).length : Int) := by omega
      generalize hml : (m nm).length = ml at hposi hr69 hr69' hpos hfl
      clear hml HF HX
      go_region_held3 (fun w' => w'.cell? ⟨gb, 2, none⟩ = some (.map (some mb)) ∧ w'.cell? ⟨w.heap.size, 2, none⟩ = some (.string nm) ∧ w'.cell? ⟨gg, 0, none⟩ = some (.int .i64 x.kind) ∧ w'.cell? ⟨gg, 1, none⟩ = some (.int .i64 x.n) ∧ w'.cell? ⟨gg, 2, none⟩ = some (.string x.name) ∧ w'.cell? ⟨gg, 3, none⟩ = some (.int .i64 x.stamp) ∧ w'.cell? ⟨gg, 4, none⟩ = some (.int .i64 x.lib) ∧ w'.cell? ⟨gg, 5, none⟩ = some (.slice da x.kids.length dc))
        (first | (with_reducible exact KB.out) | (with_reducible exact hc5) | (with_reducible exact K5.out _ _ _ _ _ _ _ hc5))
        (first | (go_at_call 89; refine CT.out.mono ?_; rintro e w4 ⟨hk4, rfl⟩; obtain ⟨hc5, hn4, hkw4⟩ := K4.out w4 hk4; have N4 := hidd hn4; have F4 : Hid (Kp gb w w4) := hkw4; obtain ⟨p, p0, p1, p2, p3, p4, p5, pz⟩ := hn4; simp only [zeroD, emS] at p0 p1 p2 p3 p4 p5; clear hk4 hkw4))
      all_goals (go_wp2_with fail)
      all_goals
        refine bodyPost_ret (ret59 (N4.out.store zeroD (.slice none 0 0)) rfl rfl) rfl ?_
        rw [HY.out]
        refine ⟨F4.out.six (by omega) _ _ _ _ _ _, ?_, ?_⟩
        · have := F4.out.lt'
          simpa [World.setCell] using this
        · rfl
end Go.Proofs.YtgeedaabdonjcaeGreatDoor
