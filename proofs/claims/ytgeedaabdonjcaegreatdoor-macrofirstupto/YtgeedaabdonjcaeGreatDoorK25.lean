/- Package rule set: what comes of a variable of a template that stands for many. Package rule set: what comes of a template's nodes that are no variables. Package rule set: what comes of a template's symbols that are no variables. -/
import Derived.Test.YtgeedaabdonjcaeGreatDoorK24
namespace Go.Proofs.YtgeedaabdonjcaeGreatDoor
section
set_option linter.unusedVariables false
set_option linter.unusedSimpArgs false
open Go.RowKit Go.Maps Go.WideMaps

set_option maxRecDepth 100000 in
set_option maxHeartbeats 6400000 in
theorem thing_many (B gm gb vb mb nv L : Nat) (sp lbb : Int) (v : ByteArray → Nat) (m : ByteArray → List Dat) (d : Dat) (a : Option Addr) (cap nth n dp : Nat) (w : World) (hs : d.name.size ≤ maxLen) (h1 : v (symS d.kind d.name) = 2) (x : Dat) (hx : (m d.name)[nth]? = some x)
    (hG : Gst B gm gb vb mb nv L sp lbb v m w) (hc : Ctr gb n w) (hn : n ≤ 2000) (hdp : dp ≤ 41) :
    Calls Tryz.prog 59 #[.pointer (some ⟨gb, 0, none⟩), dv d a cap, .int .i64 (nth : Int), .int .i64 (dp : Int)] w (ToldG gb (holdsB n dp x) (bareD x) (n + sizeD x) w) := by
  have S8 : Hid (∀ W, Calls Tryz.prog 88 #[dv d a cap] W fun e w' => e = .returned (.string (symS d.kind d.name)) ∧ Below W.heap.size W w') := fun W => symbol88_any d a cap W
  have hsy : (symS d.kind d.name).size ≤ maxLen := by
    unfold symS
    split
    · exact hs
    · exact Nat.zero_le _
  obtain ⟨k, n', nm, st, lb, ks⟩ := d
  simp only at hs h1 S8 hsy hx ⊢
  generalize symS k nm = sy at S8 h1 hsy
  have l1 := hG.grw.lt
  have SK : Hid (∀ w3, Below (thW w ⟨k, n', nm, st, lb, ks⟩ (.slice a ks.length cap)).heap.size (thW w ⟨k, n', nm, st, lb, ks⟩ (.slice a ks.length cap)) w3 →
      Gst B gm gb vb mb nv L sp lbb v m w3 ∧ Below w.heap.size w w3 ∧ Nod w.heap.size ⟨k, n', nm, st, lb, ks⟩ (.slice a ks.length cap) w3 ∧ Nod (w.heap.size + 1) zeroD (.slice none 0 0) w3 ∧ Ctr gb n w3) := fun w3 hb => by
    obtain ⟨q1, q2, q3⟩ := thing_head hb
    exact ⟨hG.below q1, q1, q2, q3, hc.below q1⟩
  have c1 := hG.grw.c1
  have HX : Hid ((m nm)[nth]? = some x) := hx
  have hpos : nth < (m nm).length := (List.getElem?_eq_some_iff.1 hx).1
  have HF : Hid ((m nm).length ≤ 2000) := hG.few nm
  have hBg := hG.hB
  obtain ⟨gg, fc, da, dc, hr69, hgg, hggl, e0, e1, e2, e3, e4, e5, en, eL, eS⟩ := hG.entry hs hx
  have HE : Hid (LC B w gm da x.kids ∧ smD x ∧ B ≤ w.heap.size ∧ (∀ w', Below w.heap.size w w' → (Instr.lookup 69 (.map (some mb)) (.string nm) false).run Tryz.prog w' = .ok (.slice (some ⟨gg, 0, none⟩) (m nm).length fc) w') ∧ (w.cell? ⟨gg, nth * 6, none⟩ = some (.int .i64 x.kind) ∧ w.cell? ⟨gg, nth * 6 + 1, none⟩ = some (.int .i64 x.n) ∧ w.cell? ⟨gg, nth * 6 + 2, none⟩ = some (.string x.name) ∧ w.cell? ⟨gg, nth * 6 + 3, none⟩ = some (.int .i64 x.stamp) ∧ w.cell? ⟨gg, nth * 6 + 4, none⟩ = some (.int .i64 x.lib) ∧ w.cell? ⟨gg, nth * 6 + 5, none⟩ = some (.slice da x.kids.length dc))) := ⟨eL, eS, by omega, hr69, e0, e1, e2, e3, e4, e5⟩
  clear hr69 e0 e1 e2 e3 e4 e5 en eL eS
  unfold dv at S8 ⊢
  simp only at S8 ⊢
  clear hG hx hc
  go_enter Tryz.func59, Tryz.ntmps59
  go_wp2_with fail
  go_region_held3 (fun w' => w'.cell? ⟨gb, 1, none⟩ = some (.map (some vb)) ∧ w'.cell? ⟨w.heap.size, 0, none⟩ = some (.int .i64 k) ∧ w'.cell? ⟨w.heap.size, 1, none⟩ = some (.int .i64 n') ∧ w'.cell? ⟨w.heap.size, 2, none⟩ = some (.string nm) ∧ w'.cell? ⟨w.heap.size, 3, none⟩ = some (.int .i64 st) ∧ w'.cell? ⟨w.heap.size, 4, none⟩ = some (.int .i64 lb) ∧ w'.cell? ⟨w.heap.size, 5, none⟩ = some (.slice a ks.length cap))
    (first | exact hc3 | (refine ⟨?_, ?_, ?_, ?_, ?_, ?_, ?_⟩ <;> (first | go_simp | (go_simp; exact c1))))
    (first | (go_at_call 88; refine (S8.out _).mono ?_; rintro e w3 ⟨rfl, hb3⟩; have h3 := SK.out w3 hb3; have hc3 : w3.cell? ⟨gb, 1, none⟩ = some (.map (some vb)) ∧ w3.cell? ⟨w.heap.size, 0, none⟩ = some (.int .i64 k) ∧ w3.cell? ⟨w.heap.size, 1, none⟩ = some (.int .i64 n') ∧ w3.cell? ⟨w.heap.size, 2, none⟩ = some (.string nm) ∧ w3.cell? ⟨w.heap.size, 3, none⟩ = some (.int .i64 st) ∧ w3.cell? ⟨w.heap.size, 4, none⟩ = some (.int .i64 lb) ∧ w3.cell? ⟨w.heap.size, 5, none⟩ = some (.slice a ks.length cap) := ⟨h3.1.grw.c1, h3.2.2.1.q0, h3.2.2.1.q1, h3.2.2.1.q2, h3.2.2.1.q3, h3.2.2.1.q4, h3.2.2.1.q5⟩; have hr3 := h3.1.vars.run (t := 74) Tryz.underlying74 sy hsy; rw [h1] at hr3; have H3 := hidd h3; clear h3 hb3))
  all_goals
    have hr69 := HE.out.2.2.2.1 w3 H3.out.2.1
    have hr69' := HE.out.2.2.2.1 w3.drew (Below.drew H3.out.2.1)
    have og : ∀ q, w3.cell? ⟨gg, q, none⟩ = w.cell? ⟨gg, q, none⟩ := fun q => H3.out.2.1.cell (p := ⟨gg, q, none⟩) hggl
    have e0 := (og (nth * 6)).trans HE.out.2.2.2.2.1
    have e1 := (og (nth * 6 + 1)).trans HE.out.2.2.2.2.2.1
    have e2 := (og (nth * 6 + 2)).trans HE.out.2.2.2.2.2.2.1
    have e3 := (og (nth * 6 + 3)).trans HE.out.2.2.2.2.2.2.2.1
    have e4 := (og (nth * 6 + 4)).trans HE.out.2.2.2.2.2.2.2.2.1
    have e5 := (og (nth * 6 + 5)).trans HE.out.2.2.2.2.2.2.2.2.2
    clear og
    have d2 := H3.out.1.grw.c2
    have q2 := hc3.2.2.2.1
    have lb3 := H3.out.2.2.1.lt
    have lg3 := H3.out.1.grw.lt
    have hfl := HF.out
    have hsw3 := H3.out.2.1.size
    clear hc3 SK S8
    have CP : Hid (Calls Tryz.prog 89 #[.pointer (some ⟨gb, 0, none⟩), dv x da dc, .int .i64 (dp : Int)] w3.drew (ToldG gb (holdsB n dp x) (bareD x) (n + sizeD x) w3.drew)) :=
      copied_any B gb hBg gm x da dc n dp _ (HE.out.1.below ((Below.drew H3.out.2.1).mono HE.out.2.2.1)) HE.out.2.1 hn hdp (H3.out.2.2.2.2.below (Below.drew (Below.refl _ _)))
    unfold dv at CP
    have K4 : Hid (∀ w4, Kp gb w3.drew w4 → (w4.cell? ⟨gb, 2, none⟩ = some (.map (some mb)) ∧ w4.cell? ⟨w.heap.size, 2, none⟩ = some (.string nm) ∧ w4.cell? ⟨gg, nth * 6, none⟩ = some (.int .i64 x.kind) ∧ w4.cell? ⟨gg, nth * 6 + 1, none⟩ = some (.int .i64 x.n) ∧ w4.cell? ⟨gg, nth * 6 + 2, none⟩ = some (.string x.name) ∧ w4.cell? ⟨gg, nth * 6 + 3, none⟩ = some (.int .i64 x.stamp) ∧ w4.cell? ⟨gg, nth * 6 + 4, none⟩ = some (.int .i64 x.lib) ∧ w4.cell? ⟨gg, nth * 6 + 5, none⟩ = some (.slice da x.kids.length dc)) ∧ Nod (w.heap.size + 1) zeroD (.slice none 0 0) w4 ∧ Kp gb w w4) := fun w4 hk => by
      have kk : Kp gb w w4 := ((Kp.refl l1).below (Below.drew H3.out.2.1)).trans hk
      have o : ∀ b q, b ≠ gb → b < w3.heap.size → w4.cell? ⟨b, q, none⟩ = w3.cell? ⟨b, q, none⟩ := fun b q hb hl => hk.keep.cell (p := ⟨b, q, none⟩) hl hb
      refine ⟨⟨(hk.rest 2 (by decide)).trans d2, (o _ _ (by omega) lb3).trans q2, (o _ _ hgg (by omega)).trans e0, (o _ _ hgg (by omega)).trans e1, (o _ _ hgg (by omega)).trans e2, (o _ _ hgg (by omega)).trans e3, (o _ _ hgg (by omega)).trans e4, (o _ _ hgg (by omega)).trans e5⟩, (H3.out.2.2.2.1.after (w' := w3.drew) (Below.drew (Below.refl _ _))).keep hk.keep (by omega), kk⟩
    have K5 : Hid (∀ (w4 : World) (v0 v1 v2 v3 v4 v5 : Value), (w4.cell? ⟨gb, 2, none⟩ = some (.map (some mb)) ∧ w4.cell? ⟨w.heap.size, 2, none⟩ = some (.string nm) ∧ w4.cell? ⟨gg, nth * 6, none⟩ = some (.int .i64 x.kind) ∧ w4.cell? ⟨gg, nth * 6 + 1, none⟩ = some (.int .i64 x.n) ∧ w4.cell? ⟨gg, nth * 6 + 2, none⟩ = some (.string x.name) ∧ w4.cell? ⟨gg, nth * 6 + 3, none⟩ = some (.int .i64 x.stamp) ∧ w4.cell? ⟨gg, nth * 6 + 4, none⟩ = some (.int .i64 x.lib) ∧ w4.cell? ⟨gg, nth * 6 + 5, none⟩ = some (.slice da x.kids.length dc)) → (((((((w4.setCell ⟨w.heap.size + 1, 0, none⟩ v0).setCell ⟨w.heap.size + 1, 1, none⟩ v1).setCell ⟨w.heap.size + 1, 2, none⟩ v2).setCell ⟨w.heap.size + 1, 3, none⟩ v3).setCell ⟨w.heap.size + 1, 4, none⟩ v4).setCell ⟨w.heap.size + 1, 5, none⟩ v5).cell? ⟨gb, 2, none⟩ = some (.map (some mb)) ∧ ((((((w4.setCell ⟨w.heap.size + 1, 0, none⟩ v0).setCell ⟨w.heap.size + 1, 1, none⟩ v1).setCell ⟨w.heap.size + 1, 2, none⟩ v2).setCell ⟨w.heap.size + 1, 3, none⟩ v3).setCell ⟨w.heap.size + 1, 4, none⟩ v4).setCell ⟨w.heap.size + 1, 5, none⟩ v5).cell? ⟨w.heap.size, 2, none⟩ = some (.string nm) ∧ ((((((w4.setCell ⟨w.heap.size + 1, 0, none⟩ v0).setCell ⟨w.heap.size + 1, 1, none⟩ v1).setCell ⟨w.heap.size + 1, 2, none⟩ v2).setCell ⟨w.heap.size + 1, 3, none⟩ v3).setCell ⟨w.heap.size + 1, 4, none⟩ v4).setCell ⟨w.heap.size + 1, 5, none⟩ v5).cell? ⟨gg, nth * 6, none⟩ = some (.int .i64 x.kind) ∧ ((((((w4.setCell ⟨w.heap.size + 1, 0, none⟩ v0).setCell ⟨w.heap.size + 1, 1, none⟩ v1).setCell ⟨w.heap.size + 1, 2, none⟩ v2).setCell ⟨w.heap.size + 1, 3, none⟩ v3).setCell ⟨w.heap.size + 1, 4, none⟩ v4).setCell ⟨w.heap.size + 1, 5, none⟩ v5).cell? ⟨gg, nth * 6 + 1, none⟩ = some (.int .i64 x.n) ∧ ((((((w4.setCell ⟨w.heap.size + 1, 0, none⟩ v0).setCell ⟨w.heap.size + 1, 1, none⟩ v1).setCell ⟨w.heap.size + 1, 2, none⟩ v2).setCell ⟨w.heap.size + 1, 3, none⟩ v3).setCell ⟨w.heap.size + 1, 4, none⟩ v4).setCell ⟨w.heap.size + 1, 5, none⟩ v5).cell? ⟨gg, nth * 6 + 2, none⟩ = some (.string x.name) ∧ ((((((w4.setCell ⟨w.heap.size + 1, 0, none⟩ v0).setCell ⟨w.heap.size + 1, 1, none⟩ v1).setCell ⟨w.heap.size + 1, 2, none⟩ v2).setCell ⟨w.heap.size + 1, 3, none⟩ v3).setCell ⟨w.heap.size + 1, 4, none⟩ v4).setCell ⟨w.heap.size + 1, 5, none⟩ v5).cell? ⟨gg, nth * 6 + 3, none⟩ = some (.int .i64 x.stamp) ∧ ((((((w4.setCell ⟨w.heap.size + 1, 0, none⟩ v0).setCell ⟨w.heap.size + 1, 1, none⟩ v1).setCell ⟨w.heap.size + 1, 2, none⟩ v2).setCell ⟨w.heap.size + 1, 3, none⟩ v3).setCell ⟨w.heap.size + 1, 4, none⟩ v4).setCell ⟨w.heap.size + 1, 5, none⟩ v5).cell? ⟨gg, nth * 6 + 4, none⟩ = some (.int .i64 x.lib) ∧ ((((((w4.setCell ⟨w.heap.size + 1, 0, none⟩ v0).setCell ⟨w.heap.size + 1, 1, none⟩ v1).setCell ⟨w.heap.size + 1, 2, none⟩ v2).setCell ⟨w.heap.size + 1, 3, none⟩ v3).setCell ⟨w.heap.size + 1, 4, none⟩ v4).setCell ⟨w.heap.size + 1, 5, none⟩ v5).cell? ⟨gg, nth * 6 + 5, none⟩ = some (.slice da x.kids.length dc))) := fun w4 v0 v1 v2 v3 v4 v5 h => by
      have hh := six_heap w4 (w.heap.size + 1) v0 v1 v2 v3 v4 v5
      have o : ∀ b q, b ≠ w.heap.size + 1 → ((((((w4.setCell ⟨w.heap.size + 1, 0, none⟩ v0).setCell ⟨w.heap.size + 1, 1, none⟩ v1).setCell ⟨w.heap.size + 1, 2, none⟩ v2).setCell ⟨w.heap.size + 1, 3, none⟩ v3).setCell ⟨w.heap.size + 1, 4, none⟩ v4).setCell ⟨w.heap.size + 1, 5, none⟩ v5).cell? ⟨b, q, none⟩ = w4.cell? ⟨b, q, none⟩ := fun b q hb => World.cell?_of_block (hh.1 b hb)
      obtain ⟨h1, h2, h3, h4, h5, h6, h7, h8⟩ := h
      exact ⟨(o _ _ (by omega)).trans h1, (o _ _ (by omega)).trans h2, (o _ _ (by omega)).trans h3, (o _ _ (by omega)).trans h4, (o _ _ (by omega)).trans h5, (o _ _ (by omega)).trans h6, (o _ _ (by omega)).trans h7, (o _ _ (by omega)).trans h8⟩
    have hsz3 := H3.out.2.1.size
    have KB : Hid (w3.drew.cell? ⟨gb, 2, none⟩ = some (.map (some mb)) ∧ w3.drew.cell? ⟨w.heap.size, 2, none⟩ = some (.string nm) ∧ w3.drew.cell? ⟨gg, nth * 6, none⟩ = some (.int .i64 x.kind) ∧ w3.drew.cell? ⟨gg, nth * 6 + 1, none⟩ = some (.int .i64 x.n) ∧ w3.drew.cell? ⟨gg, nth * 6 + 2, none⟩ = some (.string x.name) ∧ w3.drew.cell? ⟨gg, nth * 6 + 3, none⟩ = some (.int .i64 x.stamp) ∧ w3.drew.cell? ⟨gg, nth * 6 + 4, none⟩ = some (.int .i64 x.lib) ∧ w3.drew.cell? ⟨gg, nth * 6 + 5, none⟩ = some (.slice da x.kids.length dc)) := ⟨d2, q2, e0, e1, e2, e3, e4, e5⟩
    cases hy : holdsB n dp x with
    | true =>
      rw [hy] at CP
      obtain ⟨bx, hbx⟩ : ∃ bx, bx = bareD x := ⟨_, rfl⟩
      rw [← hbx] at CP ⊢
      have CT : Hid (Calls Tryz.prog 89 #[.pointer (some ⟨gb, 0, none⟩), .agg #[.int .i64 x.kind, .int .i64 x.n, .string x.name, .int .i64 x.stamp, .int .i64 x.lib, .slice da x.kids.length dc], .int .i64 (dp : Int)] w3.drew fun e w4 => Kp gb w3.drew w4 ∧ Ctr gb (n + sizeD x) w4 ∧ ∃ a4 cap4 f4, e = .returned (.tuple #[.agg #[.int .i64 bx.kind, .int .i64 bx.n, .string bx.name, .int .i64 bx.stamp, .int .i64 bx.lib, .slice a4 bx.kids.length cap4], .bool true]) ∧ bx.kids.length ≤ cap4 ∧ Dc (New w3.drew w4) w4 f4 a4 bx.kids) :=
        CP.out.mono fun e w4 h => by
          obtain ⟨k1, k2, k3⟩ := h
          rw [if_pos rfl] at k3
          exact ⟨k1, k3.1, k3.2⟩
      have HY : Hid (holdsB n dp x = true ∧ bx = bareD x) := ⟨hy, hbx⟩
      clear CP hbx hy
      go_wp2_with fail
      have hposi : (nth : Int) < ((m nm).length : Int) := by omega
      generalize hml : (m nm).length = ml at hposi hr69 hr69' hpos hfl
      clear hml HF HX
      go_region_held3 (fun w' => w'.cell? ⟨gb, 2, none⟩ = some (.map (some mb)) ∧ w'.cell? ⟨w.heap.size, 2, none⟩ = some (.string nm) ∧ w'.cell? ⟨gg, nth * 6, none⟩ = some (.int .i64 x.kind) ∧ w'.cell? ⟨gg, nth * 6 + 1, none⟩ = some (.int .i64 x.n) ∧ w'.cell? ⟨gg, nth * 6 + 2, none⟩ = some (.string x.name) ∧ w'.cell? ⟨gg, nth * 6 + 3, none⟩ = some (.int .i64 x.stamp) ∧ w'.cell? ⟨gg, nth * 6 + 4, none⟩ = some (.int .i64 x.lib) ∧ w'.cell? ⟨gg, nth * 6 + 5, none⟩ = some (.slice da x.kids.length dc))
        (first | (with_reducible exact KB.out) | (with_reducible exact hc5) | (with_reducible exact K5.out _ _ _ _ _ _ _ hc5))
        (first | (go_at_call 89; refine CT.out.mono ?_; rintro e w4 ⟨hk4, hc4, a4, cap4, f4, rfl, hcap4, hd4⟩; obtain ⟨hc5, hn4, hkw4⟩ := K4.out w4 hk4; have N4 := hidd hn4; have F4 : Hid (Kp gb w w4 ∧ Ctr gb (n + sizeD x) w4 ∧ bx.kids.length ≤ cap4 ∧ Dc (New w3.drew w4) w4 f4 a4 bx.kids) := ⟨hkw4, hc4, hcap4, hd4⟩; obtain ⟨p, p0, p1, p2, p3, p4, p5, pz⟩ := hn4; simp only [zeroD, emS] at p0 p1 p2 p3 p4 p5; clear hk4 hc4 hcap4 hd4 hkw4))
      all_goals (go_wp2_with fail)
      all_goals
        refine bodyPost_ret (ret59 (N4.out.store bx (.slice a4 bx.kids.length cap4)) rfl rfl) rfl ?_
        rw [HY.out.1, ← HY.out.2]
        refine ⟨F4.out.1.six (by omega) _ _ _ _ _ _, ?_, ?_⟩
        · have := F4.out.2.1.lt
          simpa [World.setCell] using this
        · rw [if_pos rfl]
          refine ⟨?_, a4, cap4, f4, rfl, F4.out.2.2.1, ?_⟩
          · have h2 := F4.out.2.1.six (N := w.heap.size + 1) (v0 := .int .i64 bx.kind) (v1 := .int .i64 bx.n) (v2 := .string bx.name) (v3 := .int .i64 bx.stamp) (v4 := .int .i64 bx.lib) (v5 := .slice a4 bx.kids.length cap4) (by omega)
            exact h2
          · have hh := six_heap w4 (w.heap.size + 1) (.int .i64 bx.kind) (.int .i64 bx.n) (.string bx.name) (.int .i64 bx.stamp) (.int .i64 bx.lib) (.slice a4 bx.kids.length cap4)
            have ln := H3.out.2.2.2.1.lt
            refine Dc.stay (fun b hb => hh.1 b (by have h0 : w3.heap.size ≤ b := hb.1; omega)) (fun b hb => ⟨by have h0 : w3.heap.size ≤ b := hb.1; omega, ?_⟩) f4 _ _ F4.out.2.2.2
            rw [hh.2]
            exact hb.2
    | false =>
      rw [hy] at CP
      have CT : Hid (Calls Tryz.prog 89 #[.pointer (some ⟨gb, 0, none⟩), .agg #[.int .i64 x.kind, .int .i64 x.n, .string x.name, .int .i64 x.stamp, .int .i64 x.lib, .slice da x.kids.length dc], .int .i64 (dp : Int)] w3.drew fun e w4 => Kp gb w3.drew w4 ∧ e = .returned (.tuple #[.agg #[.int .i64 0, .int .i64 0, .string ⟨#[]⟩, .int .i64 0, .int .i64 0, .slice none 0 0], .bool false])) :=
        CP.out.mono fun e w4 h => by
          obtain ⟨k1, k2, k3⟩ := h
          rw [if_neg (by decide)] at k3
          exact ⟨k1, k3⟩
      have HY : Hid (holdsB n dp x = false) := hy
      clear CP hy
      go_wp2_with fail
      have hposi : (nth : Int) < ((m nm).length : Int) := by omega
      generalize hml : (m nm).length = ml at hposi hr69 hr69' hpos hfl
      clear hml HF HX
      go_region_held3 (fun w' => w'.cell? ⟨gb, 2, none⟩ = some (.map (some mb)) ∧ w'.cell? ⟨w.heap.size, 2, none⟩ = some (.string nm) ∧ w'.cell? ⟨gg, nth * 6, none⟩ = some (.int .i64 x.kind) ∧ w'.cell? ⟨gg, nth * 6 + 1, none⟩ = some (.int .i64 x.n) ∧ w'.cell? ⟨gg, nth * 6 + 2, none⟩ = some (.string x.name) ∧ w'.cell? ⟨gg, nth * 6 + 3, none⟩ = some (.int .i64 x.stamp) ∧ w'.cell? ⟨gg, nth * 6 + 4, none⟩ = some (.int .i64 x.lib) ∧ w'.cell? ⟨gg, nth * 6 + 5, none⟩ = some (.slice da x.kids.length dc))
        (first | (with_reducible exact KB.out) | (with_reducible exact hc5) | (with_reducible exact K5.out _ _ _ _ _ _ _ hc5))
        (first | (go_at_call 89; refine CT.out.mono ?_; rintro e w4 ⟨hk4, rfl⟩; obtain ⟨hc5, hn4, hkw4⟩ := K4.out w4 hk4; have N4 := hidd hn4; have F4 : Hid (Kp gb w w4) := hkw4; obtain ⟨p, p0, p1, p2, p3, p4, p5, pz⟩ := hn4; simp only [zeroD, emS] at p0 p1 p2 p3 p4 p5; clear hk4 hkw4))
      all_goals (go_wp2_with fail)
      all_goals
        refine bodyPost_ret (ret59 (N4.out.store zeroD (.slice none 0 0)) rfl rfl) rfl ?_
        rw [HY.out]
        refine ⟨F4.out.six (by omega) _ _ _ _ _ _, ?_, ?_⟩
        · have := F4.out.lt'
          simpa [World.setCell] using this
        · rfl
end
section
set_option linter.unusedVariables false
set_option linter.unusedSimpArgs false
open Go.RowKit Go.Maps Go.WideMaps

set_option maxRecDepth 100000 in
set_option maxHeartbeats 3200000 in
theorem thing_no (B gm gb vb mb nv L : Nat) (sp lbb : Int) (v : ByteArray → Nat) (m : ByteArray → List Dat) (d : Dat) (a : Option Addr) (cap nth n dp : Nat) (w : World) (hs : d.name.size ≤ maxLen) (h1 : v (symS d.kind d.name) ≠ 1) (h2 : v (symS d.kind d.name) ≠ 2) (y : Dat) (ny : Nat)
    (hG : Gst B gm gb vb mb nv L sp lbb v m w) (hc : Ctr gb n w) (hn : n ≤ 2000) (hdp : dp ≤ 41) (hx : n = 2000 ∨ dp = 41) :
    Calls Tryz.prog 59 #[.pointer (some ⟨gb, 0, none⟩), dv d a cap, .int .i64 (nth : Int), .int .i64 (dp : Int)] w (ToldG gb false y ny w) := by
  have S8 : Hid (∀ W, Calls Tryz.prog 88 #[dv d a cap] W fun e w' => e = .returned (.string (symS d.kind d.name)) ∧ Below W.heap.size W w') := fun W => symbol88_any d a cap W
  have hsy : (symS d.kind d.name).size ≤ maxLen := by
    unfold symS
    split
    · exact hs
    · exact Nat.zero_le _
  obtain ⟨k, n', nm, st, lb, ks⟩ := d
  simp only at hs h1 h2 S8 hsy ⊢
  generalize symS k nm = sy at S8 h1 h2 hsy
  have l1 := hG.grw.lt
  have SK : Hid (∀ w3, Below (thW w ⟨k, n', nm, st, lb, ks⟩ (.slice a ks.length cap)).heap.size (thW w ⟨k, n', nm, st, lb, ks⟩ (.slice a ks.length cap)) w3 →
      Gst B gm gb vb mb nv L sp lbb v m w3 ∧ Below w.heap.size w w3 ∧ Nod w.heap.size ⟨k, n', nm, st, lb, ks⟩ (.slice a ks.length cap) w3 ∧ Nod (w.heap.size + 1) zeroD (.slice none 0 0) w3 ∧ Ctr gb n w3) := fun w3 hb => by
    obtain ⟨q1, q2, q3⟩ := thing_head hb
    exact ⟨hG.below q1, q1, q2, q3, hc.below q1⟩
  have c1 := hG.grw.c1
  have hBg := hG.hB
  obtain ⟨c, hcv⟩ : ∃ c, v sy = c := ⟨_, rfl⟩
  rw [hcv] at h1 h2
  have HCV := hidd hcv
  clear hcv
  have hc1 : ((c : Int) == 1) = false := by simp; omega
  have hc2 : ((c : Int) == 2) = false := by simp; omega
  unfold dv at S8 ⊢
  simp only at S8 ⊢
  clear hG hc
  go_enter Tryz.func59, Tryz.ntmps59
  go_wp2_with fail
  go_region_held3 (fun w' => w'.cell? ⟨gb, 1, none⟩ = some (.map (some vb)) ∧ w'.cell? ⟨w.heap.size, 0, none⟩ = some (.int .i64 k) ∧ w'.cell? ⟨w.heap.size, 1, none⟩ = some (.int .i64 n') ∧ w'.cell? ⟨w.heap.size, 2, none⟩ = some (.string nm) ∧ w'.cell? ⟨w.heap.size, 3, none⟩ = some (.int .i64 st) ∧ w'.cell? ⟨w.heap.size, 4, none⟩ = some (.int .i64 lb) ∧ w'.cell? ⟨w.heap.size, 5, none⟩ = some (.slice a ks.length cap))
    (first | exact hc3 | (refine ⟨?_, ?_, ?_, ?_, ?_, ?_, ?_⟩ <;> (first | go_simp | (go_simp; exact c1))))
    (first | (go_at_call 88; refine (S8.out _).mono ?_; rintro e w3 ⟨rfl, hb3⟩; have h3 := SK.out w3 hb3; have hc3 : w3.cell? ⟨gb, 1, none⟩ = some (.map (some vb)) ∧ w3.cell? ⟨w.heap.size, 0, none⟩ = some (.int .i64 k) ∧ w3.cell? ⟨w.heap.size, 1, none⟩ = some (.int .i64 n') ∧ w3.cell? ⟨w.heap.size, 2, none⟩ = some (.string nm) ∧ w3.cell? ⟨w.heap.size, 3, none⟩ = some (.int .i64 st) ∧ w3.cell? ⟨w.heap.size, 4, none⟩ = some (.int .i64 lb) ∧ w3.cell? ⟨w.heap.size, 5, none⟩ = some (.slice a ks.length cap) := ⟨h3.1.grw.c1, h3.2.2.1.q0, h3.2.2.1.q1, h3.2.2.1.q2, h3.2.2.1.q3, h3.2.2.1.q4, h3.2.2.1.q5⟩; have hr3 := h3.1.vars.run (t := 74) Tryz.underlying74 sy hsy; rw [HCV.out] at hr3; have H3 := hidd h3; clear h3 hb3))
  all_goals
    go_wp2_with fail
    refine (takes_no gb n dp w3 hn hdp hx H3.out.2.2.2.2).mono ?_
    rintro e w4 ⟨rfl, hw4⟩
    have NO : Hid (Nod (w.heap.size + 1) zeroD (.slice none 0 0) w4 ∧ Kp gb w w4) := by
      rw [hw4]
      exact ⟨H3.out.2.2.2.1.keep ((Keep.refl gb _).setCell ⟨gb, 0, none⟩ rfl _) (by omega), ((Kp.refl l1).below H3.out.2.1).setZero _⟩
    clear hw4
    obtain ⟨q, q0, q1, q2, q3, q4, q5, qz⟩ := NO.out.1
    simp only [zeroD, emS] at q0 q1 q2 q3 q4 q5
    go_wp2_with fail
    refine bodyPost_ret (ret59 (NO.out.1.store zeroD (.slice none 0 0)) rfl rfl) rfl ?_
    refine ⟨NO.out.2.six (by omega) _ _ _ _ _ _, ?_, rfl⟩
    have := NO.out.2.lt'
    simpa [World.setCell] using this

set_option maxRecDepth 100000 in
set_option maxHeartbeats 3200000 in
theorem thing_else (B gm gb vb mb nv L : Nat) (sp lbb : Int) (v : ByteArray → Nat) (m : ByteArray → List Dat) (d : Dat) (a : Option Addr) (cap nth n dp : Nat) (w : World) (hs : d.name.size ≤ maxLen) (h1 : v (symS d.kind d.name) ≠ 1) (h2 : v (symS d.kind d.name) ≠ 2)
    (hG : Gst B gm gb vb mb nv L sp lbb v m w) (hc : Ctr gb n w) (hn : n ≤ 1999) (hdp : dp ≤ 40) (h3 : d.kind ≠ 3) (h4 : d.kind ≠ 4) :
    Calls Tryz.prog 59 #[.pointer (some ⟨gb, 0, none⟩), dv d a cap, .int .i64 (nth : Int), .int .i64 (dp : Int)] w (ToldG gb true (soleD d) (n + 1) w) := by
  have AL : Hid (∀ w, Calls Tryz.prog 91 #[dv d a cap] w fun e w' => e = .returned (dv (soleD d) none 0) ∧ Below w.heap.size w w') := fun w => alone_any d a cap w (fun h => absurd h h3)
  have hkids : (soleD d).kids = [] := by
    obtain ⟨k, n', nm, st, lb, ks⟩ := d
    simp only [soleD]
    split
    · rfl
    · split <;> rfl
  obtain ⟨d2, hd2⟩ : ∃ d2, d2 = soleD d := ⟨_, rfl⟩
  rw [← hd2] at AL hkids ⊢
  clear hd2
  obtain ⟨k2, n2, nm2, st2, lb2, ks2⟩ := d2
  simp only at hkids
  subst hkids
  have S8 : Hid (∀ W, Calls Tryz.prog 88 #[dv d a cap] W fun e w' => e = .returned (.string (symS d.kind d.name)) ∧ Below W.heap.size W w') := fun W => symbol88_any d a cap W
  have hsy : (symS d.kind d.name).size ≤ maxLen := by
    unfold symS
    split
    · exact hs
    · exact Nat.zero_le _
  obtain ⟨k, n', nm, st, lb, ks⟩ := d
  simp only at hs h1 h2 S8 hsy h3 h4 ⊢
  have hk3 : (k == 3) = false := by simpa using h3
  have hk4 : (k == 4) = false := by simpa using h4
  generalize symS k nm = sy at S8 h1 h2 hsy
  have l1 := hG.grw.lt
  have SK : Hid (∀ w3, Below (thW w ⟨k, n', nm, st, lb, ks⟩ (.slice a ks.length cap)).heap.size (thW w ⟨k, n', nm, st, lb, ks⟩ (.slice a ks.length cap)) w3 →
      Gst B gm gb vb mb nv L sp lbb v m w3 ∧ Below w.heap.size w w3 ∧ Nod w.heap.size ⟨k, n', nm, st, lb, ks⟩ (.slice a ks.length cap) w3 ∧ Nod (w.heap.size + 1) zeroD (.slice none 0 0) w3 ∧ Ctr gb n w3) := fun w3 hb => by
    obtain ⟨q1, q2, q3⟩ := thing_head hb
    exact ⟨hG.below q1, q1, q2, q3, hc.below q1⟩
  have c1 := hG.grw.c1
  have hBg := hG.hB
  obtain ⟨c, hcv⟩ : ∃ c, v sy = c := ⟨_, rfl⟩
  rw [hcv] at h1 h2
  have HCV := hidd hcv
  clear hcv
  have hc1 : ((c : Int) == 1) = false := by simp; omega
  have hc2 : ((c : Int) == 2) = false := by simp; omega
  unfold dv at S8 AL ⊢
  simp only [List.length_nil] at S8 AL ⊢
  clear hG hc
  go_enter Tryz.func59, Tryz.ntmps59
  go_wp2_with fail
  go_region_held3 (fun w' => w'.cell? ⟨gb, 1, none⟩ = some (.map (some vb)) ∧ w'.cell? ⟨w.heap.size, 0, none⟩ = some (.int .i64 k) ∧ w'.cell? ⟨w.heap.size, 1, none⟩ = some (.int .i64 n') ∧ w'.cell? ⟨w.heap.size, 2, none⟩ = some (.string nm) ∧ w'.cell? ⟨w.heap.size, 3, none⟩ = some (.int .i64 st) ∧ w'.cell? ⟨w.heap.size, 4, none⟩ = some (.int .i64 lb) ∧ w'.cell? ⟨w.heap.size, 5, none⟩ = some (.slice a ks.length cap))
    (first | exact hc3 | (refine ⟨?_, ?_, ?_, ?_, ?_, ?_, ?_⟩ <;> (first | go_simp | (go_simp; exact c1))))
    (first | (go_at_call 88; refine (S8.out _).mono ?_; rintro e w3 ⟨rfl, hb3⟩; have h3 := SK.out w3 hb3; have hc3 : w3.cell? ⟨gb, 1, none⟩ = some (.map (some vb)) ∧ w3.cell? ⟨w.heap.size, 0, none⟩ = some (.int .i64 k) ∧ w3.cell? ⟨w.heap.size, 1, none⟩ = some (.int .i64 n') ∧ w3.cell? ⟨w.heap.size, 2, none⟩ = some (.string nm) ∧ w3.cell? ⟨w.heap.size, 3, none⟩ = some (.int .i64 st) ∧ w3.cell? ⟨w.heap.size, 4, none⟩ = some (.int .i64 lb) ∧ w3.cell? ⟨w.heap.size, 5, none⟩ = some (.slice a ks.length cap) := ⟨h3.1.grw.c1, h3.2.2.1.q0, h3.2.2.1.q1, h3.2.2.1.q2, h3.2.2.1.q3, h3.2.2.1.q4, h3.2.2.1.q5⟩; have hr3 := h3.1.vars.run (t := 74) Tryz.underlying74 sy hsy; rw [HCV.out] at hr3; have H3 := hidd h3; clear h3 hb3))
  all_goals
    go_wp2_with fail
    refine (takes_ok gb n dp w3 hn hdp H3.out.2.2.2.2).mono ?_
    rintro e w4 ⟨rfl, hw4⟩
    have NO : Hid (Nod (w.heap.size + 1) zeroD (.slice none 0 0) w4 ∧ Kp gb w w4 ∧ Nod w.heap.size ⟨k, n', nm, st, lb, ks⟩ (.slice a ks.length cap) w4 ∧ Ctr gb (n + 1) w4) := by
      rw [hw4]
      exact ⟨H3.out.2.2.2.1.keep ((Keep.refl gb _).setCell ⟨gb, 0, none⟩ rfl _) (by omega), ((Kp.refl l1).below H3.out.2.1).setZero _, H3.out.2.2.1.keep ((Keep.refl gb _).setCell ⟨gb, 0, none⟩ rfl _) (by omega), H3.out.2.2.2.2.at (n + 1)⟩
    clear hw4 hc3
    obtain ⟨p, p0, p1, p2, p3, p4, p5, pz⟩ := NO.out.2.2.1
    simp only at p0 p1 p2 p3 p4 p5
    go_wp2_with fail
    refine (AL.out _).mono ?_
    rintro e w5 ⟨rfl, hb5⟩
    have N5 : Hid (Nod (w.heap.size + 1) zeroD (.slice none 0 0) w5 ∧ Kp gb w w5 ∧ Nod w.heap.size ⟨k, n', nm, st, lb, ks⟩ (.slice a ks.length cap) w5 ∧ Ctr gb (n + 1) w5) := ⟨NO.out.1.after hb5, NO.out.2.1.below hb5, NO.out.2.2.1.after hb5, NO.out.2.2.2.below hb5⟩
    clear hb5 p p0 p1 p2 p3 p4 p5 pz
    obtain ⟨p, p0, p1, p2, p3, p4, p5, pz⟩ := N5.out.2.2.1
    obtain ⟨q, q0, q1, q2, q3, q4, q5, qz⟩ := N5.out.1
    simp only [zeroD, emS] at p0 p1 p2 p3 p4 p5 q0 q1 q2 q3 q4 q5
    go_wp2_with fail
    refine bodyPost_ret (ret59 (R := w.heap.size + 1) (d := ⟨k2, n2, nm2, st2, lb2, []⟩) (v := .slice none 0 0) (b := .bool true) ?nod rfl rfl) rfl ?_
    case nod => exact (N5.out.1.store ⟨k2, n2, nm2, st2, lb2, []⟩ (.slice none 0 0)).store ⟨k2, n2, nm2, st2, lb2, []⟩ (.slice none 0 0)
    refine ⟨(N5.out.2.1.six (by omega) _ _ _ _ _ _).six (by omega) _ _ _ _ _ _, ?_, ?_⟩
    · have := N5.out.2.1.lt'
      simpa [World.setCell] using this
    · rw [if_pos rfl]
      refine ⟨?_, none, 0, 0, rfl, Nat.le_refl _, rfl⟩
      have e1 := N5.out.2.2.2.six (N := w.heap.size + 1) (v0 := .int .i64 k2) (v1 := .int .i64 n2) (v2 := .string nm2) (v3 := .int .i64 st2) (v4 := .int .i64 lb2) (v5 := .slice none 0 0) (by omega)
      have e2 := e1.six (N := w.heap.size + 1) (v0 := .int .i64 k2) (v1 := .int .i64 n2) (v2 := .string nm2) (v3 := .int .i64 st2) (v4 := .int .i64 lb2) (v5 := .slice none 0 0) (by omega)
      exact e2
end
section
set_option linter.unusedVariables false
set_option linter.unusedSimpArgs false
open Go.RowKit Go.Maps Go.WideMaps

theorem Nod.set34 {N : Nat} {d : Dat} {v : Value} {w : World} (h : Nod N d v w) (s l : Int) : Nod N { d with stamp := s, lib := l } v ((w.setCell ⟨N, 3, none⟩ (.int .i64 s)).setCell ⟨N, 4, none⟩ (.int .i64 l)) := by
  obtain ⟨hl, q0, q1, q2, q3, q4, q5, z⟩ := h
  refine ⟨by simpa [World.setCell] using hl, ?_, ?_, ?_, ?_, ?_, ?_, fun j => ?_⟩
  all_goals go_simp
  all_goals simp [*]

set_option maxRecDepth 100000 in
set_option maxHeartbeats 3200000 in
theorem thing_sym (B gm gb vb mb nv L : Nat) (sp lbb : Int) (v : ByteArray → Nat) (m : ByteArray → List Dat) (d : Dat) (a : Option Addr) (cap nth n dp : Nat) (w : World) (hs : d.name.size ≤ maxLen) (h1 : v (symS d.kind d.name) ≠ 1) (h2 : v (symS d.kind d.name) ≠ 2)
    (hG : Gst B gm gb vb mb nv L sp lbb v m w) (hc : Ctr gb n w) (hn : n ≤ 1999) (hdp : dp ≤ 40) (h3 : d.kind = 3) (hsm : d.name.size ≤ 281474976710656) :
    Calls Tryz.prog 59 #[.pointer (some ⟨gb, 0, none⟩), dv d a cap, .int .i64 (nth : Int), .int .i64 (dp : Int)] w (ToldG gb true ⟨3, 0, d.name, sp, lbb, []⟩ (n + 1) w) := by
  have AL : Hid (∀ w, Calls Tryz.prog 91 #[dv d a cap] w fun e w' => e = .returned (.agg #[.int .i64 3, .int .i64 0, .string d.name, .int .i64 d.stamp, .int .i64 d.lib, .slice none 0 0]) ∧ Below w.heap.size w w') := fun w => by
    have := alone_any d a cap w (fun _ => hsm)
    obtain ⟨k, n', nm, st, lb, ks⟩ := d
    simp only at h3
    subst h3
    exact this
  have S8 : Hid (∀ W, Calls Tryz.prog 88 #[dv d a cap] W fun e w' => e = .returned (.string (symS d.kind d.name)) ∧ Below W.heap.size W w') := fun W => symbol88_any d a cap W
  have hsy : (symS d.kind d.name).size ≤ maxLen := by
    unfold symS
    rw [if_pos h3]
    exact hs
  obtain ⟨k, n', nm, st, lb, ks⟩ := d
  simp only at hs h1 h2 S8 hsy h3 AL ⊢
  subst h3
  generalize symS 3 nm = sy at S8 h1 h2 hsy
  have l1 := hG.grw.lt
  have SK : Hid (∀ w3, Below (thW w ⟨3, n', nm, st, lb, ks⟩ (.slice a ks.length cap)).heap.size (thW w ⟨3, n', nm, st, lb, ks⟩ (.slice a ks.length cap)) w3 →
      Gst B gm gb vb mb nv L sp lbb v m w3 ∧ Below w.heap.size w w3 ∧ Nod w.heap.size ⟨3, n', nm, st, lb, ks⟩ (.slice a ks.length cap) w3 ∧ Nod (w.heap.size + 1) zeroD (.slice none 0 0) w3 ∧ Ctr gb n w3) := fun w3 hb => by
    obtain ⟨q1, q2, q3⟩ := thing_head hb
    exact ⟨hG.below q1, q1, q2, q3, hc.below q1⟩
  have c1 := hG.grw.c1
  have hBg := hG.hB
  have GR := hidd hG.grw
  obtain ⟨c, hcv⟩ : ∃ c, v sy = c := ⟨_, rfl⟩
  rw [hcv] at h1 h2
  have HCV := hidd hcv
  clear hcv
  have hc1 : ((c : Int) == 1) = false := by simp; omega
  have hc2 : ((c : Int) == 2) = false := by simp; omega
  unfold dv at S8 AL ⊢
  simp only at S8 AL ⊢
  clear hG hc
  go_enter Tryz.func59, Tryz.ntmps59
  go_wp2_with fail
  go_region_held3 (fun w' => w'.cell? ⟨gb, 1, none⟩ = some (.map (some vb)) ∧ w'.cell? ⟨w.heap.size, 0, none⟩ = some (.int .i64 3) ∧ w'.cell? ⟨w.heap.size, 1, none⟩ = some (.int .i64 n') ∧ w'.cell? ⟨w.heap.size, 2, none⟩ = some (.string nm) ∧ w'.cell? ⟨w.heap.size, 3, none⟩ = some (.int .i64 st) ∧ w'.cell? ⟨w.heap.size, 4, none⟩ = some (.int .i64 lb) ∧ w'.cell? ⟨w.heap.size, 5, none⟩ = some (.slice a ks.length cap))
    (first | exact hc3 | (refine ⟨?_, ?_, ?_, ?_, ?_, ?_, ?_⟩ <;> (first | go_simp | (go_simp; exact c1))))
    (first | (go_at_call 88; refine (S8.out _).mono ?_; rintro e w3 ⟨rfl, hb3⟩; have h3 := SK.out w3 hb3; have hc3 : w3.cell? ⟨gb, 1, none⟩ = some (.map (some vb)) ∧ w3.cell? ⟨w.heap.size, 0, none⟩ = some (.int .i64 3) ∧ w3.cell? ⟨w.heap.size, 1, none⟩ = some (.int .i64 n') ∧ w3.cell? ⟨w.heap.size, 2, none⟩ = some (.string nm) ∧ w3.cell? ⟨w.heap.size, 3, none⟩ = some (.int .i64 st) ∧ w3.cell? ⟨w.heap.size, 4, none⟩ = some (.int .i64 lb) ∧ w3.cell? ⟨w.heap.size, 5, none⟩ = some (.slice a ks.length cap) := ⟨h3.1.grw.c1, h3.2.2.1.q0, h3.2.2.1.q1, h3.2.2.1.q2, h3.2.2.1.q3, h3.2.2.1.q4, h3.2.2.1.q5⟩; have hr3 := h3.1.vars.run (t := 74) Tryz.underlying74 sy hsy; rw [HCV.out] at hr3; have H3 := hidd h3; clear h3 hb3))
  all_goals
    go_wp2_with fail
    refine (takes_ok gb n dp w3 hn hdp H3.out.2.2.2.2).mono ?_
    rintro e w4 ⟨rfl, hw4⟩
    have NO : Hid (Nod (w.heap.size + 1) zeroD (.slice none 0 0) w4 ∧ Kp gb w w4 ∧ Nod w.heap.size ⟨3, n', nm, st, lb, ks⟩ (.slice a ks.length cap) w4 ∧ Ctr gb (n + 1) w4) := by
      rw [hw4]
      exact ⟨H3.out.2.2.2.1.keep ((Keep.refl gb _).setCell ⟨gb, 0, none⟩ rfl _) (by omega), ((Kp.refl l1).below H3.out.2.1).setZero _, H3.out.2.2.1.keep ((Keep.refl gb _).setCell ⟨gb, 0, none⟩ rfl _) (by omega), H3.out.2.2.2.2.at (n + 1)⟩
    clear hw4
    obtain ⟨p, p0, p1, p2, p3, p4, p5, pz⟩ := NO.out.2.2.1
    simp only at p0 p1 p2 p3 p4 p5
    go_wp2_with fail
    refine (AL.out _).mono ?_
    rintro e w5 ⟨rfl, hb5⟩
    have N5 : Hid (Nod (w.heap.size + 1) zeroD (.slice none 0 0) w5 ∧ Kp gb w w5 ∧ Nod w.heap.size ⟨3, n', nm, st, lb, ks⟩ (.slice a ks.length cap) w5 ∧ Ctr gb (n + 1) w5) := ⟨NO.out.1.after hb5, NO.out.2.1.below hb5, NO.out.2.2.1.after hb5, NO.out.2.2.2.below hb5⟩
    clear hb5 p p0 p1 p2 p3 p4 p5 pz
    obtain ⟨p, p0, p1, p2, p3, p4, p5, pz⟩ := N5.out.2.2.1
    obtain ⟨q, q0, q1, q2, q3, q4, q5, qz⟩ := N5.out.1
    simp only [zeroD, emS] at p0 p1 p2 p3 p4 p5 q0 q1 q2 q3 q4 q5
    have g3 := (N5.out.2.1.rest 3 (by decide)).trans GR.out.c3
    have g4 := (N5.out.2.1.rest 4 (by decide)).trans GR.out.c4
    go_wp2_with fail
    have N6 : Hid (Nod (w.heap.size + 1) ⟨3, 0, nm, st, lb, []⟩ (.slice none 0 0) (setSix w5 (w.heap.size + 1) (.int .i64 3) (.int .i64 0) (.string nm) (.int .i64 st) (.int .i64 lb) (.slice none 0 0)) ∧ Kp gb w (setSix w5 (w.heap.size + 1) (.int .i64 3) (.int .i64 0) (.string nm) (.int .i64 st) (.int .i64 lb) (.slice none 0 0)) ∧ Ctr gb (n + 1) (setSix w5 (w.heap.size + 1) (.int .i64 3) (.int .i64 0) (.string nm) (.int .i64 st) (.int .i64 lb) (.slice none 0 0))) :=
      ⟨N5.out.1.store ⟨3, 0, nm, st, lb, []⟩ (.slice none 0 0), N5.out.2.1.six (by omega) _ _ _ _ _ _, N5.out.2.2.2.six (by omega)⟩
    clear p p0 p1 p2 p3 p4 p5 pz q q0 q1 q2 q3 q4 q5 qz g3 g4 hc3
    unfold setSix at N6
    generalize hW6 : ((((((w5.setCell ⟨w.heap.size + 1, 0, none⟩ (.int .i64 3)).setCell ⟨w.heap.size + 1, 1, none⟩ (.int .i64 0)).setCell ⟨w.heap.size + 1, 2, none⟩ (.string nm)).setCell ⟨w.heap.size + 1, 3, none⟩ (.int .i64 st)).setCell ⟨w.heap.size + 1, 4, none⟩ (.int .i64 lb)).setCell ⟨w.heap.size + 1, 5, none⟩ (.slice none 0 0)) = W6 at N6 ⊢
    clear hW6 NO N5
    have g3 := (N6.out.2.1.rest 3 (by decide)).trans GR.out.c3
    have g4 := (N6.out.2.1.rest 4 (by decide)).trans GR.out.c4
    obtain ⟨q, q0, q1, q2, q3, q4, q5, qz⟩ := N6.out.1
    simp only at q0 q1 q2 q3 q4 q5
    have hg1 : gb ≠ w.heap.size + 1 := by omega
    go_region_held3 (fun w' => w'.cell? ⟨gb, 3, none⟩ = some (.int .i64 sp) ∧ w'.cell? ⟨gb, 4, none⟩ = some (.int .i64 lbb)) (first | (with_reducible exact ⟨g3, g4⟩) | (refine ⟨?_, ?_⟩ <;> go_simp)) (fail)
    all_goals (go_wp2_with fail)
    all_goals
      have dr : ∀ u : World, Below u.heap.size u u.drew := fun u => Below.drew (Below.refl _ _)
      refine bodyPost_ret (ret59 (R := w.heap.size + 1) (d := ⟨3, 0, nm, sp, lbb, []⟩) (v := .slice none 0 0) (b := .bool true) (by exact ((N6.out.1.set34 sp lbb).store ⟨3, 0, nm, sp, lbb, []⟩ (.slice none 0 0)).after (dr _)) rfl rfl) rfl ?_
      have kk := ((((N6.out.2.1.setNew ⟨w.heap.size + 1, 3, none⟩ (by simp) (.int .i64 sp)).setNew ⟨w.heap.size + 1, 4, none⟩ (by simp) (.int .i64 lbb)).six (N := w.heap.size + 1) (by omega) (.int .i64 3) (.int .i64 0) (.string nm) (.int .i64 sp) (.int .i64 lbb) (.slice none 0 0)).below (dr _))
      have c7 : Ctr gb (n + 1) ((W6.setCell ⟨w.heap.size + 1, 3, none⟩ (.int .i64 sp)).setCell ⟨w.heap.size + 1, 4, none⟩ (.int .i64 lbb)) := by
        have hbl : ((W6.setCell ⟨w.heap.size + 1, 3, none⟩ (.int .i64 sp)).setCell ⟨w.heap.size + 1, 4, none⟩ (.int .i64 lbb)).heap[gb]? = W6.heap[gb]? := (Below.heap_setCell _ _ _ _ (by show gb ≠ w.heap.size + 1; omega)).trans (Below.heap_setCell _ _ _ _ (by show gb ≠ w.heap.size + 1; omega))
        exact ⟨by have := N6.out.2.2.lt; simpa [World.setCell] using this, (World.cell?_of_block hbl).trans N6.out.2.2.cell, (World.frozen?_of_block hbl).trans N6.out.2.2.thaw⟩
      have c8 := (c7.six (N := w.heap.size + 1) (v0 := .int .i64 3) (v1 := .int .i64 0) (v2 := .string nm) (v3 := .int .i64 sp) (v4 := .int .i64 lbb) (v5 := .slice none 0 0) (by omega)).below (dr _)
      refine ⟨kk, kk.lt', ?_⟩
      rw [if_pos rfl]
      exact ⟨c8, none, 0, 0, rfl, Nat.le_refl _, rfl⟩
end
end Go.Proofs.YtgeedaabdonjcaeGreatDoor
