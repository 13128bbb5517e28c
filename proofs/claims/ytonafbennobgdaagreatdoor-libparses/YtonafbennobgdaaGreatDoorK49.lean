/- Chapter 3's laws: LibParses, walked. -/
import Derived.Test.YtonafbennobgdaaGreatDoorK48
import Derived.Test.YtonafbennobgdaaGreatDoorK25
import Derived.Test.YtonafbennobgdaaGreatDoorK33
import Derived.Test.YtonafbennobgdaaGreatDoorK32
namespace Go.Proofs.YtonafbennobgdaaGreatDoor
set_option linter.unusedVariables false
set_option linter.unusedSimpArgs false
open Go.RowKit
theorem TellQ_q {r : Er LibS} {w w' : World} {e : Ending} (h : R3.TellQ r w e w') : Below w.heap.size w w' ∧ ∃ ea nx ec ia ni ic ba nb bc bs, e = .returned (.tuple #[.agg #[.string (libOf r).name, .slice ea nx ec, .slice ia ni ic, .slice ba nb bc], .int .i64 (errOf r)]) ∧ LibM (fun k => k < w'.heap.size) { libOf r with body := bs } (.slice ea nx ec) (.slice ia ni ic) (.slice ba nb bc) w' ∧ bareQL bs = (libOf r).body ∧ R3.zrL bs := by
 obtain ⟨hb, h⟩ := h
 refine ⟨hb, ?_⟩
 cases r with
 | ok s =>
  obtain ⟨ev, iv, bv, bs, rfl, hm, hq, hz⟩ := h
  obtain ⟨ea, ec, rfl, _⟩ := id hm.ex
  obtain ⟨ia, ni, ic, rfl⟩ := SeL.slice hm.im
  obtain ⟨ba, bc, bf, rfl, _⟩ := id hm.bo
  exact ⟨_, _, _, _, _, _, _, _, _, bs, rfl, hm, hq, hz⟩
 | no x => exact ⟨_, _, _, _, _, _, _, _, _, [], h, lib0M _ _, rfl, by rw [R3.zrL]; trivial⟩
theorem same_bare (B : Nat) (s : LibS) (bs : List Dat) (e1 i1 b1 e2 i2 b2 : Value) (w : World) (hB : B ≤ w.heap.size) (h1 : LibM (fun k => k < B) s e1 i1 b1 w) (h2 : LibM (fun k => k < B) { s with body := bs } e2 i2 b2 w) (hx : s.exports.length ≤ 200) (hi : s.imports.length ≤ 20) (hio : seOkL s.imports) (hbs : bareQL bs = s.body) (hz : R3.zrL bs) :
 Calls Tryz.prog 11 #[.agg #[.string s.name, e1, i1, b1], .agg #[.string s.name, e2, i2, b2]] w (YesB w) := by
 refine same_over B s bs e1 i1 b1 e2 i2 b2 w hB h1 h2 hx hi hio (hidd fun W hb => ?_)
 obtain ⟨a, c, f, rfl, _, hd⟩ := h1.bo.stay (ok' := fun k => k < B) (w' := W) (fun k hk => hb.block k (Nat.lt_of_lt_of_le hk hB)) (fun _ h => h)
 obtain ⟨a', c', f', rfl, _, hd'⟩ := h2.bo.stay (ok' := fun k => k < B) (w' := W) (fun k hk => hb.block k (Nat.lt_of_lt_of_le hk hB)) (fun _ h => h)
 refine Same_any B f f' s.body bs a a' c c' W (Nat.le_trans hB hb.size) (Dc.lies (fun _ h => h) f a _ hd) (Dc.lies (fun _ h => h) f' a' _ hd') ?_
 rw [← hbs] at hd ⊢
 exact R3.alike_bare f a bs hd hz
set_option maxRecDepth 100000 in
set_option maxHeartbeats 12800000 in
theorem LibParses_walk (E : Env) (a1 a2 a3 : Option Addr) (n1 n2 n3 c1 c2 c3 : Nat) (d : Dat) (da : Option Addr) (dc Fd : Nat) (w : World) (h0 : 0 < w.heap.size) (ht : TabW w) (he : EnvW w.heap.size E (.slice a1 n1 c1) (.slice a2 n2 c2) (.slice a3 n3 c3) w) (hdn : d.name.size ≤ maxLen) (hdc : d.kids.length ≤ dc) (hd : Dn w Fd da d.kids) :
 Calls Tryz.prog 3 #[.slice a1 n1 c1, .slice a2 n2 c2, .slice a3 n3 c3, dv d da dc] w fun e w' => e = .returned (.bool true) ∧ Below w.heap.size w w' := by
 have PA : Hid (∀ W, Below w.heap.size w W → Calls Tryz.prog 9 #[.slice a1 n1 c1, .slice a2 n2 c2, .slice a3 n3 c3, dv d da dc] W fun e w' => Below W.heap.size W w' ∧ ∃ ea nx ec ia ni ic ba nb bc, e = .returned (.tuple #[.agg #[.string (libOf (parseF E d)).name, .slice ea nx ec, .slice ia ni ic, .slice ba nb bc], .int .i64 (errOf (parseF E d))]) ∧ LibM (fun k => W.heap.size ≤ k ∧ k < w'.heap.size) (libOf (parseF E d)) (.slice ea nx ec) (.slice ia ni ic) (.slice ba nb bc) w') := fun W hb => (Parse_any W.heap.size Fd E _ _ _ d da dc W (Nat.le_refl _) (Nat.lt_of_lt_of_le h0 hb.size) ((he.below hb).grow hb.size) (ht.below hb h0) (hd.lift hb) hdc hdn).mono fun _ _ h => h.q
 have PB : Hid (∀ W, Below w.heap.size w W → Calls Tryz.prog 10 #[.slice a1 n1 c1, .slice a2 n2 c2, .slice a3 n3 c3, dv d da dc] W fun e w' => Below W.heap.size W w' ∧ ∃ ea nx ec ia ni ic ba nb bc bs, e = .returned (.tuple #[.agg #[.string (libOf (parseF E d)).name, .slice ea nx ec, .slice ia ni ic, .slice ba nb bc], .int .i64 (errOf (parseF E d))]) ∧ LibM (fun k => k < w'.heap.size) { libOf (parseF E d) with body := bs } (.slice ea nx ec) (.slice ia ni ic) (.slice ba nb bc) w' ∧ bareQL bs = (libOf (parseF E d)).body ∧ R3.zrL bs) := fun W hb => (R3.refParse_any W.heap.size Fd E _ _ _ d da dc W (Nat.le_refl _) ((he.below hb).grow hb.size) (hd.lift hb) hdc hdn).mono fun _ _ h => TellQ_q h
 obtain ⟨V, hV⟩ : ∃ V, V = w.alloc (.cells #[.int .i64 d.kind, .int .i64 d.n, .string d.name, .int .i64 d.stamp, .int .i64 d.lib, .slice da d.kids.length dc] 26) := ⟨_, rfl⟩
 have bV : Below w.heap.size w V := by rw [hV]; exact (Below.refl _ _).alloc (Nat.le_refl _) _
 have xV : V.heap[w.heap.size]? = some (.cells #[.int .i64 d.kind, .int .i64 d.n, .string d.name, .int .i64 d.stamp, .int .i64 d.lib, .slice da d.kids.length dc] 26 (0, 0)) := by rw [hV]; exact World.alloc_heap_new w _
 have GV : Hid (Below w.heap.size w V ∧ V.heap[w.heap.size]? = some (.cells #[.int .i64 d.kind, .int .i64 d.n, .string d.name, .int .i64 d.stamp, .int .i64 d.lib, .slice da d.kids.length dc] 26 (0, 0))) := ⟨bV, xV⟩
 have QV := hidd hV.symm
 have MU : Hid (Inv (libOf (parseF E d)) ∧ seOkL (libOf (parseF E d)).imports) := libOf_much _ _
 generalize libOf (parseF E d) = s at PA PB MU
 generalize errOf (parseF E d) = er at PA PB
 have e0 : V.cell? ⟨w.heap.size, 0, none⟩ = some _ := (cellO xV).trans rfl
 have e1 : V.cell? ⟨w.heap.size, 1, none⟩ = some _ := (cellO xV).trans rfl
 have e2 : V.cell? ⟨w.heap.size, 2, none⟩ = some _ := (cellO xV).trans rfl
 have e3 : V.cell? ⟨w.heap.size, 3, none⟩ = some _ := (cellO xV).trans rfl
 have e4 : V.cell? ⟨w.heap.size, 4, none⟩ = some _ := (cellO xV).trans rfl
 have e5 : V.cell? ⟨w.heap.size, 5, none⟩ = some _ := (cellO xV).trans rfl
 clear h0 ht he hdn hdc hd hV bV xV
 unfold dv at PA PB ⊢
 go_enter Tryz.func3, Tryz.ntmps3
 go_upto_region 1 with fail
 rw [QV.out]
 clear QV
 go_wp2_with fail
 refine (PA.out V GV.out.1).mono ?_
 rintro e w3 ⟨hb3, ea1, ne1, ec1, ia1, ni1, ic1, ba1, nb1, bc1, rfl, hlm1⟩
 obtain ⟨V3, hV3⟩ : ∃ V, V = w3.alloc (.cells #[.string s.name, .slice ea1 ne1 ec1, .slice ia1 ni1 ic1, .slice ba1 nb1 bc1] 30) := ⟨_, rfl⟩
 have b3 : Below w3.heap.size w3 V3 := by rw [hV3]; exact (Below.refl _ _).alloc (Nat.le_refl _) _
 have G3 : Hid (Below w.heap.size w V3 ∧ V3.heap[w3.heap.size]? = some (.cells #[.string s.name, .slice ea1 ne1 ec1, .slice ia1 ni1 ic1, .slice ba1 nb1 bc1] 30 (0, 0)) ∧ LibM (fun k => k < V3.heap.size) s (.slice ea1 ne1 ec1) (.slice ia1 ni1 ic1) (.slice ba1 nb1 bc1) V3 ∧ V3.heap[w.heap.size]? = some (.cells #[.int .i64 d.kind, .int .i64 d.n, .string d.name, .int .i64 d.stamp, .int .i64 d.lib, .slice da d.kids.length dc] 26 (0, 0))) := by
  have h1 : Below V.heap.size V V3 := hb3.trans (b3.mono hb3.size)
  exact ⟨GV.out.1.trans (h1.mono GV.out.1.size), by rw [hV3]; exact World.alloc_heap_new w3 _, hlm1.stay (fun k hk => b3.block k hk.2) (fun k hk => Nat.lt_of_lt_of_le hk.2 b3.size), (h1.block _ (Array.getElem?_eq_some_iff.1 GV.out.2).1).trans GV.out.2⟩
 have QV3 := hidd hV3.symm
 have f0 : V3.cell? ⟨w.heap.size, 0, none⟩ = some _ := (cellO G3.out.2.2.2).trans rfl
 have f1 : V3.cell? ⟨w.heap.size, 1, none⟩ = some _ := (cellO G3.out.2.2.2).trans rfl
 have f2 : V3.cell? ⟨w.heap.size, 2, none⟩ = some _ := (cellO G3.out.2.2.2).trans rfl
 have f3 : V3.cell? ⟨w.heap.size, 3, none⟩ = some _ := (cellO G3.out.2.2.2).trans rfl
 have f4 : V3.cell? ⟨w.heap.size, 4, none⟩ = some _ := (cellO G3.out.2.2.2).trans rfl
 have f5 : V3.cell? ⟨w.heap.size, 5, none⟩ = some _ := (cellO G3.out.2.2.2).trans rfl
 clear hb3 hlm1 b3 hV3 PA e0 e1 e2 e3 e4 e5 GV
 go_upto_region 2 with fail
 rw [QV3.out]
 clear QV3
 go_wp2_with fail
 refine (PB.out V3 G3.out.1).mono ?_
 rintro e w4 ⟨hb4, ea2, ne2, ec2, ia2, ni2, ic2, ba2, nb2, bc2, bs, rfl, hlm2, hbs, hbz⟩
 obtain ⟨V4, hV4⟩ : ∃ V, V = w4.alloc (.cells #[.string s.name, .slice ea2 ne2 ec2, .slice ia2 ni2 ic2, .slice ba2 nb2 bc2] 30) := ⟨_, rfl⟩
 have b4 : Below w4.heap.size w4 V4 := by rw [hV4]; exact (Below.refl _ _).alloc (Nat.le_refl _) _
 have b34 : Below V3.heap.size V3 V4 := hb4.trans (b4.mono hb4.size)
 have x3 := (b34.block _ (Array.getElem?_eq_some_iff.1 G3.out.2.1).1).trans G3.out.2.1
 have x4 : V4.heap[w4.heap.size]? = some (.cells #[.string s.name, .slice ea2 ne2 ec2, .slice ia2 ni2 ic2, .slice ba2 nb2 bc2] 30 (0, 0)) := by rw [hV4]; exact World.alloc_heap_new w4 _
 have SM := hidd (same_bare V4.heap.size s bs _ _ _ _ _ _ V4 (Nat.le_refl _) (G3.out.2.2.1.stay (fun k hk => b34.block k hk) (fun k hk => Nat.lt_of_lt_of_le hk b34.size)) (hlm2.stay (ok' := fun k => k < V4.heap.size) (fun k hk => b4.block k hk) (fun k hk => Nat.lt_of_lt_of_le hk b4.size)) MU.out.1.e MU.out.1.i MU.out.2 hbs hbz)
 have HB4 : Hid (Below w.heap.size w V4) := G3.out.1.trans (b34.mono G3.out.1.size)
 have QV4 := hidd hV4.symm
 have s0 : V4.cell? ⟨w3.heap.size, 0, none⟩ = some _ := (cellO x3).trans rfl
 have s1 : V4.cell? ⟨w3.heap.size, 1, none⟩ = some _ := (cellO x3).trans rfl
 have s2 : V4.cell? ⟨w3.heap.size, 2, none⟩ = some _ := (cellO x3).trans rfl
 have s3 : V4.cell? ⟨w3.heap.size, 3, none⟩ = some _ := (cellO x3).trans rfl
 have t0 : V4.cell? ⟨w4.heap.size, 0, none⟩ = some _ := (cellO x4).trans rfl
 have t1 : V4.cell? ⟨w4.heap.size, 1, none⟩ = some _ := (cellO x4).trans rfl
 have t2 : V4.cell? ⟨w4.heap.size, 2, none⟩ = some _ := (cellO x4).trans rfl
 have t3 : V4.cell? ⟨w4.heap.size, 3, none⟩ = some _ := (cellO x4).trans rfl
 have g1 : decide (er = er) = true := by simp
 have g2 : (er == er) = true := by simp
 clear hb4 hlm2 hV4 b4 x4 b34 x3 PB f0 f1 f2 f3 f4 f5 hbs hbz G3 MU
 go_upto_region 3 with fail
 rw [QV4.out]
 clear QV4
 go_wp2_with fail
 refine SM.out.mono ?_
 rintro e w7 ⟨rfl, hb7⟩
 have HB7 : Hid (Below w.heap.size w w7) := HB4.out.trans (hb7.mono HB4.out.size)
 clear hb7 SM
 go_wp2_with fail
 go_ret
 exact ⟨rfl, HB7.out⟩
end Go.Proofs.YtonafbennobgdaaGreatDoor
