/- Chapter 3, the document's side: whether libraries are the same: some answer, whatever they are. -/
import Derived.Test.YtonafbennobgdaaGreatDoorK47
namespace Go.Proofs.YtonafbennobgdaaGreatDoor
set_option linter.unusedVariables false
set_option linter.unusedSimpArgs false
open Go.RowKit

set_option maxRecDepth 100000 in
set_option maxHeartbeats 6400000 in
theorem may_any (B : Nat) (s t : LibS) (e1 i1 b1 e2 i2 b2 : Value) (w : World) (hB : B ≤ w.heap.size) (h1 : LibM (fun k => k < B) s e1 i1 b1 w) (h2 : LibM (fun k => k < B) t e2 i2 b2 w) (hx : s.exports.length ≤ 200) (hi : s.imports.length ≤ 20) (hio : seOkL s.imports) (hx2 : t.exports.length ≤ 200) (hi2 : t.imports.length ≤ 20) (hio2 : seOkL t.imports) :
    Calls Tryz.prog 11 #[.agg #[.string s.name, e1, i1, b1], .agg #[.string t.name, e2, i2, b2]] w (MayB w) := by
  have P37 : Hid (∀ W, Below w.heap.size w W → Calls Tryz.prog 37 #[e1, e2] W (MayB W)) := fun W hb => mayPr_any B s.exports t.exports e1 e2 W (Nat.le_trans hB hb.size) (h1.ex.stay (fun k hk => hb.block k (Nat.lt_of_lt_of_le hk hB)) (fun _ h => h)) (h2.ex.stay (fun k hk => hb.block k (Nat.lt_of_lt_of_le hk hB)) (fun _ h => h)) (by omega) (by omega)
  have P38 : Hid (∀ W, Below w.heap.size w W → Calls Tryz.prog 38 #[i1, i2] W (MayB W)) := fun W hb => maySe_any B (SizeOf.sizeOf s.imports + 1) s.imports t.imports (by omega) hio hio2 (by omega) (by omega) i1 i2 W (Nat.le_trans hB hb.size) (h1.im.stay (fun k hk => hb.block k (Nat.lt_of_lt_of_le hk hB)) (fun _ h => h)) (h2.im.stay (fun k hk => hb.block k (Nat.lt_of_lt_of_le hk hB)) (fun _ h => h))
  have P39 : Hid (∀ W, Below w.heap.size w W → Calls Tryz.prog 39 #[b1, b2] W (MayB W)) := fun W hb => by
    obtain ⟨a, c, f, rfl, _, hd⟩ := h1.bo.stay (ok' := fun k => k < B) (w' := W) (fun k hk => hb.block k (Nat.lt_of_lt_of_le hk hB)) (fun _ h => h)
    obtain ⟨a', c', f', rfl, _, hd'⟩ := h2.bo.stay (ok' := fun k => k < B) (w' := W) (fun k hk => hb.block k (Nat.lt_of_lt_of_le hk hB)) (fun _ h => h)
    exact (SameB_any B f f' s.body t.body a a' c c' W (Nat.le_trans hB hb.size) (Dc.lies (fun _ h => h) f a _ hd) (Dc.lies (fun _ h => h) f' a' _ hd')).mono fun e w' h => ⟨⟨_, h.1⟩, h.2⟩
  obtain ⟨ea, ec, rfl, _, _⟩ := id h1.ex
  obtain ⟨ea2, ec2, rfl, _, _⟩ := id h2.ex
  obtain ⟨ia, in1, ic, rfl⟩ := SeL.slice h1.im
  obtain ⟨ia2, in2, ic2, rfl⟩ := SeL.slice h2.im
  obtain ⟨ba, bc, bf, rfl, _, _⟩ := id h1.bo
  obtain ⟨ba2, bc2, bf2, rfl, _, _⟩ := id h2.bo
  obtain ⟨nx, hnx⟩ : ∃ nx, nx = s.exports.length := ⟨_, rfl⟩
  obtain ⟨nb, hnb⟩ : ∃ nb, nb = s.body.length := ⟨_, rfl⟩
  obtain ⟨nx2, hnx2⟩ : ∃ nx, nx = t.exports.length := ⟨_, rfl⟩
  obtain ⟨nb2, hnb2⟩ : ∃ nb, nb = t.body.length := ⟨_, rfl⟩
  rw [← hnx, ← hnx2] at P37 ⊢
  rw [← hnb, ← hnb2] at P39 ⊢
  clear h1 h2 hx hi hio hx2 hi2 hio2 hnx hnb hnx2 hnb2 hB
  obtain ⟨W2, hW2⟩ : ∃ W2, W2 = ((w.alloc (.cells #[.string s.name, .slice ea nx ec, .slice ia in1 ic, .slice ba nb bc] 30)).alloc (.cells #[.string t.name, .slice ea2 nx2 ec2, .slice ia2 in2 ic2, .slice ba2 nb2 bc2] 30)) := ⟨_, rfl⟩
  have g1 : Below w.heap.size w W2 := by rw [hW2]; exact ((Below.refl _ _).alloc (Nat.le_refl _) _).alloc (by simp) _
  have b0 : W2.heap[w.heap.size]? = some (.cells #[.string s.name, .slice ea nx ec, .slice ia in1 ic, .slice ba nb bc] 30 (0, 0)) := by
    rw [hW2, Below.heap_alloc _ _ _ (by simp)]; exact World.alloc_heap_new w _
  have b1 : W2.heap[w.heap.size + 1]? = some (.cells #[.string t.name, .slice ea2 nx2 ec2, .slice ia2 in2 ic2, .slice ba2 nb2 bc2] 30 (0, 0)) := by
    rw [hW2]
    have := World.alloc_heap_new (w.alloc (.cells #[.string s.name, .slice ea nx ec, .slice ia in1 ic, .slice ba nb bc] 30)) (.cells #[.string t.name, .slice ea2 nx2 ec2, .slice ia2 in2 ic2, .slice ba2 nb2 bc2] 30)
    simpa using this
  have HB2 := hidd g1
  have HQ : Hid (∀ W, Below W2.heap.size W2 W → W.heap[w.heap.size]? = some (.cells #[.string s.name, .slice ea nx ec, .slice ia in1 ic, .slice ba nb bc] 30 (0, 0)) ∧ W.heap[w.heap.size + 1]? = some (.cells #[.string t.name, .slice ea2 nx2 ec2, .slice ia2 in2 ic2, .slice ba2 nb2 bc2] 30 (0, 0))) := fun W hb => ⟨(hb.block _ (Array.getElem?_eq_some_iff.1 b0).1).trans b0, (hb.block _ (Array.getElem?_eq_some_iff.1 b1).1).trans b1⟩
  have x0 : W2.cell? ⟨w.heap.size, 0, none⟩ = some _ := (cellO b0).trans rfl
  have x1 : W2.cell? ⟨w.heap.size, 1, none⟩ = some _ := (cellO b0).trans rfl
  have y0 : W2.cell? ⟨w.heap.size + 1, 0, none⟩ = some _ := (cellO b1).trans rfl
  have y1 : W2.cell? ⟨w.heap.size + 1, 1, none⟩ = some _ := (cellO b1).trans rfl
  have HW := hidd hW2.symm
  clear g1 b0 b1 hW2
  generalize s.name = nm1 at *
  generalize t.name = nm2 at *
  go_enter Tryz.func11, Tryz.ntmps11
  go_upto_region 1 with fail
  rw [HW.out]
  clear HW
  by_cases dd : ¬ nm1.toList = nm2.toList
  · have g1 : (nm1.toList == nm2.toList) = false := by simpa using dd
    have DD := hidd dd
    clear dd
    go_wp2_with fail
    go_ret
    exact ⟨⟨_, rfl⟩, HB2.out⟩
  have g1 : (nm1.toList == nm2.toList) = true := by simpa using Classical.not_not.1 dd
  clear dd
  go_wp2_with fail
  refine (P37.out W2 HB2.out).mono ?_
  rintro e w3 ⟨⟨bb, rfl⟩, hb3⟩
  obtain ⟨b0, b1⟩ := HQ.out w3 hb3
  have HB3 : Hid (Below w.heap.size w w3 ∧ Below W2.heap.size W2 w3) := ⟨HB2.out.trans (hb3.mono HB2.out.size), hb3⟩
  have x2 : w3.cell? ⟨w.heap.size, 2, none⟩ = some _ := (cellO b0).trans rfl
  have y2 : w3.cell? ⟨w.heap.size + 1, 2, none⟩ = some _ := (cellO b1).trans rfl
  clear hb3 b0 b1 x0 x1 y0 y1
  cases bb with
  | false =>
    go_wp2_with fail
    go_ret
    exact ⟨⟨_, rfl⟩, HB3.out.1⟩
  | true =>
    go_wp2_with fail
    refine (P38.out w3 HB3.out.1).mono ?_
    rintro e w4 ⟨⟨bb, rfl⟩, hb4⟩
    obtain ⟨b0, b1⟩ := HQ.out w4 (HB3.out.2.trans (hb4.mono HB3.out.2.size))
    have HB4 : Hid (Below w.heap.size w w4) := HB3.out.1.trans (hb4.mono HB3.out.1.size)
    have x3 : w4.cell? ⟨w.heap.size, 3, none⟩ = some _ := (cellO b0).trans rfl
    have y3 : w4.cell? ⟨w.heap.size + 1, 3, none⟩ = some _ := (cellO b1).trans rfl
    clear hb4 b0 b1 x2 y2
    cases bb with
    | false =>
      go_wp2_with fail
      go_ret
      exact ⟨⟨_, rfl⟩, HB4.out⟩
    | true =>
      go_wp2_with fail
      refine (P39.out w4 HB4.out).mono ?_
      rintro e w5 ⟨⟨bb, rfl⟩, hb5⟩
      have HB5 : Hid (Below w.heap.size w w5) := HB4.out.trans (hb5.mono HB4.out.size)
      clear hb5
      go_wp2_with fail
      go_ret
      exact ⟨⟨_, rfl⟩, HB5.out⟩
end Go.Proofs.YtonafbennobgdaaGreatDoor
