/- A reader's quotes. -/
import Derived.Test.YtonafbennobgdaaGreatDoorK20
import Derived.Deep.RegionWith
import Derived.Deep.RegionHeld3
namespace Go.Proofs.YtonafbennobgdaaGreatDoor
set_option linter.unusedVariables false
set_option linter.unusedSimpArgs false
open Go.RowKit
set_option maxRecDepth 100000
set_option maxHeartbeats 1600000
abbrev QB (b : Nat) (w' : World) : Prop := w'.cell? ⟨b, 0, none⟩ = some (.int .i64 3) ∧ w'.cell? ⟨b, 1, none⟩ = some (.int .i64 0) ∧ w'.cell? ⟨b, 2, none⟩ = some (.string ⟨#[113, 117, 111, 116, 101]⟩) ∧ w'.cell? ⟨b, 3, none⟩ = some (.int .i64 0) ∧ w'.cell? ⟨b, 4, none⟩ = some (.int .i64 0) ∧ w'.cell? ⟨b, 5, none⟩ = some (.slice none 0 0)
theorem QB.alloc {b : Nat} {w : World} (h : QB b w) (o : Obj) : QB b (w.alloc o) :=
 ⟨Lib.cell?_alloc_marked _ h.1, Lib.cell?_alloc_marked _ h.2.1, Lib.cell?_alloc_marked _ h.2.2.1, Lib.cell?_alloc_marked _ h.2.2.2.1, Lib.cell?_alloc_marked _ h.2.2.2.2.1, Lib.cell?_alloc_marked _ h.2.2.2.2.2⟩
theorem QB.set {b : Nat} {w : World} (h : QB b w) (p : Addr) (hp : b ≠ p.block) (v : Value) : QB b (w.setCell p v) := by
 have e : ∀ q, (w.setCell p v).cell? ⟨b, q, none⟩ = w.cell? ⟨b, q, none⟩ := fun q => World.cell?_of_block (Below.heap_setCell _ _ _ _ hp)
 exact ⟨(e _).trans h.1, (e _).trans h.2.1, (e _).trans h.2.2.1, (e _).trans h.2.2.2.1, (e _).trans h.2.2.2.2.1, (e _).trans h.2.2.2.2.2⟩
theorem quote_much (rb : Nat) (s : ByteArray) (i n : Nat) (dp : Int) (w : World) (h : Rdr rb s i n w) (hd0 : 1 ≤ dp) (hd : dp ≤ 40)
 (hc : ∀ w, Rdr rb s i n w → Calls Tryz.prog 96 #[.pointer (some ⟨rb, 0, none⟩), .int .i64 (dp + 1)] w fun e w' => e = .panicked (thrown (4, (i : Int))) ∧ Keep rb w w') :
 Calls Tryz.prog 99 #[.pointer (some ⟨rb, 0, none⟩), .int .i64 dp] w fun e w' => e = .panicked (thrown (4, (i : Int))) ∧ Keep rb w w' := by
 have HC : Hid (∀ w, Rdr rb s i n w → Calls Tryz.prog 96 #[.pointer (some ⟨rb, 0, none⟩), .int .i64 (dp + 1)] w fun e w' => e = .panicked (thrown (4, (i : Int))) ∧ Keep rb w w') := hc
 have HR : Hid (Rdr rb s i n w) := h
 clear h hc
 go_enter Tryz.func99, Tryz.ntmps99
 go_wp2_with fail
 refine (HC.out _ (HR.out.alloc _)).mono ?_
 rintro e w1 ⟨rfl, hk1⟩
 have hk : Keep rb w w1 := ((Keep.refl _ _).alloc _).trans hk1
 clear hk1
 go_wp2_with fail
 exact ⟨rfl, rfl, hk⟩
theorem quote_read (rb : Nat) (s : ByteArray) (i n : Nat) (dp : Int) (w : World) (h : Rdr rb s i n w) (hi : i < s.size) (hs : s.size ≤ 6000) (hn : n ≤ 1999) (hd0 : 1 ≤ dp) (hd : dp ≤ 39) (d : Dat) (j m : Nat)
 (hname : d.name.size ≤ 20)
 (ih : ∀ (w : World), Rdr rb s (i + 1 + skipL (s.data.toList.drop (i + 1)) false) (n + 1) w → Calls Tryz.prog 73 #[.pointer (some ⟨rb, 0, none⟩), .int .i64 (dp + 1)] w (Out rb s (.inr (d, j, m)) w)) :
 Calls Tryz.prog 99 #[.pointer (some ⟨rb, 0, none⟩), .int .i64 dp] w (Out rb s (.inr (datQuote d, j, m)) w) := by
 have IH : Hid (∀ (w : World), Rdr rb s (i + 1 + skipL (s.data.toList.drop (i + 1)) false) (n + 1) w → Calls Tryz.prog 73 #[.pointer (some ⟨rb, 0, none⟩), .int .i64 (dp + 1)] w (Out rb s (.inr (d, j, m)) w)) := ih
 have HR : Hid (Rdr rb s i n w) := h
 have l1 := h.lt
 clear h ih
 go_enter Tryz.func99, Tryz.ntmps99
 go_wp2_with fail
 refine (count_ok rb s i n (dp + 1) _ (HR.out.alloc _) hn (by omega)).mono ?_
 rintro e w1 ⟨rfl, hk1, hr1⟩
 have c1 := hr1.c1
 have z1 := hr1.z1
 have hs1 := hk1.size
 simp at hs1
 have H1 : Hid (Keep rb w w1 ∧ Rdr rb s i (n + 1) w1 ∧ Six w.heap.size w1) := ⟨((Keep.refl _ _).alloc _).trans hk1, hr1, (Six.made w).keep hk1 (Nat.ne_of_gt l1)⟩
 clear hk1 hr1 HR
 go_wp2_with fail
 refine (skip_any rb s (i + 1) (n + 1) _ (H1.out.2.1.move' (i + 1) _ (by omega)) (by omega) hs).mono ?_
 rintro e w2 ⟨rfl, hk2, hr2⟩
 have hs2 := hk2.size
 simp [World.setCell] at hs2
 have H2 : Hid (Keep rb w w2 ∧ Rdr rb s (i + 1 + skipL (s.data.toList.drop (i + 1)) false) (n + 1) w2 ∧ Six w.heap.size w2) := by
  refine ⟨(H1.out.1.setCell ⟨rb, 1, none⟩ rfl _).trans hk2, hr2, ?_⟩
  refine Six.keep ?_ hk2 (Nat.ne_of_gt l1)
  exact H1.out.2.2.keep ((Keep.refl _ _).setCell ⟨rb, 1, none⟩ rfl _) (Nat.ne_of_gt l1)
 clear hk2 hr2 H1 c1 z1
 go_wp2_with fail
 have hs0 : w.heap.size < w2.heap.size := H2.out.2.2.lt
 have hwr : IntKind.i64.wrap (dp + 1) = dp + 1 := by rw [IntKind.wrap_i64]; omega
 have b0 := World.cell?_alloc_mark w2 #[Value.int IntKind.i64 3, Value.int IntKind.i64 0, Value.string { data := #[113, 117, 111, 116, 101] }, Value.int IntKind.i64 0, Value.int IntKind.i64 0, Value.slice none 0 0] 26 (0, 0)
 have B0 : Hid _ := b0
 clear b0
 go_region_held3 (fun w' => w'.cell? ⟨w2.heap.size, 0, none⟩ = some (.int .i64 3) ∧ w'.cell? ⟨w2.heap.size, 1, none⟩ = some (.int .i64 0) ∧ w'.cell? ⟨w2.heap.size, 2, none⟩ = some (.string ⟨#[113, 117, 111, 116, 101]⟩) ∧ w'.cell? ⟨w2.heap.size, 3, none⟩ = some (.int .i64 0) ∧ w'.cell? ⟨w2.heap.size, 4, none⟩ = some (.int .i64 0) ∧ w'.cell? ⟨w2.heap.size, 5, none⟩ = some (.slice none 0 0)) (first | (with_reducible exact KB.out) | (with_reducible exact KB.out.alloc _) | (with_reducible refine QB.alloc (QB.set (QB.set (QB.set (QB.set (QB.set (QB.set KB.out _ ?_ _) _ ?_ _) _ ?_ _) _ ?_ _) _ ?_ _) _ ?_ _) _ <;> (show w2.heap.size ≠ w.heap.size; omega)) | (simp [go_sem, World.cell?_alloc_past]; done))
  (first | (go_at_call 73; refine (IH.out _ (by exact (H2.out.2.1.alloc _).drew)).mono ?_; rintro e w3 ⟨hk3, hr3, a3, cap3, f3, rfl, hdw3⟩; have kb := (fun o => (hk3.cell (p := ⟨w2.heap.size, o, none⟩) (by simp) (by show w2.heap.size ≠ rb; omega)).trans (B0.out o)); have KB : Hid (QB w2.heap.size w3) := ⟨kb 0, kb 1, kb 2, kb 3, kb 4, kb 5⟩; have hsix : Six w.heap.size w3 := Six.keep ((H2.out.2.2.alloc _).after (Below.drew (Below.refl _ _))) hk3 (Nat.ne_of_gt l1); have hs3 : w2.heap.size + 1 ≤ w3.heap.size := (by have := hk3.size; simpa using this); have H3 : Hid (Keep rb ((w2.alloc (Obj.cells #[Value.int IntKind.i64 3, Value.int IntKind.i64 0, Value.string { data := #[113, 117, 111, 116, 101] }, Value.int IntKind.i64 0, Value.int IntKind.i64 0, Value.slice none 0 0] 26)).drew) w3 ∧ Rdr rb s j m w3 ∧ Dw (NewT ((w2.alloc (Obj.cells #[Value.int IntKind.i64 3, Value.int IntKind.i64 0, Value.string { data := #[113, 117, 111, 116, 101] }, Value.int IntKind.i64 0, Value.int IntKind.i64 0, Value.slice none 0 0] 26)).drew) w3) w3 f3 a3 cap3 d.kids) := ⟨hk3, hr3, hdw3⟩; obtain ⟨x0, x1, x2, x3, x4, x5, x6, x7⟩ := hsix; clear hk3 hr3 hdw3 kb; unfold dv))
 go_wp2_with fail
 refine bodyPost_ret (v := dv (datQuote d) (some ⟨w3.heap.size, 0, none⟩) 2) (by simp [results, Tryz.results99, go_sem, dv, datQuote, datList, x0, x1, x2, x3, x4, x5, x6]) rfl ?_
 have hh := six_heapT w3 w.heap.size (.int .i64 4) (.int .i64 0) (.string ⟨#[]⟩) (.int .i64 0) (.int .i64 0) (.slice (some ⟨w3.heap.size, 0, none⟩) 2 2)
 have hcell := World.cell?_alloc_mark ((((((w3.setCell ⟨w.heap.size, 0, none⟩ (.int .i64 4)).setCell ⟨w.heap.size, 1, none⟩ (.int .i64 0)).setCell ⟨w.heap.size, 2, none⟩ (.string ⟨#[]⟩)).setCell ⟨w.heap.size, 3, none⟩ (.int .i64 0)).setCell ⟨w.heap.size, 4, none⟩ (.int .i64 0)).setCell ⟨w.heap.size, 5, none⟩ (.slice (some ⟨w3.heap.size, 0, none⟩) 2 2)) #[.int .i64 3, .int .i64 0, .string ⟨#[113, 117, 111, 116, 101]⟩, .int .i64 0, .int .i64 0, .slice none 0 0, .int .i64 d.kind, .int .i64 d.n, .string d.name, .int .i64 d.stamp, .int .i64 d.lib, .slice a3 d.kids.length cap3] 26 (0, 0)
 rw [hh.2] at hcell
 refine ⟨?_, ?_, some ⟨w3.heap.size, 0, none⟩, 2, f3 + 1, rfl, ?_⟩
 ·exact (keep_six (((H2.out.1.alloc _).drew).trans H3.out.1) (Nat.le_refl _) _ _ _ _ _ _).alloc _
 ·exact (H3.out.2.1.six (Nat.ne_of_gt l1) _ _ _ _ _ _).alloc _
 refine ⟨⟨by show (2 : Nat) ≤ 9223372036854775807; omega, by show (2 : Nat) ≤ 2; omega⟩, Or.inr ⟨w3.heap.size, 0, rfl, ⟨by omega, by simp [World.setCell]⟩, ?_⟩⟩
 intro q d' hd'
 match q, hd' with
 | 0, hd' =>
  have e : datSym [113, 117, 111, 116, 101] = d' := Option.some.inj hd'
  subst e
  exact ⟨none, 0, hcell 0, hcell 1, hcell 2, hcell 3, hcell 4, hcell 5, by show (5 : Nat) ≤ maxLen; unfold maxLen; omega, Dw.nil _ _ _ _ _⟩
 | 1, hd' =>
  have e : d = d' := Option.some.inj hd'
  subst e
  refine ⟨a3, cap3, hcell 6, hcell 7, hcell 8, hcell 9, hcell 10, hcell 11, by unfold maxLen; omega, ?_⟩
  refine Dw.stay ?_ ?_ f3 _ _ _ H3.out.2.2
  ·intro b hb
   have hb1 : w2.heap.size + 1 ≤ b := by have := hb.1; simpa using this
   refine (Below.heap_alloc _ _ _ (by rw [hh.2]; exact hb.2)).trans (hh.1 b (by omega))
  intro b hb
  have hb1 : w2.heap.size + 1 ≤ b := by have := hb.1; simpa using this
  refine ⟨by omega, ?_⟩
  have := hb.2
  simp [World.setCell]
  omega
 | q + 2, hd' => simp [datQuote, datList] at hd'
end Go.Proofs.YtonafbennobgdaaGreatDoor
