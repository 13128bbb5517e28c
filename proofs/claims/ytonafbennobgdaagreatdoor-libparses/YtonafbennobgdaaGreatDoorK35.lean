/- The document's walk over declarations: its block; stop, good. -/
import Derived.Test.YtonafbennobgdaaGreatDoorK33
namespace Go.Proofs.YtonafbennobgdaaGreatDoor.R3
set_option linter.unusedVariables false
set_option linter.unusedSimpArgs false
open Go.RowKit
set_option maxRecDepth 100000
set_option maxHeartbeats 6400000
def WB (rb : Nat) (fv tv lv : Value) (nm : ByteArray) (ev iv bv : Value) (e : Int) (w : World) : Prop := w.heap[rb]? = some (.cells #[fv, tv, lv, .string nm, ev, iv, bv, .int .i64 e] 61 (0, 0))
set_option maxRecDepth 100000 in
set_option maxHeartbeats 3200000 in
theorem word_sym (rb : Nat) (d : Dat) (a : Option Addr) (cap : Nat) (w : World) (hd : d.kind = 3) : Calls Tryz.prog 32 #[.pointer (some ⟨rb, 0, none⟩), dv d a cap] w fun e w' => e = .returned (.string d.name) ∧ Below w.heap.size w w' := by
 unfold dv
 rw [hd]
 generalize d.kids.length = kn
 go_enter Tryz.func32, Tryz.ntmps32
 go_wp2_with fail
 exact ⟨rfl, .string d.name, by simp [results, Tryz.results32, go_sem], rfl, (Below.refl _ _).alloc (Nat.le_refl _) _⟩
set_option maxRecDepth 100000 in
set_option maxHeartbeats 3200000 in
theorem need_ok (rb : Nat) (d : Dat) (a : Option Addr) (cap : Nat) (w : World) (l : Nat) (hd : d.kind = 4) (hl : l ≤ d.kids.length) : Calls Tryz.prog 31 #[.pointer (some ⟨rb, 0, none⟩), dv d a cap, .int .i64 l] w fun e w' => e = .returned (.slice a d.kids.length cap) ∧ Below w.heap.size w w' := by
 unfold dv
 rw [hd]
 generalize d.kids.length = kn at *
 have k1 : decide ((kn : Int) < (l : Int)) = false := by simp; omega
 have k2 : ¬ (kn : Int) < (l : Int) := by omega
 go_enter Tryz.func31, Tryz.ntmps31
 go_wp2_with fail
 exact ⟨rfl, .slice a kn cap, by simp [results, Tryz.results31, go_sem], rfl, (Below.refl _ _).alloc (Nat.le_refl _) _⟩
def fst1 (e x : Int) : Int := if e = 0 then x else e
theorem fst1_zero (x : Int) : fst1 0 x = x := rfl
theorem fst1_no {e : Int} (h : e ≠ 0) (x : Int) : fst1 e x = e := if_neg h
theorem fst1_none (e : Int) : fst1 e 0 = e := by
 unfold fst1
 split
 ·exact Eq.symm ‹_›
 rfl
def E7 (rb : Nat) (e : Int) (w : World) : Prop := w.cell? ⟨rb, 7, none⟩ = some (.int .i64 e) ∧ w.frozen? ⟨rb, 7, none⟩ = false
def upd7 (v : Value) : Obj → Obj
 | .cells c t f => .cells (c.setIfInBounds 7 v) t f
 | o => o
theorem upd7_upd7 (u v : Value) (o : Obj) : upd7 v (upd7 u o) = upd7 v o := by cases o <;> simp [upd7, Array.setIfInBounds_setIfInBounds]
theorem heap_set7 (w : World) (rb : Nat) (v : Value) : (w.setCell ⟨rb, 7, none⟩ v).heap[rb]? = (w.heap[rb]?).map (upd7 v) := by
 simp only [World.setCell]
 rw [Array.getElem?_modify, if_pos rfl]
 cases w.heap[rb]? with
 | none => rfl
 | some o => cases o <;> rfl
def St (rb : Nat) (e : Int) (w w' : World) : Prop := Below w.heap.size (w.setCell ⟨rb, 7, none⟩ (.int .i64 e)) w'
theorem E7.cells {rb : Nat} {e : Int} {w : World} (h : E7 rb e w) : ∃ c t f, w.heap[rb]? = some (.cells c t f) ∧ c[7]? = some (.int .i64 e) := by
 have h1 := h.1
 unfold World.cell? at h1
 split at h1
 ·rename_i c t f he
  exact ⟨c, t, f, he, by simpa using h1⟩
 cases h1
theorem E7.lt {rb : Nat} {e : Int} {w : World} (h : E7 rb e w) : rb < w.heap.size := by
 obtain ⟨c, t, f, h1, _⟩ := h.cells
 exact (Array.getElem?_eq_some_iff.1 h1).1
theorem set_at {α : Type} {c : Array α} {i : Nat} {v : α} (h : c[i]? = some v) : c.setIfInBounds i v = c := by
 obtain ⟨hi, e⟩ := Array.getElem?_eq_some_iff.1 h
 apply Array.ext
 ·simp
 intro j h1 h2
 rw [Array.getElem_setIfInBounds]
 split
 ·rename_i hj; subst hj; exact e.symm
 rfl
theorem E7.far {rb : Nat} {e : Int} {w : World} (h : E7 rb e w) (k : Nat) : (w.setCell ⟨rb, 7, none⟩ (.int .i64 e)).heap[k]? = w.heap[k]? := by
 by_cases hk : k = rb
 ·subst hk
  rw [heap_set7]
  obtain ⟨c, t, f, h1, h2⟩ := h.cells
  rw [h1]
  simp only [Option.map_some, upd7, set_at h2]
 exact Below.heap_setCell _ _ _ _ hk
theorem St.of {rb : Nat} {e : Int} {w w' : World} (h : E7 rb e w) (hb : Below w.heap.size w w') : St rb e w w' :=
 ⟨hb.os, hb.tape, hb.output, by simpa using hb.size, fun k hk => (hb.block k hk).trans (h.far k).symm⟩
theorem St.refl {rb : Nat} {e : Int} {w : World} (h : E7 rb e w) : St rb e w w := St.of h (Below.refl _ _)
theorem St.size {rb : Nat} {e : Int} {w w' : World} (h : St rb e w w') : w.heap.size ≤ w'.heap.size := by simpa using Below.size h
theorem St.far {rb : Nat} {e : Int} {w w' : World} (h : St rb e w w') {k : Nat} (hk : k < w.heap.size) (hr : k ≠ rb) : w'.heap[k]? = w.heap[k]? := (h.block k hk).trans (Below.heap_setCell _ _ _ _ hr)
theorem St.trans {rb : Nat} {e1 e2 : Int} {w w1 w2 : World} (h1 : St rb e1 w w1) (h2 : St rb e2 w1 w2) : St rb e2 w w2 :=
 ⟨h2.os.trans h1.os, h2.tape.trans h1.tape, h2.output.trans h1.output, by simpa using Nat.le_trans h1.size h2.size, fun k hk => by
  rw [h2.block k (Nat.lt_of_lt_of_le hk h1.size)]
  by_cases hr : k = rb
  ·subst hr
   rw [heap_set7, heap_set7, h1.block k hk, heap_set7, Option.map_map]
   congr 1
   funext o
   exact upd7_upd7 _ _ o
  rw [Below.heap_setCell _ _ _ _ hr, Below.heap_setCell _ _ _ _ hr, h1.far hk hr]⟩
theorem St.low {rb A : Nat} {e : Int} {w w' : World} (h : St rb e w w') (hr : A ≤ rb) (hA : A ≤ w.heap.size) : Below A w w' :=
 ⟨h.os, h.tape, h.output, h.size, fun k hk => h.far (Nat.lt_of_lt_of_le hk hA) (by omega)⟩
theorem St.and {rb : Nat} {e : Int} {w w1 w2 : World} (h1 : St rb e w w1) (h2 : Below w1.heap.size w1 w2) : St rb e w w2 := Below.trans h1 (h2.mono h1.size)
theorem E7.below {rb : Nat} {e : Int} {w w' : World} (h : E7 rb e w) (hb : Below w.heap.size w w') : E7 rb e w' := ⟨(hb.cell h.lt).trans h.1, (hb.frozen h.lt).trans h.2⟩
theorem E7.alloc {rb : Nat} {e : Int} {w : World} (h : E7 rb e w) (o : Obj) : E7 rb e (w.alloc o) := h.below ((Below.refl _ _).alloc (Nat.le_refl _) _)
theorem E7.st {rb : Nat} {e e' : Int} {w w' : World} (h : E7 rb e w) (hs : St rb e' w w') : E7 rb e' w' := by
 have hl := h.lt
 refine ⟨(hs.cell (p := ⟨rb, 7, none⟩) hl).trans (World.cell?_setCell_same _ _ _ h.1), (hs.frozen (p := ⟨rb, 7, none⟩) hl).trans ?_⟩
 obtain ⟨c, t, f, h1, h2⟩ := h.cells
 have h3 := h.2
 unfold World.frozen? at h3 ⊢
 rw [heap_set7, h1]
 rw [h1] at h3
 exact h3
theorem E7.stop {rb : Nat} {e : Int} {w : World} (h : E7 rb e w) (x : Int) : St rb x w (w.setCell ⟨rb, 7, none⟩ (.int .i64 x)) := by
 have := Below.refl w.heap.size (w.setCell ⟨rb, 7, none⟩ (.int .i64 x))
 exact this
theorem WB.e7 {rb : Nat} {fv tv lv : Value} {nm : ByteArray} {ev iv bv : Value} {e : Int} {w : World} (h : WB rb fv tv lv nm ev iv bv e w) : E7 rb e w := ⟨(cellO h).trans rfl, looseO h⟩
theorem WB.st {rb : Nat} {fv tv lv : Value} {nm : ByteArray} {ev iv bv : Value} {e e' : Int} {w w' : World} (h : WB rb fv tv lv nm ev iv bv e w) (hs : St rb e' w w') : WB rb fv tv lv nm ev iv bv e' w' := by
 have hl := h.e7.lt
 unfold WB at h ⊢
 rw [hs.block rb hl, heap_set7, h]
 rfl
def DW (rb : Nat) (w : World) (f : Nat) (a : Option Addr) (ds : List Dat) : Prop := Dc (fun k => k < w.heap.size ∧ k ≠ rb) w f a ds
theorem DW.st {rb f : Nat} {e : Int} {w w' : World} {a : Option Addr} {ds : List Dat} (h : DW rb w f a ds) (hs : St rb e w w') : DW rb w' f a ds :=
 Dc.stay (fun k hk => hs.far hk.1 hk.2) (fun k hk => ⟨Nat.lt_of_lt_of_le hk.1 hs.size, hk.2⟩) f a ds h
theorem DW.below {rb f : Nat} {w w' : World} {a : Option Addr} {ds : List Dat} (h : DW rb w f a ds) (hs : Below w.heap.size w w') : DW rb w' f a ds :=
 Dc.stay (fun k hk => hs.block k hk.1) (fun k hk => ⟨Nat.lt_of_lt_of_le hk.1 hs.size, hk.2⟩) f a ds h
theorem DW.of {rb f : Nat} {w : World} {a : Option Addr} {ds : List Dat} (h : Dc (fun k => k < rb) w f a ds) (hl : rb ≤ w.heap.size) : DW rb w f a ds :=
 Dc.stay (fun _ _ => rfl) (fun k hk => ⟨Nat.lt_of_lt_of_le hk hl, Nat.ne_of_lt hk⟩) f a ds h
theorem stop_any (rb : Nat) (e x : Int) (w : World) (h : E7 rb e w) : Calls Tryz.prog 35 #[.pointer (some ⟨rb, 0, none⟩), .int .i64 x] w fun en w' => en = .returned (.tuple #[]) ∧ St rb (fst1 e x) w w' := by
 have c7 := h.1
 have z7 := h.2
 have HE := hidd h
 clear h
 by_cases he : e = 0
 ·subst he
  go_enter Tryz.func35, Tryz.ntmps35
  go_wp2_with fail
  go_end0
  exact ⟨rfl, HE.out.stop x⟩
 have hd : (e == 0) = false := by simpa using he
 have hd2 : decide (e = 0) = false := by simpa using he
 have HN := hidd he
 clear he
 go_enter Tryz.func35, Tryz.ntmps35
 go_wp2_with fail
 go_end0
 exact ⟨rfl, by rw [fst1_no HN.out]; exact St.refl HE.out⟩
theorem good_any (rb : Nat) (e : Int) (w : World) (h : E7 rb e w) : Calls Tryz.prog 33 #[.pointer (some ⟨rb, 0, none⟩)] w fun en w' => en = .returned (.bool (decide (e = 0))) ∧ w' = w := by
 have c7 := h.1
 by_cases he : e = 0
 ·subst he
  go_enter Tryz.func33, Tryz.ntmps33
  go_wp2_with fail
  exact ⟨rfl, .bool true, by simp [results, Tryz.results33, go_sem], rfl, rfl⟩
 have hd : (e == 0) = false := by simpa using he
 have hd2 : decide (e = 0) = false := by simpa using he
 clear h
 rw [hd2]
 go_enter Tryz.func33, Tryz.ntmps33
 go_wp2_with fail
 exact ⟨rfl, .bool false, by simp [results, Tryz.results33, go_sem], rfl, rfl⟩
def wdS (d : Dat) : ByteArray := if d.kind = 3 then d.name else ⟨#[]⟩
def wdE (d : Dat) : Int := if d.kind = 3 then 0 else 2
theorem word_any (rb : Nat) (e : Int) (d : Dat) (a : Option Addr) (cap : Nat) (w : World) (h : E7 rb e w) : Calls Tryz.prog 32 #[.pointer (some ⟨rb, 0, none⟩), dv d a cap] w fun en w' => en = .returned (.string (wdS d)) ∧ St rb (fst1 e (wdE d)) w w' := by
 by_cases hd : d.kind = 3
 ·rw [show wdS d = d.name from if_pos hd, show wdE d = 0 from if_pos hd, fst1_none]
  exact (word_sym rb d a cap w hd).mono fun en w' hh => ⟨hh.1, St.of h hh.2⟩
 rw [show wdS d = ⟨#[]⟩ from if_neg hd, show wdE d = 2 from if_neg hd]
 have SF : Hid (∀ W, E7 rb e W → Calls Tryz.prog 35 #[.pointer (some ⟨rb, 0, none⟩), .int .i64 2] W fun en w' => en = .returned (.tuple #[]) ∧ St rb (fst1 e 2) W w') := fun W hW => stop_any rb e 2 W hW
 have HE := hidd h
 have k1 : (d.kind == 3) = false := by simpa using hd
 have k2 : decide (d.kind = 3) = false := by simpa using hd
 unfold dv
 generalize d.kids.length = kn
 clear h
 go_enter Tryz.func32, Tryz.ntmps32
 go_wp2_with fail
 refine (SF.out _ (HE.out.alloc _)).mono ?_
 rintro en w2 ⟨rfl, hs⟩
 have HS := hidd hs
 clear hs
 go_wp2_with fail
 exact ⟨rfl, .string ⟨#[]⟩, by simp [results, Tryz.results32, go_sem], rfl, (St.of HE.out ((Below.refl _ _).alloc (Nat.le_refl _) _)).trans HS.out⟩
def needD (d : Dat) (l : Nat) : List Dat := if d.kind = 4 ∧ l ≤ d.kids.length then d.kids else List.replicate l zeroD
def needE (d : Dat) (l : Nat) : Int := if d.kind = 4 ∧ l ≤ d.kids.length then 0 else 2
def z3 (l : Nat) : List (Dat × Option Addr × Nat) := List.replicate l (zeroD, none, 0)
theorem made_dat (l : Nat) (h : l = 1 ∨ l = 2 ∨ l = 3) : madeCells #[.int .i64 0, .int .i64 0, .string ⟨#[]⟩, .int .i64 0, .int .i64 0, .slice none 0 0] (l * 6) = (flat (z3 l)).toArray := by
 rcases h with rfl | rfl | rfl <;> kernel_rfl
theorem make_dat (l : Nat) (h : l = 1 ∨ l = 2 ∨ l = 3) (w : World) : (Instr.makeSlice 24 (.int .i64 l) (.int .i64 l)).run Tryz.prog w = .ok (.slice (some ⟨w.heap.size, 0, none⟩) l l) (w.alloc (.cells (flat (z3 l)).toArray 26)) := by
 obtain ⟨i0, hinf, hz0, hz1, hz2⟩ := info_parts infoDat
 have := run_makeSlice (P := Tryz.prog) w 24 26 i0 _ Tryz.underlying24 hinf hz0 .i64 .i64 l l (by omega) (Int.le_refl _) (by rw [hz1]; simp; omega) (by rw [hz2]; omega) (by omega)
 rw [hz1] at this
 rw [← made_dat l h]
 simpa [Value.cells] using this
theorem z3_dat (rb l : Nat) (w : World) (hr : rb < w.heap.size) (h : l ≤ 3) : DW rb (w.alloc (.cells (flat (z3 l)).toArray 26)) 1 (some ⟨w.heap.size, 0, none⟩) (List.replicate l zeroD) := by
 refine ⟨by simp; omega, Or.inr ⟨w.heap.size, 0, rfl, ⟨by simp, Nat.ne_of_gt hr⟩, fun i d hd => ?_⟩⟩
 rw [List.getElem?_replicate] at hd
 split at hd
 ·rename_i hi
  have hd := (Option.some.inj hd).symm
  subst hd
  have hz : (z3 l)[i]? = some (zeroD, none, 0) := by
   unfold z3
   rw [List.getElem?_replicate, if_pos hi]
  have hq := flat_atD _ _ _ hz
  have hc : ∀ q, (w.alloc (.cells (flat (z3 l)).toArray 26)).cell? ⟨w.heap.size, q, none⟩ = (flat (z3 l))[q]? := fun q => (cellO (World.alloc_heap_new w _)).trans (by simp)
  refine ⟨none, 0, ?_, ?_, ?_, ?_, ?_, ?_, by decide, Nat.le_refl _, rfl⟩ <;> rw [hc, Nat.zero_add]
  ·exact (hq 0 (by decide)).trans rfl
  ·exact (hq 1 (by decide)).trans rfl
  ·exact (hq 2 (by decide)).trans rfl
  ·exact (hq 3 (by decide)).trans rfl
  ·exact (hq 4 (by decide)).trans rfl
  exact (hq 5 (by decide)).trans rfl
 cases hd
theorem need_no (rb : Nat) (e : Int) (d : Dat) (a : Option Addr) (cap : Nat) (w : World) (l : Nat) (h : E7 rb e w) (hl : l = 1 ∨ l = 2 ∨ l = 3) (hd : ¬ (d.kind = 4 ∧ l ≤ d.kids.length)) : Calls Tryz.prog 31 #[.pointer (some ⟨rb, 0, none⟩), dv d a cap, .int .i64 l] w fun en w' => ∃ b, en = .returned (.slice (some ⟨b, 0, none⟩) l l) ∧ w.heap.size ≤ b ∧ DW rb w' 1 (some ⟨b, 0, none⟩) (List.replicate l zeroD) ∧ St rb (fst1 e 2) w w' := by
 have SF : Hid (∀ W, E7 rb e W → Calls Tryz.prog 35 #[.pointer (some ⟨rb, 0, none⟩), .int .i64 2] W fun en w' => en = .returned (.tuple #[]) ∧ St rb (fst1 e 2) W w') := fun W hW => stop_any rb e 2 W hW
 have HE := hidd h
 have ML : Hid (∀ w, (Instr.makeSlice 24 (.int .i64 l) (.int .i64 l)).run Tryz.prog w = .ok (.slice (some ⟨w.heap.size, 0, none⟩) l l) (w.alloc (.cells (flat (z3 l)).toArray 26))) := make_dat l hl
 have HL : Hid (l ≤ 3) := hidd (by omega)
 unfold dv
 generalize d.kids.length = kn at *
 by_cases h4 : d.kind = 4
 ·rw [h4]
  have k1 : decide ((kn : Int) < (l : Int)) = true := by simp; omega
  have k2 : (kn : Int) < (l : Int) := by omega
  clear h hd hl h4
  go_enter Tryz.func31, Tryz.ntmps31
  go_wp2_with fail
  refine (SF.out _ (HE.out.alloc _)).mono ?_
  rintro en w2 ⟨rfl, hs⟩
  have HS := hidd ((St.of HE.out ((Below.refl _ _).alloc (Nat.le_refl _) _)).trans hs)
  have mk := ML.out w2
  have hsz : w.heap.size ≤ w2.heap.size := by have := hs.size; simp at this; omega
  have hlt := (HE.out.st HS.out).lt
  clear hs
  go_wp2_with fail
  go_ret
  exact ⟨w2.heap.size, rfl, hsz, z3_dat rb l w2 hlt HL.out, HS.out.and ((Below.refl _ _).alloc (Nat.le_refl _) _)⟩
 have k1 : (d.kind == 4) = false := by simpa using h4
 have k2 : decide (d.kind = 4) = false := by simpa using h4
 clear h hd hl
 go_enter Tryz.func31, Tryz.ntmps31
 go_wp2_with fail
 refine (SF.out _ (HE.out.alloc _)).mono ?_
 rintro en w2 ⟨rfl, hs⟩
 have HS := hidd ((St.of HE.out ((Below.refl _ _).alloc (Nat.le_refl _) _)).trans hs)
 have mk := ML.out w2
 have hsz : w.heap.size ≤ w2.heap.size := by have := hs.size; simp at this; omega
 have hlt := (HE.out.st HS.out).lt
 clear hs
 go_wp2_with fail
 go_ret
 exact ⟨w2.heap.size, rfl, hsz, z3_dat rb l w2 hlt HL.out, HS.out.and ((Below.refl _ _).alloc (Nat.le_refl _) _)⟩
theorem need_any (rb f : Nat) (e : Int) (d : Dat) (a : Option Addr) (cap : Nat) (w : World) (l : Nat) (h : E7 rb e w) (hl : l = 1 ∨ l = 2 ∨ l = 3) (hd : DW rb w f a d.kids) (hc : d.kids.length ≤ cap) : Calls Tryz.prog 31 #[.pointer (some ⟨rb, 0, none⟩), dv d a cap, .int .i64 l] w fun en w' => ∃ a' c' f', en = .returned (.slice a' (needD d l).length c') ∧ (needD d l).length ≤ c' ∧ DW rb w' f' a' (needD d l) ∧ St rb (fst1 e (needE d l)) w w' := by
 by_cases hk : d.kind = 4 ∧ l ≤ d.kids.length
 ·rw [show needD d l = d.kids from if_pos hk, show needE d l = 0 from if_pos hk, fst1_none]
  refine (need_ok rb d a cap w l hk.1 hk.2).mono ?_
  rintro en w' ⟨rfl, hb⟩
  exact ⟨a, cap, f, rfl, hc, hd.below hb, St.of h hb⟩
 rw [show needD d l = List.replicate l zeroD from if_neg hk, show needE d l = 2 from if_neg hk]
 refine (need_no rb e d a cap w l h hl hk).mono ?_
 rintro en w' ⟨b, rfl, _, h2, h3⟩
 exact ⟨_, l, 1, by simp, by simp, h2, h3⟩
def wordsE : List Dat → Int
 | [] => 0
 | d :: r => if d.kind = 3 then wordsE r else 2
theorem wordsE_snoc (d : Dat) : ∀ (l : List Dat), wordsE (l ++ [d]) = fst1 (wordsE l) (wdE d)
 | [] => by
  show wordsE [d] = fst1 0 (wdE d)
  rw [fst1_zero]
  rfl
 | x :: r => by
  rw [List.cons_append, wordsE, wordsE, wordsE_snoc d r]
  split
  ·rfl
  rfl
theorem fst1_fst1 (a b c : Int) : fst1 a (fst1 b c) = fst1 (fst1 a b) c := by
 unfold fst1
 repeat' split
 all_goals first | rfl | omega
theorem wordsE_ok : ∀ {l : List Dat}, wordsE l = 0 → namesF l = .ok (l.map wdS)
 | [], _ => rfl
 | d :: r, h => by
  unfold wordsE at h
  split at h
  ·rename_i hk
   rw [namesF, wordsE_ok h]
   simp [nameF, wdS, hk, Er.bind]
  omega
theorem wordsE_no : ∀ {l : List Dat}, wordsE l ≠ 0 → namesF l = .no 2 ∧ wordsE l = 2
 | [], h => absurd rfl h
 | d :: r, h => by
  unfold wordsE at h ⊢
  rw [namesF]
  split at h
  ·rename_i hk
   obtain ⟨h1, h2⟩ := wordsE_no h
   rw [h1, if_pos hk]
   exact ⟨by simp [nameF, hk, Er.bind], h2⟩
  rename_i hk
  rw [if_neg hk]
  exact ⟨by simp [nameF, hk, Er.bind], rfl⟩
theorem words_any (rb f : Nat) (e : Int) (ds : List Dat) (a : Option Addr) (cap : Nat) (w : World) (h : E7 rb e w) (hd : DW rb w f a ds) (hn : ds.length ≤ 100000) (hc : ds.length ≤ cap) :
 Calls Tryz.prog 58 #[.pointer (some ⟨rb, 0, none⟩), .slice a ds.length cap] w fun en w' => ∃ v, en = .returned v ∧ StrR w.heap.size (ds.map wdS) v w' ∧ St rb (fst1 e (wordsE ds)) w w' := by
 have HD : Hid (∀ W j d x, St rb x w W → ds[j]? = some d → ∃ b o a' cap', a = some ⟨b, o, none⟩ ∧ DAt (fun k => k < W.heap.size ∧ k ≠ rb) W b (o + j * 6) d a' cap') := fun W j d x hs hj => by
  obtain ⟨g, b, o, a', cap', _, h1, h2, _⟩ := (hd.st hs).at hj
  exact ⟨b, o, a', cap', h1, h2⟩
 have HW : Hid (∀ x d a' cap' W, E7 rb x W → Calls Tryz.prog 32 #[.pointer (some ⟨rb, 0, none⟩), dv d a' cap'] W fun en w' => en = .returned (.string (wdS d)) ∧ St rb (fst1 x (wdE d)) W w') := fun x d a' cap' W hW => word_any rb x d a' cap' W hW
 have HL : Hid (∀ j, j < ds.length → ∃ d, ds[j]? = some d ∧ ds.take (j + 1) = ds.take j ++ [d]) := fun j hj => ⟨_, List.getElem?_eq_getElem hj, by rw [List.take_succ_eq_append_getElem hj]⟩
 have HE := hidd h
 obtain ⟨i0, hinf, hz0, hz1, hz2⟩ := info_partsL infoStr
 obtain ⟨n, hn'⟩ : ∃ n, n = ds.length := ⟨_, rfl⟩
 have HN := hidd hn'
 rw [← hn'] at hn hc HL ⊢
 have H0 : Hid (St rb (fst1 e (wordsE (ds.take 0))) w w) := by
  show St _ _ _ _
  rw [List.take_zero, show wordsE [] = 0 from rfl, fst1_none]
  exact St.refl h
 clear hd hn' h
 go_enter Tryz.func58, Tryz.ntmps58
 go_wp2_with fail
 go_loopw [5, 7, 10] (fun v _ ix wr => ∃ (j : Nat) (l : List ByteArray), j ≤ n ∧ ix = .int .i64 j ∧ Hid (l.length = j) ∧ Hid (St rb (fst1 e (wordsE (ds.take j))) w wr ∧ StrR w.heap.size l v wr ∧ l = (ds.take j).map wdS)) (fun _ _ ix _ => n - (intOf ix).toNat)
 case atStart => exact ⟨0, [], Nat.zero_le _, rfl, rfl, H0.out, World.ownsRow_nil _ _ _ _, rfl⟩
 obtain ⟨j, l, hj, rfl, HJ, HR⟩ := hrel
 obtain ⟨va, vc, rfl, hvc⟩ := own_sliceL HR.out.2.1
 have hl : l.length ≤ 100000 := by have := HJ.out; omega
 by_cases hlt : j < n
 ·obtain ⟨d, hdj, htk⟩ := HL.out j hlt
  obtain ⟨b, o, a', cap', rfl, hbo, c0, c1, c2, c3, c4, c5, _, _⟩ := HD.out wr j d _ HR.out.1 hdj
  have HT := hidd htk
  have i1 : (0 : Int) ≤ (j : Int) := by omega
  have i2 : (j : Int) < (n : Int) := by omega
  have HB1 : Hid (Below wr.heap.size wr (wr.alloc (.cells #[.int .i64 d.kind, .int .i64 d.n, .string d.name, .int .i64 d.stamp, .int .i64 d.lib, .slice a' d.kids.length cap'] 26))) := (Below.refl _ _).alloc (Nat.le_refl _) _
  have E1 : Hid (E7 rb (fst1 e (wordsE (ds.take j))) wr) := HE.out.st HR.out.1
  have NM := hidd (HW.out (fst1 e (wordsE (ds.take j))) d a' cap' _ (E1.out.below HB1.out))
  clear htk hdj
  unfold dv at NM
  generalize d.kids.length = kn at *
  go_wp2_with fail
  refine NM.out.mono ?_
  rintro en w2 ⟨rfl, hs2⟩
  have S2 : Hid (St rb (fst1 e (wordsE (ds.take (j + 1)))) w w2 ∧ St rb (fst1 e (wordsE (ds.take (j + 1)))) wr w2) := by
   have h1 := (St.of E1.out HB1.out).trans hs2
   rw [HT.out, wordsE_snoc, fst1_fst1]
   exact ⟨HR.out.1.trans h1, h1⟩
  have hw2 : w.heap.size ≤ w2.heap.size := S2.out.1.size
  have HO2 : Hid ((w2.alloc (.cells #[.string (wdS d)] 9)).ownsRow w.heap.size 9 1 (.slice va l.length vc) l.length (l.map Value.string)) := by
   have hk := own_keepL HR.out.2.1 (w' := w2) (fun g hg => S2.out.2.far (own_typeL HR.out.2.1 g hg).2.1 (by have := (own_typeL HR.out.2.1 g hg).1; have := HE.out.lt; omega))
   exact hk.alloc _
  clear hs2 NM
  go_wp2_with (at_builtin; refine wpList_append_lies _ rfl _ _ 23 rfl w.heap.size 9 i0 _ 1 16 Tryz.underlying23 hinf hz0 hz1 hz2 rfl (by decide) (.slice va l.length vc) l.length (l.map Value.string) rfl (by exact HO2.out) ⟨w2.heap.size, 0, none⟩ 1 1 [.string (wdS d)] rfl rfl (by exact one_newsS w2 _ 9) (by intro u hu; simp at hu; subst hu; rfl) (by decide) (by unfold maxLen; omega) (by omega) (by simp; omega) (w2.heap.size + 1) (by simp) ?_; intro g cp w4 hown hgrow hat hlt4; have HX : Hid (St rb (fst1 e (wordsE (ds.take (j + 1)))) w w4 ∧ StrR w.heap.size (l ++ [wdS d]) (.slice (some ⟨g, 0, none⟩) (l.length + 1) cp) w4) := ⟨Below.trans S2.out.1 (((Below.refl _ _).alloc hw2 _).trans (grown_below hgrow (by simp; omega) (fun q hq => (own_typeL HO2.out q hq).1))), by simpa [StrR] using hown⟩; clear hown hgrow hat hlt4)
  go_roundw
  case rel => exact ⟨j + 1, l ++ [wdS d], hlt, by go_num, by show _ = _; have := HJ.out; simp; omega, HX.out.1, HX.out.2, by rw [HT.out, HR.out.2.2]; simp⟩
  case measure => simp [intOf]; omega
 obtain rfl : j = n := by omega
 have HT : Hid (ds.take j = ds) := by show _ = _; rw [HN.out, List.take_length]
 go_wp2_with fail
 go_ret
 have hr := HR.out
 rw [HT.out] at hr
 exact ⟨_, rfl, by rw [← hr.2.2]; exact hr.2.1, hr.1⟩
def spL : List Dat → List UInt8
 | [] => []
 | d :: r => 32 :: (wdS d).data.toList ++ spL r
theorem spL_snoc (d : Dat) : ∀ (l : List Dat), spL (l ++ [d]) = spL l ++ (32 :: (wdS d).data.toList)
 | [] => by simp [spL]
 | x :: r => by rw [List.cons_append, spL, spL, spL_snoc d r]; simp
theorem spL_join : ∀ (l : List Dat), l ≠ [] → spL l = 32 :: joinL (l.map wdS)
 | [], h => absurd rfl h
 | [x], _ => by simp [spL, joinL]
 | x :: y :: r, _ => by
  rw [spL, spL_join (y :: r) (by simp)]
  simp [joinL]
def spB (l : List Dat) : ByteArray := ⟨(spL l).toArray⟩
theorem spB_snoc (l : List Dat) (d : Dat) : spB (l ++ [d]) = spB l ++ (⟨#[32]⟩ : ByteArray) ++ wdS d := by
 apply ba_eq
 unfold spB
 rw [spL_snoc]
 simp [ByteArray.data_append]
def erE {α : Type} : Er α → Int
 | .ok _ => 0
 | .no x => x
theorem zeroD_ok : ∀ (l : Nat), okL (List.replicate l zeroD)
 | 0 => trivial
 | l + 1 => by
  rw [List.replicate_succ, okL]
  refine ⟨?_, zeroD_ok l⟩
  unfold okD zeroD
  simp
theorem needD_ok {d : Dat} (h : okD d) (l : Nat) (hl : l = 1 ∨ l = 2 ∨ l = 3) : okL (needD d l) ∧ (needD d l).length ≤ 2000 := by
 unfold needD
 split
 ·rename_i hk
  exact ⟨(okD_list h hk.1).2, (okD_list h hk.1).1⟩
 exact ⟨zeroD_ok l, by simp; omega⟩
theorem wdS_ok {d : Dat} (h : okD d) : (wdS d).size ≤ 20 := by
 unfold wdS
 split
 ·exact (okD_sym h ‹_›).1
 exact Nat.zero_le _
theorem name_end (d : Dat) (ds : List Dat) (t : ByteArray) (hds : ds = needD d 1) (ho : okD d) (ht : t = spB ds) : 0 < t.size ∧ (∀ n, calledF d = .ok n → t.extract 1 t.size = n) ∧ fst1 (fst1 (needE d 1) (wordsE ds)) (if 61 < t.size then 4 else 0) = erE (calledF d) := by
 have hne : ds ≠ [] := by
  rw [hds]
  unfold needD
  split
  ·rename_i h
   intro e
   rw [e] at h
   simp at h
  simp
 have hj := spL_join ds hne
 have hs : t.size = (joinB (ds.map wdS)).size + 1 := by
  rw [ht]
  show (spL ds).toArray.size = (joinL (ds.map wdS)).toArray.size + 1
  rw [hj]
  simp
 have hx : t.extract 1 t.size = joinB (ds.map wdS) := by
  apply ba_eq
  rw [ht]
  unfold spB joinB
  rw [hj]
  simp [ByteArray.size]
 refine ⟨by omega, ?_, ?_⟩
 ·intro n hn
  rw [hx]
  unfold calledF thingsF at hn
  split at hn
  ·rename_i h
   have e : ds = d.kids := by
    rw [hds]
    unfold needD
    rw [if_pos ⟨h.1, List.length_pos_iff.2 h.2⟩]
   simp only [Er.bind] at hn
   rw [← e] at hn
   by_cases hw : wordsE ds = 0
   ·rw [wordsE_ok hw] at hn
    simp only at hn
    split at hn
    ·cases hn; rfl
    cases hn
   rw [(wordsE_no hw).1] at hn
   cases hn
  cases hn
 unfold calledF thingsF
 by_cases h : d.kind = 4 ∧ d.kids ≠ []
 ·rw [if_pos h]
  have e : ds = d.kids := by
   rw [hds]
   unfold needD
   rw [if_pos ⟨h.1, List.length_pos_iff.2 h.2⟩]
  rw [show needE d 1 = 0 from if_pos ⟨h.1, List.length_pos_iff.2 h.2⟩, fst1_zero]
  simp only [Er.bind]
  rw [← e]
  by_cases hw : wordsE ds = 0
  ·rw [wordsE_ok hw, hw, fst1_zero]
   simp only
   by_cases hz : 61 < t.size
   ·rw [if_pos hz, if_neg (by omega)]; rfl
   rw [if_neg hz, if_pos (by omega)]; rfl
  rw [(wordsE_no hw).1, fst1_no hw, (wordsE_no hw).2]
  rfl
 rw [if_neg h]
 have : needE d 1 = 2 := if_neg fun hh => h ⟨hh.1, List.length_pos_iff.1 hh.2⟩
 rw [this]
 rfl
set_option maxRecDepth 100000 in
set_option maxHeartbeats 6400000 in
theorem Name_any (rb f : Nat) (e : Int) (d : Dat) (a : Option Addr) (cap : Nat) (w : World) (h : E7 rb e w) (hd : DW rb w f a d.kids) (hc : d.kids.length ≤ cap) (ho : okD d) :
 Calls Tryz.prog 34 #[.pointer (some ⟨rb, 0, none⟩), dv d a cap] w fun en w' => ∃ s, en = .returned (.string s) ∧ St rb (fst1 e (erE (calledF d))) w w' ∧ ∀ n, calledF d = .ok n → s = n := by
 have hb := (Below.refl w.heap.size w).alloc (Nat.le_refl _) (.cells #[.int .i64 d.kind, .int .i64 d.n, .string d.name, .int .i64 d.stamp, .int .i64 d.lib, .slice a d.kids.length cap] 26)
 have HNE := hidd (need_any rb f e d a cap _ 1 (h.below hb) (Or.inl rfl) (hd.below hb) hc)
 have HB := hidd hb
 unfold dv at HNE
 have HE := hidd h
 unfold dv
 generalize d.kids.length = kn at *
 clear hb
 go_enter Tryz.func34, Tryz.ntmps34
 go_wp2_with fail
 refine HNE.out.mono ?_
 rintro en w2 ⟨a2, c2, f2, rfl, hc2, hd2, hs2⟩
 obtain ⟨ds, hds⟩ : ∃ ds, ds = needD d 1 := ⟨_, rfl⟩
 rw [← hds] at hc2 hd2 ⊢
 have HX := hidd (⟨hd2, hs2, hds⟩ : DW rb w2 f2 a2 ds ∧ St rb (fst1 e (needE d 1)) _ w2 ∧ ds = needD d 1)
 have hok : okL ds ∧ ds.length ≤ 2000 := by rw [hds]; exact needD_ok ho 1 (Or.inl rfl)
 have HL : Hid (∀ j, j < ds.length → ∃ x, ds[j]? = some x ∧ ds.take (j + 1) = ds.take j ++ [x] ∧ (wdS x).size ≤ 20) := fun j hj => ⟨_, List.getElem?_eq_getElem hj, by rw [List.take_succ_eq_append_getElem hj], wdS_ok (okL_mem hok.1 _ (List.getElem_mem hj))⟩
 have hn := hok.2
 obtain ⟨n, hn'⟩ : ∃ n, n = ds.length := ⟨_, rfl⟩
 have HN := hidd hn'
 rw [← hn'] at hc2 HL hn ⊢
 clear HNE hd2 hs2 hds hok hn' h hd
 go_wp2_with fail
 go_loopw [5, 7, 12] (fun s _ ix wr => ∃ (j : Nat) (t : ByteArray), j ≤ n ∧ ix = .int .i64 j ∧ s = .string t ∧ t.size ≤ 21 * j ∧ Hid (St rb (fst1 e (fst1 (needE d 1) (wordsE (ds.take j)))) w wr ∧ DW rb wr f2 a2 ds ∧ t = spB (ds.take j))) (fun _ _ ix _ => n - (intOf ix).toNat)
 case atStart => exact ⟨0, ⟨#[]⟩, Nat.zero_le _, rfl, rfl, Nat.zero_le _, by rw [List.take_zero, show wordsE [] = 0 from rfl, fst1_none]; exact (St.of HE.out HB.out).trans HX.out.2.1, HX.out.1, rfl⟩
 obtain ⟨j, t, hj, rfl, rfl, hts, HR⟩ := hrel
 by_cases hlt : j < n
 ·obtain ⟨x, hxj, htk, hxo⟩ := HL.out j hlt
  obtain ⟨g, b, o, xa, xc, _, rfl, hA, _⟩ := HR.out.2.1.at hxj
  obtain ⟨hbo, c0, c1, c2', c3, c4, c5, _, _⟩ := hA
  have HT := hidd htk
  have i1 : (0 : Int) ≤ (j : Int) := by omega
  have i2 : (j : Int) < (n : Int) := by omega
  have HB1 : Hid (Below wr.heap.size wr (wr.alloc (.cells #[.int .i64 x.kind, .int .i64 x.n, .string x.name, .int .i64 x.stamp, .int .i64 x.lib, .slice xa x.kids.length xc] 26))) := (Below.refl _ _).alloc (Nat.le_refl _) _
  obtain ⟨q, hq⟩ : ∃ q, q = fst1 e (fst1 (needE d 1) (wordsE (ds.take j))) := ⟨_, rfl⟩
  have E1 : Hid (E7 rb q wr) := by rw [hq]; exact HE.out.st HR.out.1
  have NM := hidd (word_any rb q x xa xc _ (E1.out.below HB1.out))
  have HQ : Hid (fst1 q (wdE x) = fst1 e (fst1 (needE d 1) (wordsE (ds.take (j + 1))))) := by show _ = _; rw [hq, htk, wordsE_snoc, ← fst1_fst1, ← fst1_fst1]
  clear htk hxj hq
  unfold dv at NM
  generalize x.kids.length = xn at *
  go_wp2_with fail
  refine NM.out.mono ?_
  rintro en w3 ⟨rfl, hs3⟩
  have S3 := hidd ((St.of E1.out HB1.out).trans hs3)
  have hws : (wdS x).size ≤ 20 := hxo
  clear hs3 NM
  go_wp2_with fail
  go_roundw
  case rel =>
   refine ⟨j + 1, t ++ ⟨#[32]⟩ ++ wdS x, hlt, by go_num, rfl, by simp [ByteArray.size_append]; have : (⟨#[32]⟩ : ByteArray).size = 1 := rfl; omega, ?_, HR.out.2.1.st S3.out, ?_⟩
   ·have := HR.out.1.trans S3.out
    rw [HQ.out] at this
    exact this
   rw [HT.out, spB_snoc, ← HR.out.2.2]
  case measure => simp [intOf]; omega
 obtain rfl : j = n := by omega
 have HT : Hid (ds.take j = ds) := by show _ = _; rw [HN.out, List.take_length]
 obtain ⟨q, hq⟩ : ∃ q, q = fst1 e (fst1 (needE d 1) (wordsE ds)) := ⟨_, rfl⟩
 have hr := HR.out
 rw [HT.out, ← hq] at hr
 have EW := hidd (HE.out.st hr.1)
 have FIN := hidd (name_end d ds t HX.out.2.2 ho hr.2.2)
 have hpos := FIN.out.1
 have HRR := hidd hr.1
 have HQ := hidd hq
 clear hr hq HR HT HX HL
 by_cases hbig : 61 < t.size
 ·have k1 : decide ((61 : Int) < (t.size : Int)) = true := by simp; omega
  have k2 : (61 : Int) < (t.size : Int) := by omega
  have HS := hidd (stop_any rb q 4 wr EW.out)
  have HBG := hidd hbig
  clear hbig
  go_wp2_with fail
  refine HS.out.mono ?_
  rintro en w3 ⟨rfl, hs3⟩
  have S3 := hidd hs3
  clear hs3
  go_wp2_with fail
  go_ret
  refine ⟨_, rfl, ?_, ?_⟩
  ·have := HRR.out.trans S3.out
   rw [HQ.out, ← fst1_fst1, show (4 : Int) = (if 61 < t.size then 4 else 0) from (if_pos HBG.out).symm, FIN.out.2.2] at this
   exact this
  exact FIN.out.2.1
 have k1 : decide ((61 : Int) < (t.size : Int)) = false := by simp; omega
 have k2 : ¬ (61 : Int) < (t.size : Int) := by omega
 have HBG := hidd hbig
 clear hbig
 go_wp2_with fail
 go_ret
 refine ⟨_, rfl, ?_, FIN.out.2.1⟩
 have := HRR.out
 have h2 := FIN.out.2.2
 rw [if_neg HBG.out, fst1_none] at h2
 rw [HQ.out, h2] at this
 exact this
end Go.Proofs.YtonafbennobgdaaGreatDoor.R3
