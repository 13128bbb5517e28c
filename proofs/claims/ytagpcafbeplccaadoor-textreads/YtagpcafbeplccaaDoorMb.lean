/- What text.Read gives, for the laws; the closed fact that is asked first. -/
import Derived.Test.YtagpcafbeplccaaDoorMa
import Derived.Test.YtagpcafbeplccaaDoorLo
import Derived.Test.YtagpcafbeplccaaDoorPd
import Derived.Test.YtagpcafbeplccaaDoorGc
namespace Go.Proofs.YtagpcafbeplccaaDoor
set_option linter.unusedVariables false
set_option linter.unusedSimpArgs false
open Go.RowKit

/-- Any data are alike themselves. -/
theorem Alike.refl {B : Nat} {w : World} : ∀ (f : Nat) (a : Option Addr) (ds : List Dat), Lies B w f a ds → Alike f ds ds
  | 0, _, ds, h => ⟨h, h⟩
  | f + 1, a, ds, h => by
    refine ⟨rfl, fun i d e hd he => ?_⟩
    obtain rfl : d = e := Option.some.inj (hd.symm.trans he)
    refine ⟨rfl, fun _ => rfl, fun _ => ⟨rfl, rfl, rfl⟩, fun _ => ?_⟩
    rcases h.2 with h0 | ⟨b, o, _, _, hall⟩
    · rw [h0] at hd; simp at hd
    · obtain ⟨a', cap, _, _, _, _, _, _, _, hk⟩ := hall i d hd
      exact Alike.refl f a' d.kids hk

theorem Read_ok (s : ByteArray) (w : World) (hm : s.size ≤ maxLen) (ds : List Dat) (h : readL s.data.toList = .inr ds) :
    Calls Tryd.prog 8 #[.string s] w fun e w' => Below w.heap.size w w' ∧ ∃ a cap f, e = .returned (.tuple #[.slice a ds.length cap, .agg #[.int .i64 0, .int .i64 0]]) ∧ Lies w'.heap.size w' f a ds := by
  refine (Read_any s w hm).mono ?_
  rintro e w' ⟨hb, ho⟩
  rw [h] at ho
  obtain ⟨a, cap, f, he, hd⟩ := ho
  exact ⟨hb, a, cap, f, he, Dw.lies (fun k hk => hk.2) f a ds hd⟩

theorem Read_no (s : ByteArray) (w : World) (hm : s.size ≤ maxLen) (x : Int × Int) (h : readL s.data.toList = .inl x) :
    Calls Tryd.prog 8 #[.string s] w fun e w' => Below w.heap.size w w' ∧ e = .returned (.tuple #[.slice none 0 0, .agg #[.int .i64 x.1, .int .i64 x.2]]) := by
  refine (Read_any s w hm).mono ?_
  rintro e w' ⟨hb, ho⟩
  rw [h] at ho
  exact ⟨hb, ho⟩

def aliveD : List Dat := [datList [datSym [97], datQuote (datSym [98]), datBool 1], datNum (-7)]

theorem alive_read : readL [40, 97, 32, 39, 98, 32, 35, 116, 41, 32, 59, 32, 99, 10, 45, 55] = .inr aliveD := by rfl

theorem itoa7 : Lib.itoa (-7) = [45, 55] := by
  rw [show (-7 : Int) = -((7 : Nat) : Int) from rfl, Lib.itoa_neg 7 (by omega), Lib.decDigits_one (by omega)]
  rfl

theorem alive_printed : printed aliveD = [40, 97, 32, 40, 113, 117, 111, 116, 101, 32, 98, 41, 32, 35, 116, 41, 10, 45, 55, 10] := by
  have h : printed aliveD = [40, 97, 32, 40, 113, 117, 111, 116, 101, 32, 98, 41, 32, 35, 116, 41, 10] ++ (Lib.itoa (-7) ++ [10]) := by kernel_rfl
  rw [h, itoa7]
  rfl

theorem alive_prt : prt aliveD = (⟨#[40, 97, 32, 40, 113, 117, 111, 116, 101, 32, 98, 41, 32, 35, 116, 41, 10, 45, 55, 10]⟩, (0, 0)) := by
  rw [prt_ok (by rw [read_right alive_read]) (by rw [alive_printed]; decide), alive_printed]

set_option maxRecDepth 100000 in
set_option maxHeartbeats 1600000 in
theorem alive_any (B : Nat) (w : World) (hB : B ≤ w.heap.size) (ht : Tab B w) : Calls Tryd.prog 17 #[] w (Yes w) := by
  have RD : Hid (∀ w, Calls Tryd.prog 8 #[.string ⟨#[40, 97, 32, 39, 98, 32, 35, 116, 41, 32, 59, 32, 99, 10, 45, 55]⟩] w fun e w' => Below w.heap.size w w' ∧ ∃ a cap f, e = .returned (.tuple #[.slice a 2 cap, .agg #[.int .i64 0, .int .i64 0]]) ∧ Lies w'.heap.size w' f a aliveD) := fun w => Read_ok _ w (by show (16 : Nat) ≤ maxLen; unfold maxLen; omega) aliveD alive_read
  have PR : Hid (∀ (f : Nat) (a : Option Addr) (cap : Nat) (w' : World), Below w.heap.size w w' → Lies w'.heap.size w' f a aliveD → ∀ w'', Below w'.heap.size w' w'' → Calls Tryd.prog 13 #[.slice a 2 cap] w'' fun e w' => e = .returned (.tuple #[.string ⟨#[40, 97, 32, 40, 113, 117, 111, 116, 101, 32, 98, 41, 32, 35, 116, 41, 10, 45, 55, 10]⟩, .agg #[.int .i64 0, .int .i64 0]]) ∧ Below w''.heap.size w'' w') := by
    intro f a cap w' hb hl w'' hb2
    have := Print_any w'.heap.size f aliveD a cap w'' (hl.below hb2) hb2.size (((ht.below (hb.mono hB)).mono (Nat.le_trans hB hb.size)).below hb2)
    rw [alive_prt] at this
    exact this
  clear ht
  go_enter Tryd.func17, Tryd.ntmps17
  go_wp2_with fail
  refine (RD.out _).mono ?_
  rintro e w1 ⟨h1, a, cap, f, rfl, hl⟩
  have HB1 : Hid (Below w.heap.size w w1) := h1
  have HL : Hid (Lies w1.heap.size w1 f a aliveD) := hl
  have hz1 := h1.size
  clear h1 hl RD
  go_wp2_with fail
  refine (PR.out f a cap w1 HB1.out HL.out _ ((Below.refl _ _).alloc (Nat.le_refl _) _)).mono ?_
  rintro e w2 ⟨rfl, h2⟩
  have q0 : w2.cell? ⟨w1.heap.size, 0, none⟩ = some (.int .i64 0) := box_cell h2 rfl 0
  have hz2 : w1.heap.size + 1 ≤ w2.heap.size := by have := h2.size; simpa using this
  have HB2 : Hid (Below w.heap.size w w2) := (HB1.out.alloc hz1 _).trans (h2.mono (by simp; omega))
  clear h2 PR HB1 HL
  have q0' := Lib.cell?_alloc_marked (Obj.cells #[.int .i64 0, .int .i64 0] 25) q0
  go_wp2_with fail
  go_ret
  exact ⟨rfl, HB2.out.alloc (by omega) _⟩

end Go.Proofs.YtagpcafbeplccaaDoor
