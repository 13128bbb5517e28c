/- How package text writes data: nodes without kids. -/
import Derived.Test.YtagpcafbeplccaaDoorFc
import Derived.Test.YtagpcafbeplccaaDoorBb
import Derived.Deep.RegionWith
namespace Go.Proofs.YtagpcafbeplccaaDoor
set_option linter.unusedVariables false
set_option linter.unusedSimpArgs false
open Go.RowKit

/-- What a call that writes leaves. -/
def Wrote (B b : Nat) (l : List UInt8) (w w' : World) : Prop := Wr B b l w' ∧ Below B w w' ∧ Lib.OthersKept 5 (some b) w w'

theorem Wr.alloc {B b : Nat} {l : List UInt8} {w : World} (h : Wr B b l w) (o : Obj) : Wr B b l (w.alloc o) := by
  rcases h with h | h
  · exact Or.inl (h.alloc o)
  · exact Or.inr (h.alloc o)
theorem Wr.drew {B b : Nat} {l : List UInt8} {w : World} (h : Wr B b l w) : Wr B b l w.drew := by
  rcases h with h | h
  · exact Or.inl h.drew
  · exact Or.inr h.drew
theorem Wr.lt {B b : Nat} {l : List UInt8} {w : World} (h : Wr B b l w) : b < w.heap.size := by
  obtain ⟨p, _, h⟩ := h.at
  exact h.lt
theorem Wr.base {B b : Nat} {l : List UInt8} {w : World} (h : Wr B b l w) : B ≤ b := by
  obtain ⟨p, _, h⟩ := h.at
  exact h.1

theorem below_kept {e : TypeId} {b : Option Nat} {w w' : World} (hb : Below w.heap.size w w') : Lib.OthersKept e b w w' := by
  intro k o hk _ _
  rw [hb.block k (Array.getElem?_eq_some_iff.1 hk).1]
  exact hk

/-- Behind a call that turns nothing old. -/
theorem Wr.after {B b : Nat} {l : List UInt8} {w w' : World} (h : Wr B b l w) (hb : Below w.heap.size w w') : Wr B b l w' := by
  have aux : ∀ p, Lib.BuilderAtF 55 5 B b p (Lib.byteCells l) w → Lib.BuilderAtF 55 5 B b p (Lib.byteCells l) w' := by
    rintro p ⟨hB, v, hbk, hown, hne⟩
    refine ⟨hB, v, by rw [hb.block b (Array.getElem?_eq_some_iff.1 hbk).1]; exact hbk, ?_, hne⟩
    exact hown.kept (row := none) ⟨hb.os, hb.tape, hb.output, hb.size, fun k hk _ => hb.block k hk⟩ (by cases hv : v.ownBlock <;> simp)
  rcases h with h | h
  · exact Or.inl (aux _ h)
  · exact Or.inr (aux _ h)

theorem Wrote.then {B b : Nat} {l : List UInt8} {w w1 w2 : World} (h1 : Below B w w1) (h2 : Lib.OthersKept 5 (some b) w w1) (h : Wrote B b l w1 w2) : Wrote B b l w w2 :=
  ⟨h.1, h1.trans h.2.1, h2.trans h.2.2⟩

set_option maxHeartbeats 800000 in
theorem truth_any (B b : Nat) (l : List UInt8) (x : Bool) (w : World) (h : Wr B b l w) (hB : B ≤ w.heap.size) (hlen : l.length ≤ 1000000) :
    Calls Tryd.prog 49 #[.pointer (some ⟨b, 0, none⟩), .bool x] w fun e w' => e = .returned (.tuple #[]) ∧ Wrote B b (l ++ (if x then [35, 116] else [35, 102])) w w' := by
  have HW : Hid (Wr B b l w) := h
  clear h
  cases x
  · go_enter Tryd.func49, Tryd.ntmps49
    go_wp2_with fail
    refine (WriteString_any B b l ⟨#[35, 102]⟩ w HW.out (by simp [ByteArray.size]; omega) hB).mono ?_
    rintro e w1 ⟨rfl, h1⟩
    have H1 : Hid _ := h1
    clear h1
    go_wp2_with fail
    go_end0
    exact ⟨rfl, H1.out⟩
  · go_enter Tryd.func49, Tryd.ntmps49
    go_wp2_with fail
    refine (WriteString_any B b l ⟨#[35, 116]⟩ w HW.out (by simp [ByteArray.size]; omega) hB).mono ?_
    rintro e w1 ⟨rfl, h1⟩
    have H1 : Hid _ := h1
    clear h1
    go_wp2_with fail
    go_end0
    exact ⟨rfl, H1.out⟩

set_option maxRecDepth 100000 in
set_option maxHeartbeats 1600000 in
theorem wdatum_sym (B b f : Nat) (l : List UInt8) (d : Dat) (a : Option Addr) (cap : Nat) (w : World) (h : Wr B b l w) (hB : B ≤ w.heap.size) (hlen : l.length ≤ 1000000) (h0 : alone d = 0) (hk : d.kind = 3) :
    Calls Tryd.prog 29 #[.pointer (some ⟨b, 0, none⟩), dv d a cap] w fun e w' => e = .returned (.tuple #[]) ∧ Wrote B b (l ++ txt (f + 1) d) w w' := by
  rw [txt_sym hk]
  have hn := named_size (alone_name h0 hk)
  have HW : Hid (Wr B b l w) := h
  clear h h0
  obtain ⟨k, n', nm, st, lb, ks⟩ := d
  unfold dv
  simp only at hk hn ⊢
  subst hk
  go_enter Tryd.func29, Tryd.ntmps29
  go_wp2_with fail
  go_region_with (go_at_call 47; refine (WriteString_any B b l nm _ (by exact (HW.out.alloc _).drew) (by omega) (by simp; omega)).mono ?_; rintro e w1 ⟨rfl, h1⟩)
  all_goals
    go_wp2_with fail
    go_end0
    exact ⟨rfl, Wrote.then ((Below.refl _ _).alloc hB _).drew (((Lib.OthersKept.refl _ _ _).alloc _).drew) h1⟩

set_option maxRecDepth 100000 in
set_option maxHeartbeats 1600000 in
theorem wdatum_num (B b f : Nat) (l : List UInt8) (d : Dat) (a : Option Addr) (cap : Nat) (w : World) (h : Wr B b l w) (hB : B ≤ w.heap.size) (hlen : l.length ≤ 1000000) (h0 : alone d = 0) (hk : d.kind = 1) (ht : Tab B w) :
    Calls Tryd.prog 29 #[.pointer (some ⟨b, 0, none⟩), dv d a cap] w fun e w' => e = .returned (.tuple #[]) ∧ Wrote B b (l ++ txt (f + 1) d) w w' := by
  rw [txt_num hk]
  have hr := alone_range h0 hk
  have hil := Lib.itoa_length_le d.n (by omega) (by omega)
  have FI : Hid (∀ w, Tab B w → Calls Tryd.prog 48 #[.int .i64 d.n, .int .i64 10] w fun e w' => e = .returned (.string ⟨(Lib.itoa d.n).toArray⟩) ∧ Below w.heap.size w w') := fun w ht => FormatInt_any B d.n (by omega) (by omega) w ht
  obtain ⟨T, HT⟩ : ∃ T : ByteArray, Hid (T = ⟨(Lib.itoa d.n).toArray⟩) := ⟨_, rfl⟩
  rw [← HT.out] at FI
  have HE : Hid (Lib.itoa d.n = T.data.toList) := by rw [HT.out]; rfl
  have hTz : T.size ≤ 21 := by
    rw [← size_list, ← HE.out]; exact hil
  rw [HE.out]
  have HW : Hid (Wr B b l w ∧ Tab B w) := ⟨h, ht⟩
  clear h h0 hr hil ht HE HT
  obtain ⟨k, n', nm, st, lb, ks⟩ := d
  unfold dv
  simp only at hk FI
  subst hk
  go_enter Tryd.func29, Tryd.ntmps29
  go_wp2_with fail
  go_region_with (first
    | (go_at_call 48; refine (FI.out _ (by exact HW.out.2.below ((Below.refl _ _).alloc hB _).drew)).mono ?_; rintro e w1 ⟨rfl, hb1⟩; have H1 : Hid (Below ((w.alloc (Obj.cells #[Value.int IntKind.i64 1, Value.int IntKind.i64 n', Value.string nm, Value.int IntKind.i64 st, Value.int IntKind.i64 lb, Value.slice a ks.length cap] 46)).drew).heap.size ((w.alloc (Obj.cells #[Value.int IntKind.i64 1, Value.int IntKind.i64 n', Value.string nm, Value.int IntKind.i64 st, Value.int IntKind.i64 lb, Value.slice a ks.length cap] 46)).drew) w1) := hb1; have hsz := hb1.size; clear hb1)
    | (go_at_call 47; refine (WriteString_any B b l T _ (by exact ((HW.out.1.alloc _).drew).after H1.out) (by omega) (by simp at hsz; omega)).mono ?_; rintro e w2 ⟨rfl, h2⟩))
  all_goals
    go_wp2_with fail
    go_end0
    exact ⟨rfl, Wrote.then (((Below.refl _ _).alloc hB _).drew.trans (H1.out.mono (by simp; omega))) ((((Lib.OthersKept.refl _ _ _).alloc _).drew).trans (below_kept H1.out)) h2⟩

set_option maxRecDepth 100000 in
set_option maxHeartbeats 1600000 in
theorem wdatum_bool (B b f : Nat) (l : List UInt8) (d : Dat) (a : Option Addr) (cap : Nat) (w : World) (h : Wr B b l w) (hB : B ≤ w.heap.size) (hlen : l.length ≤ 1000000) (hk : d.kind = 2) :
    Calls Tryd.prog 29 #[.pointer (some ⟨b, 0, none⟩), dv d a cap] w fun e w' => e = .returned (.tuple #[]) ∧ Wrote B b (l ++ txt (f + 1) d) w w' := by
  rw [txt_bool hk]
  have HW : Hid (Wr B b l w) := h
  clear h
  obtain ⟨k, n', nm, st, lb, ks⟩ := d
  unfold dv
  simp only at hk ⊢
  subst hk
  by_cases h1 : n' = 1
  · subst h1
    go_enter Tryd.func29, Tryd.ntmps29
    go_wp2_with fail
    refine (truth_any B b l true _ (HW.out.alloc _) (by simp; omega) hlen).mono ?_
    rintro e w1 ⟨rfl, h2⟩
    have H2 : Hid _ := h2
    clear h2
    go_wp2_with fail
    go_end0
    exact ⟨rfl, Wrote.then ((Below.refl _ _).alloc hB _) ((Lib.OthersKept.refl _ _ _).alloc _) H2.out⟩
  · rw [if_neg h1]
    have h1' : (n' == 1) = false := by simpa using h1
    clear h1
    go_enter Tryd.func29, Tryd.ntmps29
    go_wp2_with fail
    refine (truth_any B b l false _ (HW.out.alloc _) (by simp; omega) hlen).mono ?_
    rintro e w1 ⟨rfl, h2⟩
    have H2 : Hid _ := h2
    clear h2
    go_wp2_with fail
    go_end0
    exact ⟨rfl, Wrote.then ((Below.refl _ _).alloc hB _) ((Lib.OthersKept.refl _ _ _).alloc _) H2.out⟩
end Go.Proofs.YtagpcafbeplccaaDoor
