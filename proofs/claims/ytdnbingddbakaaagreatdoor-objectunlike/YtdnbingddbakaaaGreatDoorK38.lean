/- How package text writes data: nodes without kids. How package text writes data: lists, any datum, Print. -/
import Derived.Deep.RegionWith
import Derived.Test.YtdnbingddbakaaaGreatDoorK26
import Derived.Test.YtdnbingddbakaaaGreatDoorK37
namespace Go.Proofs.YtdnbingddbakaaaGreatDoor
section
set_option linter.unusedVariables false
set_option linter.unusedSimpArgs false
open Go.RowKit

/-- What a call that writes leaves. -/
def Wrote (B b : Nat) (l : List UInt8) (w w' : World) : Prop := Wr B b l w' ∧ Below B w w' ∧ Lib.OthersKept 5 (some b) w w'

theorem Wr.alloc {B b : Nat} {l : List UInt8} {w : World} (h : Wr B b l w) (o : Obj) : Wr B b l (w.alloc o) := by
  rcases h with h | h
  · exact Or.inl (h.alloc o)
  · exact Or.inr (h.alloc o)
theorem Wr.drew {B b : Nat} {l : List UInt8} {w : World} (h : Wr B b l w) : Wr B b l w.drew := by
  rcases h with h | h
  · exact Or.inl h.drew
  · exact Or.inr h.drew
theorem Wr.lt {B b : Nat} {l : List UInt8} {w : World} (h : Wr B b l w) : b < w.heap.size := by
  obtain ⟨p, _, h⟩ := h.at
  exact h.lt
theorem Wr.base {B b : Nat} {l : List UInt8} {w : World} (h : Wr B b l w) : B ≤ b := by
  obtain ⟨p, _, h⟩ := h.at
  exact h.1

theorem below_kept {e : TypeId} {b : Option Nat} {w w' : World} (hb : Below w.heap.size w w') : Lib.OthersKept e b w w' := by
  intro k o hk _ _
  rw [hb.block k (Array.getElem?_eq_some_iff.1 hk).1]
  exact hk

/-- Behind a call that turns nothing old. -/
theorem Wr.after {B b : Nat} {l : List UInt8} {w w' : World} (h : Wr B b l w) (hb : Below w.heap.size w w') : Wr B b l w' := by
  have aux : ∀ p, Lib.BuilderAtF 205 5 B b p (Lib.byteCells l) w → Lib.BuilderAtF 205 5 B b p (Lib.byteCells l) w' := by
    rintro p ⟨hB, v, hbk, hown, hne⟩
    refine ⟨hB, v, by rw [hb.block b (Array.getElem?_eq_some_iff.1 hbk).1]; exact hbk, ?_, hne⟩
    exact hown.kept (row := none) ⟨hb.os, hb.tape, hb.output, hb.size, fun k hk _ => hb.block k hk⟩ (by cases hv : v.ownBlock <;> simp)
  rcases h with h | h
  · exact Or.inl (aux _ h)
  · exact Or.inr (aux _ h)

theorem Wrote.then {B b : Nat} {l : List UInt8} {w w1 w2 : World} (h1 : Below B w w1) (h2 : Lib.OthersKept 5 (some b) w w1) (h : Wrote B b l w1 w2) : Wrote B b l w w2 :=
  ⟨h.1, h1.trans h.2.1, h2.trans h.2.2⟩

set_option maxHeartbeats 800000 in
theorem truth_any (B b : Nat) (l : List UInt8) (x : Bool) (w : World) (h : Wr B b l w) (hB : B ≤ w.heap.size) (hlen : l.length ≤ 1000000) :
    Calls Tryz.prog 156 #[.pointer (some ⟨b, 0, none⟩), .bool x] w fun e w' => e = .returned (.tuple #[]) ∧ Wrote B b (l ++ (if x then [35, 116] else [35, 102])) w w' := by
  have HW : Hid (Wr B b l w) := h
  clear h
  cases x
  · go_enter Tryz.func156, Tryz.ntmps156
    go_wp2_with fail
    refine (WriteString_any B b l ⟨#[35, 102]⟩ w HW.out (by simp [ByteArray.size]; omega) hB).mono ?_
    rintro e w1 ⟨rfl, h1⟩
    have H1 : Hid _ := h1
    clear h1
    go_wp2_with fail
    go_end0
    exact ⟨rfl, H1.out⟩
  · go_enter Tryz.func156, Tryz.ntmps156
    go_wp2_with fail
    refine (WriteString_any B b l ⟨#[35, 116]⟩ w HW.out (by simp [ByteArray.size]; omega) hB).mono ?_
    rintro e w1 ⟨rfl, h1⟩
    have H1 : Hid _ := h1
    clear h1
    go_wp2_with fail
    go_end0
    exact ⟨rfl, H1.out⟩

set_option maxRecDepth 100000 in
set_option maxHeartbeats 1600000 in
theorem wdatum_sym (B b f : Nat) (l : List UInt8) (d : Dat) (a : Option Addr) (cap : Nat) (w : World) (h : Wr B b l w) (hB : B ≤ w.heap.size) (hlen : l.length ≤ 1000000) (h0 : alone d = 0) (hk : d.kind = 3) :
    Calls Tryz.prog 136 #[.pointer (some ⟨b, 0, none⟩), dv d a cap] w fun e w' => e = .returned (.tuple #[]) ∧ Wrote B b (l ++ txt (f + 1) d) w w' := by
  rw [txt_sym hk]
  have hn := named_size (alone_name h0 hk)
  have HW : Hid (Wr B b l w) := h
  clear h h0
  obtain ⟨k, n', nm, st, lb, ks⟩ := d
  unfold dv
  simp only at hk hn ⊢
  subst hk
  go_enter Tryz.func136, Tryz.ntmps136
  go_wp2_with fail
  go_region_with (go_at_call 155; refine (WriteString_any B b l nm _ (by exact (HW.out.alloc _).drew) (by omega) (by simp; omega)).mono ?_; rintro e w1 ⟨rfl, h1⟩)
  all_goals
    go_wp2_with fail
    go_end0
    exact ⟨rfl, Wrote.then ((Below.refl _ _).alloc hB _).drew (((Lib.OthersKept.refl _ _ _).alloc _).drew) h1⟩

set_option maxRecDepth 100000 in
set_option maxHeartbeats 1600000 in
theorem wdatum_num (B b f : Nat) (l : List UInt8) (d : Dat) (a : Option Addr) (cap : Nat) (w : World) (h : Wr B b l w) (hB : B ≤ w.heap.size) (hlen : l.length ≤ 1000000) (h0 : alone d = 0) (hk : d.kind = 1) (ht : Tab B w) :
    Calls Tryz.prog 136 #[.pointer (some ⟨b, 0, none⟩), dv d a cap] w fun e w' => e = .returned (.tuple #[]) ∧ Wrote B b (l ++ txt (f + 1) d) w w' := by
  rw [txt_num hk]
  have hr := alone_range h0 hk
  have hil := Lib.itoa_length_le d.n (by omega) (by omega)
  have FI : Hid (∀ w, Tab B w → Calls Tryz.prog 90 #[.int .i64 d.n, .int .i64 10] w fun e w' => e = .returned (.string ⟨(Lib.itoa d.n).toArray⟩) ∧ Below w.heap.size w w') := fun w ht => FormatInt_any B d.n (by omega) (by omega) w ht
  obtain ⟨T, HT⟩ : ∃ T : ByteArray, Hid (T = ⟨(Lib.itoa d.n).toArray⟩) := ⟨_, rfl⟩
  rw [← HT.out] at FI
  have HE : Hid (Lib.itoa d.n = T.data.toList) := by rw [HT.out]; rfl
  have hTz : T.size ≤ 21 := by
    rw [← size_list, ← HE.out]; exact hil
  rw [HE.out]
  have HW : Hid (Wr B b l w ∧ Tab B w) := ⟨h, ht⟩
  clear h h0 hr hil ht HE HT
  obtain ⟨k, n', nm, st, lb, ks⟩ := d
  unfold dv
  simp only at hk FI
  subst hk
  go_enter Tryz.func136, Tryz.ntmps136
  go_wp2_with fail
  go_region_with (first
    | (go_at_call 90; refine (FI.out _ (by exact HW.out.2.below ((Below.refl _ _).alloc hB _).drew)).mono ?_; rintro e w1 ⟨rfl, hb1⟩; have H1 : Hid (Below ((w.alloc (Obj.cells #[Value.int IntKind.i64 1, Value.int IntKind.i64 n', Value.string nm, Value.int IntKind.i64 st, Value.int IntKind.i64 lb, Value.slice a ks.length cap] 50)).drew).heap.size ((w.alloc (Obj.cells #[Value.int IntKind.i64 1, Value.int IntKind.i64 n', Value.string nm, Value.int IntKind.i64 st, Value.int IntKind.i64 lb, Value.slice a ks.length cap] 50)).drew) w1) := hb1; have hsz := hb1.size; clear hb1)
    | (go_at_call 155; refine (WriteString_any B b l T _ (by exact ((HW.out.1.alloc _).drew).after H1.out) (by omega) (by simp at hsz; omega)).mono ?_; rintro e w2 ⟨rfl, h2⟩))
  all_goals
    go_wp2_with fail
    go_end0
    exact ⟨rfl, Wrote.then (((Below.refl _ _).alloc hB _).drew.trans (H1.out.mono (by simp; omega))) ((((Lib.OthersKept.refl _ _ _).alloc _).drew).trans (below_kept H1.out)) h2⟩

set_option maxRecDepth 100000 in
set_option maxHeartbeats 1600000 in
theorem wdatum_bool (B b f : Nat) (l : List UInt8) (d : Dat) (a : Option Addr) (cap : Nat) (w : World) (h : Wr B b l w) (hB : B ≤ w.heap.size) (hlen : l.length ≤ 1000000) (hk : d.kind = 2) :
    Calls Tryz.prog 136 #[.pointer (some ⟨b, 0, none⟩), dv d a cap] w fun e w' => e = .returned (.tuple #[]) ∧ Wrote B b (l ++ txt (f + 1) d) w w' := by
  rw [txt_bool hk]
  have HW : Hid (Wr B b l w) := h
  clear h
  obtain ⟨k, n', nm, st, lb, ks⟩ := d
  unfold dv
  simp only at hk ⊢
  subst hk
  by_cases h1 : n' = 1
  · subst h1
    go_enter Tryz.func136, Tryz.ntmps136
    go_wp2_with fail
    refine (truth_any B b l true _ (HW.out.alloc _) (by simp; omega) hlen).mono ?_
    rintro e w1 ⟨rfl, h2⟩
    have H2 : Hid _ := h2
    clear h2
    go_wp2_with fail
    go_end0
    exact ⟨rfl, Wrote.then ((Below.refl _ _).alloc hB _) ((Lib.OthersKept.refl _ _ _).alloc _) H2.out⟩
  · rw [if_neg h1]
    have h1' : (n' == 1) = false := by simpa using h1
    clear h1
    go_enter Tryz.func136, Tryz.ntmps136
    go_wp2_with fail
    refine (truth_any B b l false _ (HW.out.alloc _) (by simp; omega) hlen).mono ?_
    rintro e w1 ⟨rfl, h2⟩
    have H2 : Hid _ := h2
    clear h2
    go_wp2_with fail
    go_end0
    exact ⟨rfl, Wrote.then ((Below.refl _ _).alloc hB _) ((Lib.OthersKept.refl _ _ _).alloc _) H2.out⟩
end
section
set_option linter.unusedVariables false
set_option linter.unusedSimpArgs false
open Go.RowKit

theorem kept_box {b : Nat} {w w2 : World} {A : Array Value} (h : Lib.OthersKept 5 (some b) (w.alloc (.cells A 50)) w2) (hb : b < w.heap.size) (j : Nat) : w2.cell? ⟨w.heap.size, j, none⟩ = A[j]? := by
  have h1 : (w.alloc (.cells A 50)).heap[w.heap.size]? = some (.cells A 50 (0, 0)) := by
    show (w.heap.push _)[w.heap.size]? = _
    simp
  have h2 := h w.heap.size _ h1 (by simp; omega) (by intro c fz e; simp at e)
  rw [Lib.cell_of_heap h2]

theorem drop_snoc (s : List UInt8) (t : List UInt8) (h : s ≠ []) : (s ++ 32 :: t).drop 1 = s.drop 1 ++ [32] ++ t := by
  cases s with
  | nil => exact absurd rfl h
  | cons c r => simp

theorem spaced_zero (f : Nat) (ks : List Dat) : spaced f (ks.take 0) = [] := by simp [spaced]

theorem spaced_ne (f : Nat) (ks : List Dat) (j : Nat) (h : 0 < j) (h2 : j ≤ ks.length) : spaced f (ks.take j) ≠ [] := by
  intro e
  have := spaced_nil e
  have h3 := congrArg List.length this
  rw [List.length_take] at h3
  simp at h3
  rcases h3 with h3 | h3
  · omega
  · rw [h3] at h2; simp at h2; omega

set_option maxRecDepth 100000 in
set_option maxHeartbeats 1600000 in
theorem wlist_any (B b f g : Nat) (l : List UInt8) (ks : List Dat) (a : Option Addr) (cap : Nat) (w : World) (h : Wr B b l w) (hB : B ≤ w.heap.size) (hl : Lies B w g a ks) (ht : Tab B w)
    (hlen : l.length + (spaced f ks).length + 1 ≤ 900000) (hok : ∀ k, k ∈ ks → ∃ m, m ≤ 2000 ∧ (chk f k m).1 = 0)
    (ih : ∀ (g : Nat) (l : List UInt8) (d : Dat) (a : Option Addr) (cap : Nat) (w : World), Wr B b l w → B ≤ w.heap.size → Lies B w g a d.kids → Tab B w → l.length + (txt f d).length ≤ 900000 → (∃ m, m ≤ 2000 ∧ (chk f d m).1 = 0) →
      Calls Tryz.prog 136 #[.pointer (some ⟨b, 0, none⟩), dv d a cap] w fun e w' => e = .returned (.tuple #[]) ∧ Wrote B b (l ++ txt f d) w w') :
    Calls Tryz.prog 157 #[.pointer (some ⟨b, 0, none⟩), .slice a ks.length cap] w fun e w' => e = .returned (.tuple #[]) ∧ Wrote B b (l ++ 40 :: ((spaced f ks).drop 1 ++ [41])) w w' := by
  have hn := hl.len
  have HW : Hid (Wr B b l w) := h
  have HL : Hid (Lies B w g a ks ∧ Tab B w) := ⟨hl, ht⟩
  have HO : Hid (∀ k, k ∈ ks → ∃ m, m ≤ 2000 ∧ (chk f k m).1 = 0) := hok
  have HLEN : Hid (l.length + (spaced f ks).length + 1 ≤ 900000) := hlen
  have IH : Hid (∀ (g : Nat) (l : List UInt8) (d : Dat) (a : Option Addr) (cap : Nat) (w : World), Wr B b l w → B ≤ w.heap.size → Lies B w g a d.kids → Tab B w → l.length + (txt f d).length ≤ 900000 → (∃ m, m ≤ 2000 ∧ (chk f d m).1 = 0) →
      Calls Tryz.prog 136 #[.pointer (some ⟨b, 0, none⟩), dv d a cap] w fun e w' => e = .returned (.tuple #[]) ∧ Wrote B b (l ++ txt f d) w w') := ih
  clear h hl ht hok ih hlen
  go_enter Tryz.func157, Tryz.ntmps157
  go_wp2_with fail
  refine (WriteByte_any B b l 40 w HW.out (by have := HLEN.out; omega) hB).mono ?_
  rintro e w1 ⟨rfl, h1⟩
  have H1 : Hid (Wr B b (l ++ [40]) w1 ∧ Below B w w1 ∧ Lib.OthersKept 5 (some b) w w1) := h1
  clear h1 HW
  go_wp2_with fail
  go_loopw [12] (fun i wr => ∃ j : Nat, j ≤ ks.length ∧ i = .int .i64 j ∧ Wrote B b (l ++ 40 :: (spaced f (ks.take j)).drop 1) w wr) (fun i _ => ks.length - (intOf i).toNat)
  case atStart =>
    refine ⟨0, Nat.zero_le _, rfl, ?_⟩
    rw [spaced_zero]
    exact H1.out
  case round =>
    clear H1
    obtain ⟨j, hj, rfl, hwr⟩ := hrel
    have HR : Hid (Wrote B b (l ++ 40 :: (spaced f (ks.take j)).drop 1) w wr) := hwr
    have hbs := hwr.1.lt
    have hBb := hwr.1.base
    have hsz := hwr.2.1.size
    have hspl : Hid ((l ++ 40 :: (spaced f (ks.take j)).drop 1).length ≤ 900001) := by
      have h1 := spaced_take f ks j
      have h2 := HLEN.out
      show (l ++ 40 :: (spaced f (ks.take j)).drop 1).length ≤ 900001
      simp
      omega
    clear hwr
    by_cases hlt : j < ks.length
    · obtain ⟨kid, hkid⟩ : ∃ kid, ks[j]? = some kid := ⟨ks[j], List.getElem?_eq_getElem hlt⟩
      have hne : ks ≠ [] := by intro e; rw [e] at hlt; simp at hlt
      have hLr : Lies B wr g a ks := HL.out.1.below HR.out.2.1
      obtain ⟨g', bb, o, hg, ha, hbB, hall⟩ := hLr.at hne
      subst ha
      obtain ⟨a', cap', k0, k1, k2, k3, k4, k5, hkn, hkk⟩ := hall j kid hkid
      have HA : Hid (Lies B wr g' a' kid.kids ∧ Tab B wr) := ⟨hkk, HL.out.2.below HR.out.2.1⟩
      have HS : Hid (spaced f (ks.take (j + 1)) = spaced f (ks.take j) ++ 32 :: txt f kid) := spaced_snoc f ks j kid hkid
      have HT : Hid ((spaced f (ks.take j)).length + (txt f kid).length + 1 + l.length ≤ 899999) := by
        have h1 := spaced_take f ks (j + 1)
        rw [HS.out] at h1
        have h2 := HLEN.out
        show (spaced f (ks.take j)).length + (txt f kid).length + 1 + l.length ≤ 899999
        simp at h1
        omega
      have HM : Hid (∃ m, m ≤ 2000 ∧ (chk f kid m).1 = 0) := HO.out kid (List.mem_of_getElem? hkid)
      clear hkid hall hkk hLr hne hg hkn
      by_cases hj0 : 0 < j
      · have HD : Hid (l ++ 40 :: (spaced f (ks.take j)).drop 1 ++ [32] ++ txt f kid = l ++ 40 :: (spaced f (ks.take (j + 1))).drop 1) := by
          show l ++ 40 :: (spaced f (ks.take j)).drop 1 ++ [32] ++ txt f kid = l ++ 40 :: (spaced f (ks.take (j + 1))).drop 1
          rw [HS.out, drop_snoc _ _ (spaced_ne f ks j hj0 hj)]
          simp
        go_wp2_with fail
        refine (WriteByte_any B b (l ++ 40 :: (spaced f (ks.take j)).drop 1) 32 _ (HR.out.1.alloc _) (by have := hspl.out; omega) (by simp; omega)).mono ?_
        rintro e w2 ⟨rfl, h2⟩
        have c0 := kept_box h2.2.2 hbs 0
        have c1 := kept_box h2.2.2 hbs 1
        have c2 := kept_box h2.2.2 hbs 2
        have c3 := kept_box h2.2.2 hbs 3
        have c4 := kept_box h2.2.2 hbs 4
        have c5 := kept_box h2.2.2 hbs 5
        simp only [List.getElem?_toArray, List.getElem?_cons_zero, List.getElem?_cons_succ] at c0 c1 c2 c3 c4 c5
        have hs2 : wr.heap.size + 1 ≤ w2.heap.size := by have := h2.2.1.size; simpa using this
        have H2 : Hid (Wr B b (l ++ 40 :: (spaced f (ks.take j)).drop 1 ++ [32]) w2) := h2.1
        have H3 : Hid (Below B w w2 ∧ Lib.OthersKept 5 (some b) w w2 ∧ Lies B w2 g' a' kid.kids ∧ Tab B w2) := by
          have hbb : Below B wr w2 := ((Below.refl _ _).alloc (by omega) _).trans h2.2.1
          exact ⟨HR.out.2.1.trans hbb, (HR.out.2.2.alloc _).trans h2.2.2, HA.out.1.below hbb, HA.out.2.below hbb⟩
        clear h2 k0 k1 k2 k3 k4 k5 HR HA
        go_wp2_with fail
        refine (IH.out g' (l ++ 40 :: (spaced f (ks.take j)).drop 1 ++ [32]) kid a' cap' w2 H2.out (by omega) H3.out.2.2.1 H3.out.2.2.2 (by have := HT.out; simp; omega) HM.out).mono ?_
        rintro e w3 ⟨rfl, h3⟩
        have H4 : Hid (Wrote B b (l ++ 40 :: (spaced f (ks.take (j + 1))).drop 1) w w3) := by
          have := Wrote.then H3.out.1 H3.out.2.1 h3
          rw [HD.out] at this
          exact this
        clear h3 c0 c1 c2 c3 c4 c5
        go_wp2_with fail
        go_roundw
        case rel => exact ⟨j + 1, by omega, by go_num, H4.out⟩
        case measure => simp [intOf]; omega
      · obtain rfl : j = 0 := by omega
        simp only [Nat.zero_mul, Nat.add_zero] at k0 k1 k2 k3 k4 k5
        have HD : Hid (l ++ 40 :: (spaced f (ks.take 0)).drop 1 ++ txt f kid = l ++ 40 :: (spaced f (ks.take (0 + 1))).drop 1) := by
          show l ++ 40 :: (spaced f (ks.take 0)).drop 1 ++ txt f kid = l ++ 40 :: (spaced f (ks.take (0 + 1))).drop 1
          rw [HS.out, spaced_zero]
          simp
        go_wp2_with fail
        refine (IH.out g' (l ++ 40 :: (spaced f (ks.take 0)).drop 1) kid a' cap' _ (HR.out.1.alloc _) (by simp; omega) (HA.out.1.below ((Below.refl _ _).alloc (by omega) _)) (HA.out.2.below ((Below.refl _ _).alloc (by omega) _)) (by have := HT.out; rw [spaced_zero] at this ⊢; simp at this ⊢; omega) HM.out).mono ?_
        rintro e w3 ⟨rfl, h3⟩
        have H4 : Hid (Wrote B b (l ++ 40 :: (spaced f (ks.take (0 + 1))).drop 1) w w3) := by
          have := Wrote.then (HR.out.2.1.trans ((Below.refl _ _).alloc (by omega) _)) (HR.out.2.2.alloc _) h3
          rw [HD.out] at this
          exact this
        clear h3
        go_wp2_with fail
        go_roundw
        case rel => exact ⟨0 + 1, by omega, by go_num, H4.out⟩
        case measure => simp [intOf]; omega
    · obtain rfl : j = ks.length := by omega
      rw [List.take_length] at HR hspl
      clear IH HL HO
      go_wp2_with fail
      refine (WriteByte_any B b (l ++ 40 :: (spaced f ks).drop 1) 41 _ HR.out.1 (by have := hspl.out; omega) (by omega)).mono ?_
      rintro e w2 ⟨rfl, h2⟩
      have H2 : Hid (Wrote B b (l ++ 40 :: ((spaced f ks).drop 1 ++ [41])) w w2) := by
        have := Wrote.then HR.out.2.1 HR.out.2.2 h2
        rw [List.append_assoc, List.cons_append] at this
        exact this
      clear h2 HR
      go_wp2_with fail
      go_end0
      exact ⟨rfl, H2.out⟩

set_option maxRecDepth 100000 in
set_option maxHeartbeats 1600000 in
theorem wdatum_list (B b f g : Nat) (l : List UInt8) (d : Dat) (a : Option Addr) (cap : Nat) (w : World) (h : Wr B b l w) (hB : B ≤ w.heap.size) (hl : Lies B w g a d.kids) (ht : Tab B w) (hk : d.kind = 4)
    (hc : ∀ w, Wr B b l w → B ≤ w.heap.size → Lies B w g a d.kids → Tab B w → Calls Tryz.prog 157 #[.pointer (some ⟨b, 0, none⟩), .slice a d.kids.length cap] w fun e w' => e = .returned (.tuple #[]) ∧ Wrote B b (l ++ 40 :: ((spaced f d.kids).drop 1 ++ [41])) w w') :
    Calls Tryz.prog 136 #[.pointer (some ⟨b, 0, none⟩), dv d a cap] w fun e w' => e = .returned (.tuple #[]) ∧ Wrote B b (l ++ txt (f + 1) d) w w' := by
  rw [txt_list hk]
  generalize l ++ 40 :: ((spaced f d.kids).drop 1 ++ [41]) = r at hc ⊢
  have HC : Hid (∀ w, Wr B b l w → B ≤ w.heap.size → Lies B w g a d.kids → Tab B w → Calls Tryz.prog 157 #[.pointer (some ⟨b, 0, none⟩), .slice a d.kids.length cap] w fun e w' => e = .returned (.tuple #[]) ∧ Wrote B b r w w') := hc
  have HW : Hid (Wr B b l w ∧ Lies B w g a d.kids ∧ Tab B w) := ⟨h, hl, ht⟩
  clear h hl ht hc
  obtain ⟨k, n', nm, st, lb, ks⟩ := d
  unfold dv
  simp only at hk HC HW
  subst hk
  go_enter Tryz.func136, Tryz.ntmps136
  go_wp2_with fail
  refine (HC.out _ (HW.out.1.alloc _) (by simp; omega) (HW.out.2.1.below ((Below.refl _ _).alloc hB _)) (HW.out.2.2.below ((Below.refl _ _).alloc hB _))).mono ?_
  rintro e w1 ⟨rfl, h1⟩
  have H1 : Hid (Wrote B b r w w1) := Wrote.then ((Below.refl _ _).alloc hB _) ((Lib.OthersKept.refl _ _ _).alloc _) h1
  clear h1
  go_wp2_with fail
  go_end0
  exact ⟨rfl, H1.out⟩

/-- HOW PACKAGE TEXT WRITES a datum that is right. -/
theorem wdatum_any (B b : Nat) : ∀ (f g : Nat) (l : List UInt8) (d : Dat) (a : Option Addr) (cap : Nat) (w : World), Wr B b l w → B ≤ w.heap.size → Lies B w g a d.kids → Tab B w → l.length + (txt f d).length ≤ 900000 → (∃ m, m ≤ 2000 ∧ (chk f d m).1 = 0) →
    Calls Tryz.prog 136 #[.pointer (some ⟨b, 0, none⟩), dv d a cap] w fun e w' => e = .returned (.tuple #[]) ∧ Wrote B b (l ++ txt f d) w w'
  | 0, g, l, d, a, cap, w, _, _, _, _, _, h => by
    obtain ⟨m, _, h⟩ := h
    simp [chk] at h
  | f + 1, g, l, d, a, cap, w, hw, hB, hl, ht, hlen, h => by
    obtain ⟨m, hm, h⟩ := h
    obtain ⟨h1, h2, h3, _⟩ := chk_parts h
    rcases alone_kind h2 with k | k | k | k
    · exact wdatum_num B b f l d a cap w hw hB (by omega) h2 k ht
    · exact wdatum_bool B b f l d a cap w hw hB (by omega) k
    · exact wdatum_sym B b f l d a cap w hw hB (by omega) h2 k
    · refine wdatum_list B b f g l d a cap w hw hB hl ht k ?_
      intro w hw hB hl ht
      refine wlist_any B b f g l d.kids a cap w hw hB hl ht ?_ (chkL_kid (chk f) (chk_le f) d.kids (m + 1) h1 (h3 k)) (wdatum_any B b f)
      rw [txt_list k] at hlen
      simp at hlen
      omega
end
end Go.Proofs.YtdnbingddbakaaaGreatDoor
