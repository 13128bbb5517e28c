/- How the document writes data. How the document prints. -/
import Derived.Test.YtdnbingddbakaaaGreatDoorK24
import Derived.Test.YtdnbingddbakaaaGreatDoorK25
namespace Go.Proofs.YtdnbingddbakaaaGreatDoor
section
set_option linter.unusedVariables false
set_option linter.unusedSimpArgs false
open Go.RowKit

/-- The table of the powers of ten lies below B. -/
structure Tab (B : Nat) (w : World) : Prop where
  tab : Lib.TabIs Tryz.prog w Tryz.tabName .u64 Lib.pow10Tab
  low : ∃ g, Tryz.prog.globalNamed Tryz.tabName = some g ∧ g < B

theorem Tab.below {B : Nat} {w w' : World} (h : Tab B w) (hb : Below B w w') : Tab B w' := by
  obtain ⟨ht, g, hg, hlt⟩ := h
  exact ⟨var?_below hb hg hlt ht, g, hg, hlt⟩

theorem below_grown (w : World) (k : Nat) (os : Array Obj) : Below w.heap.size w (Sort.grow (w.drewN k) os) :=
  (below_drewN (Below.refl _ w) k).trans ⟨rfl, rfl, rfl, by simp [Sort.grow], fun i hi => by
    show (w.heap ++ os)[i]? = w.heap[i]?
    rw [Array.getElem?_append_left hi]⟩

theorem FormatInt_any (B : Nat) (n : Int) (h0 : -9223372036854775808 ≤ n) (h1 : n ≤ 9223372036854775807) (w : World) (ht : Tab B w) :
    Calls Tryz.prog 90 #[.int .i64 n, .int .i64 10] w fun e w' => e = .returned (.string ⟨(Lib.itoa n).toArray⟩) ∧ Below w.heap.size w w' := by
  refine (Tryz.strconv_FormatInt_10 n h0 h1 w ht.tab).mono ?_
  rintro e w' ⟨rfl, k, os, rfl⟩
  exact ⟨rfl, below_grown w k os⟩

theorem size_list (S : ByteArray) : S.data.toList.length = S.size := Array.length_toList

theorem spaced_take (f : Nat) (ks : List Dat) (j : Nat) : (spaced f (ks.take j)).length ≤ (spaced f ks).length := by
  have h : spaced f ks = spaced f (ks.take j) ++ spaced f (ks.drop j) := by
    unfold spaced
    rw [← List.flatMap_append, List.take_append_drop]
  rw [h]
  simp

theorem txt_small {f : Nat} {d : Dat} (h : ∃ m, m ≤ 2000 ∧ (chk f d m).1 = 0) : (txt f d).length ≤ 48000 := by
  obtain ⟨m, hm, h0⟩ := h
  have := txt_len f d m h0
  have := chk_le f d m hm h0
  omega

theorem spaced_nil {f : Nat} {ks : List Dat} (h : spaced f ks = []) : ks = [] := by
  cases ks with
  | nil => rfl
  | cons k r => simp [spaced] at h

theorem retT {a b : ByteArray} (h : a.data.toList = b.data.toList) : Ending.returned (.string a) = .returned (.string b) := by
  rw [WideShapes.bytes_inj h]

theorem paren (S : ByteArray) : ((⟨#[40]⟩ : ByteArray) ++ S.extract 1 S.size ++ (⟨#[41]⟩ : ByteArray)).data.toList = (40 :: (S.data.toList.drop 1 ++ [41])) := by
  have e : (S.extract 1 S.size).data.toList = S.data.toList.drop 1 := by
    rw [ByteArray.data_extract]
    simp
    rw [List.take_of_length_le (by simp)]
  rw [ByteArray.data_append, ByteArray.data_append, Array.toList_append, Array.toList_append, e]
  rfl

set_option maxRecDepth 100000 in
set_option maxHeartbeats 1600000 in
theorem Text_list (B f g : Nat) (d : Dat) (a : Option Addr) (cap : Nat) (w : World) (hl : Lies B w g a d.kids) (hk : d.kind = 4) (hB : B ≤ w.heap.size) (ht : Tab B w)
    (hlen : (spaced f d.kids).length ≤ 100000) (hok : ∀ k, k ∈ d.kids → ∃ m, m ≤ 2000 ∧ (chk f k m).1 = 0)
    (ih : ∀ (g : Nat) (d : Dat) (a : Option Addr) (cap : Nat) (w : World), Lies B w g a d.kids → (∃ m, m ≤ 2000 ∧ (chk f d m).1 = 0) → d.name.size ≤ maxLen → B ≤ w.heap.size → Tab B w → Calls Tryz.prog 59 #[dv d a cap] w fun e w' => e = .returned (.string ⟨(txt f d).toArray⟩) ∧ Below w.heap.size w w') :
    Calls Tryz.prog 59 #[dv d a cap] w fun e w' => e = .returned (.string ⟨(txt (f + 1) d).toArray⟩) ∧ Below w.heap.size w w' := by
  rw [txt_list hk]
  have hn := hl.len
  have HL : Hid (Lies B w g a d.kids ∧ Tab B w) := ⟨hl, ht⟩
  have HO : Hid (∀ k, k ∈ d.kids → ∃ m, m ≤ 2000 ∧ (chk f k m).1 = 0) := hok
  have IH : Hid (∀ (g : Nat) (d : Dat) (a : Option Addr) (cap : Nat) (w : World), Lies B w g a d.kids → (∃ m, m ≤ 2000 ∧ (chk f d m).1 = 0) → d.name.size ≤ maxLen → B ≤ w.heap.size → Tab B w → Calls Tryz.prog 59 #[dv d a cap] w fun e w' => e = .returned (.string ⟨(txt f d).toArray⟩) ∧ Below w.heap.size w w') := ih
  have HLEN : Hid ((spaced f d.kids).length ≤ 100000) := hlen
  clear hl ht hok ih hlen
  obtain ⟨k, n', nm, st, lb, ks⟩ := d
  unfold dv
  simp only at hk HLEN hn HL HO ⊢
  subst hk
  go_enter Tryz.func59, Tryz.ntmps59
  go_wp2_with fail
  go_loopw [3, 25] (fun s i wr => ∃ (j : Nat) (S : ByteArray), j ≤ ks.length ∧ i = .int .i64 j ∧ s = .string S ∧ S.data.toList = spaced f (ks.take j) ∧ S.size ≤ 100000 ∧ Below w.heap.size w wr) (fun _ i _ => ks.length - (intOf i).toNat)
  case atStart => exact ⟨0, ⟨#[]⟩, Nat.zero_le _, rfl, rfl, rfl, by decide, (Below.refl _ _).alloc (Nat.le_refl _) _⟩
  case round =>
    obtain ⟨j, S, hj, rfl, rfl, hS, hSz, hbw⟩ := hrel
    have hsz := hbw.size
    have HBW : Hid (Below w.heap.size w wr) := hbw
    by_cases hlt : j < ks.length
    · obtain ⟨kid, hkid⟩ : ∃ kid, ks[j]? = some kid := ⟨ks[j], List.getElem?_eq_getElem hlt⟩
      have hne : ks ≠ [] := by intro e; rw [e] at hlt; simp at hlt
      have hLr : Lies B wr g a ks := HL.out.1.below (hbw.mono hB)
      obtain ⟨g', b, o, hg, ha, hbB, hall⟩ := hLr.at hne
      subst ha
      obtain ⟨a', cap', k0, k1, k2, k3, k4, k5, hkn, hkk⟩ := hall j kid hkid
      have HA : Hid (Lies B wr g' a' kid.kids ∧ Tab B wr) := ⟨hkk, HL.out.2.below (hbw.mono hB)⟩
      have HN : Hid (kid.name.size ≤ maxLen) := hkn
      have HS : Hid (spaced f (ks.take (j + 1)) = S.data.toList ++ 32 :: txt f kid) := by
        rw [hS]; exact spaced_snoc f ks j kid hkid
      have HS2 : Hid ((spaced f (ks.take (j + 1))).length ≤ 100000) := Nat.le_trans (spaced_take f ks (j + 1)) HLEN.out
      have HM : Hid (∃ m, m ≤ 2000 ∧ (chk f kid m).1 = 0) := HO.out kid (List.mem_of_getElem? hkid)
      clear hkid hall hkk hLr hne hg hkn hbw hS
      go_wp2_with fail
      refine (IH.out g' kid a' cap' _ (HA.out.1.below ((Below.refl _ _).alloc (by omega) _)) HM.out HN.out (by simp; omega) (HA.out.2.below ((Below.refl _ _).alloc (by omega) _))).mono ?_
      rintro e w2 ⟨rfl, hb2⟩
      have HB2 : Hid (Below w.heap.size w w2) := HBW.out.trans (((Below.refl _ _).alloc (by omega) _).trans (hb2.mono (by simp; omega)))
      have hTz : (⟨(txt f kid).toArray⟩ : ByteArray).size ≤ 48000 := by
        show (txt f kid).toArray.size ≤ 48000
        rw [List.size_toArray]
        exact txt_small HM.out
      obtain ⟨T, HT⟩ : ∃ T : ByteArray, Hid (T = ⟨(txt f kid).toArray⟩) := ⟨_, rfl⟩
      rw [← HT.out] at hTz ⊢
      clear hb2 HA IH HL HO HBW
      go_wp2_with fail
      go_roundw
      case rel =>
        have e1 : (S ++ (⟨#[32]⟩ : ByteArray) ++ T).data.toList = spaced f (ks.take (j + 1)) := by
          rw [HS.out, HT.out]
          simp
        refine ⟨j + 1, _, by omega, by go_num, rfl, e1, ?_, HB2.out⟩
        rw [← size_list, e1]
        exact HS2.out
      case measure => simp [intOf]; omega
    · obtain rfl : j = ks.length := by omega
      rw [List.take_length] at hS
      have HS : Hid (S.data.toList = spaced f ks) := hS
      clear hS hbw IH HL HO
      by_cases hz : S.size = 0
      · have h1 : S.data.toList = [] := List.length_eq_zero_iff.1 (by rw [size_list]; exact hz)
        have h2 : S.toList.isEmpty = true := by rw [ByteArray.toList_eq, h1]; rfl
        have h3 : Hid (spaced f ks = []) := HS.out.symm.trans h1
        clear h1
        go_wp2_with fail
        go_ret
        exact ⟨retT (by rw [h3.out]; rfl), HBW.out⟩
      · have h2 : S.toList.isEmpty = false := by
          have := size_pos_toList hz
          cases h : S.toList with
          | nil => exact absurd h this
          | cons c r => rfl
        have hz' : 1 ≤ S.size := by omega
        clear hz
        go_wp2_with fail
        go_ret
        refine ⟨retT ?_, HBW.out⟩
        rw [← HS.out]
        exact paren S

set_option maxRecDepth 100000 in
set_option maxHeartbeats 800000 in
theorem Text_leaf (B f : Nat) (d : Dat) (a : Option Addr) (cap : Nat) (w : World) (h0 : alone d = 0) (hk4 : d.kind ≠ 4) (ht : Tab B w) (hB : B ≤ w.heap.size) :
    Calls Tryz.prog 59 #[dv d a cap] w fun e w' => e = .returned (.string ⟨(txt (f + 1) d).toArray⟩) ∧ Below w.heap.size w w' := by
  rcases alone_kind h0 with k | k | k | k
  · rw [txt_num k]
    have hr := alone_range h0 k
    have HT : Hid (Tab B w) := ht
    have FI : Hid (∀ w, Tab B w → Calls Tryz.prog 90 #[.int .i64 d.n, .int .i64 10] w fun e w' => e = .returned (.string ⟨(Lib.itoa d.n).toArray⟩) ∧ Below w.heap.size w w') := fun w ht => FormatInt_any B d.n (by omega) (by omega) w ht
    clear ht hk4 h0 hr
    obtain ⟨k, n', nm, st, lb, ks⟩ := d
    unfold dv
    simp only at k FI ⊢
    subst k
    go_enter Tryz.func59, Tryz.ntmps59
    go_wp2_with fail
    refine (FI.out _ (HT.out.below ((Below.refl _ _).alloc hB _))).mono ?_
    rintro e w1 ⟨rfl, hb1⟩
    go_wp2_with fail
    go_ret
    exact ⟨rfl, ((Below.refl _ _).alloc (Nat.le_refl _) _).trans (hb1.mono (by simp))⟩
  · rw [txt_bool k]
    clear ht hk4 h0
    obtain ⟨k, n', nm, st, lb, ks⟩ := d
    unfold dv
    simp only at k ⊢
    subst k
    by_cases h1 : n' = 1
    · subst h1
      go_enter Tryz.func59, Tryz.ntmps59
      go_wp2_with fail
      go_ret
      exact ⟨rfl, (Below.refl _ _).alloc (Nat.le_refl _) _⟩
    · rw [if_neg h1]
      have h1' : (n' == 1) = false := by simpa using h1
      clear h1
      go_enter Tryz.func59, Tryz.ntmps59
      go_wp2_with fail
      go_ret
      exact ⟨rfl, (Below.refl _ _).alloc (Nat.le_refl _) _⟩
  · rw [txt_sym k]
    clear ht hk4 h0
    obtain ⟨k, n', nm, st, lb, ks⟩ := d
    unfold dv
    simp only at k ⊢
    subst k
    go_enter Tryz.func59, Tryz.ntmps59
    go_wp2_with fail
    go_ret
    exact ⟨rfl, (Below.refl _ _).alloc (Nat.le_refl _) _⟩
  · exact absurd k hk4

/-- HOW THE DOCUMENT WRITES a datum that is right. -/
theorem Text_any (B : Nat) : ∀ (f g : Nat) (d : Dat) (a : Option Addr) (cap : Nat) (w : World), Lies B w g a d.kids → (∃ m, m ≤ 2000 ∧ (chk f d m).1 = 0) → d.name.size ≤ maxLen → B ≤ w.heap.size → Tab B w →
    Calls Tryz.prog 59 #[dv d a cap] w fun e w' => e = .returned (.string ⟨(txt f d).toArray⟩) ∧ Below w.heap.size w w'
  | 0, g, d, a, cap, w, _, h, _, _, _ => by
    obtain ⟨m, _, h⟩ := h
    simp [chk] at h
  | f + 1, g, d, a, cap, w, hl, h, hs, hB, ht => by
    have hsm := txt_small h
    obtain ⟨m, hm, h⟩ := h
    obtain ⟨h1, h2, h3, _⟩ := chk_parts h
    by_cases k4 : d.kind = 4
    · refine Text_list B f g d a cap w hl k4 hB ht ?_ ?_ (Text_any B f)
      · rw [txt_list k4] at hsm
        simp at hsm
        omega
      · exact chkL_kid (chk f) (chk_le f) d.kids (m + 1) h1 (h3 k4)
    · exact Text_leaf B f d a cap w h2 k4 ht hB
end
section
set_option linter.unusedVariables false
set_option linter.unusedSimpArgs false
open Go.RowKit

/-- Data, a line each. -/
def printed (l : List Dat) : List UInt8 := l.flatMap fun d => txt 40 d ++ [10]

/-- What Print tells. -/
def prt (l : List Dat) : ByteArray × (Int × Int) :=
  if (wrong l).1 = 0 then (if 6000 < (printed l).length then (⟨#[]⟩, (4, 0)) else (⟨(printed l).toArray⟩, (0, 0))) else (⟨#[]⟩, wrong l)

theorem prt_bad {l : List Dat} (h : (wrong l).1 ≠ 0) : prt l = (⟨#[]⟩, wrong l) := by unfold prt; rw [if_neg h]
theorem prt_much {l : List Dat} (h : (wrong l).1 = 0) (h2 : 6000 < (printed l).length) : prt l = (⟨#[]⟩, (4, 0)) := by unfold prt; rw [if_pos h, if_pos h2]
theorem prt_ok {l : List Dat} (h : (wrong l).1 = 0) (h2 : ¬ 6000 < (printed l).length) : prt l = (⟨(printed l).toArray⟩, (0, 0)) := by unfold prt; rw [if_pos h, if_neg h2]

theorem wrongFrom_each : ∀ (l : List Dat) (i n : Nat), n ≤ 2000 → (wrongFrom l i n).1 = 0 → (∀ d, d ∈ l → ∃ m, m ≤ 2000 ∧ (chk 40 d m).1 = 0) ∧ (printed l).length + 24 * n ≤ 48000
  | [], i, n, hn, _ => ⟨by simp, by simp [printed]; omega⟩
  | d :: r, i, n, hn, h => by
    unfold wrongFrom at h
    by_cases e : (chk 40 d n).1 = 0
    · rw [if_pos e] at h
      have h2 := chk_le 40 d n hn e
      have h3 := txt_len 40 d n e
      obtain ⟨h4, h5⟩ := wrongFrom_each r _ _ h2 h
      refine ⟨?_, ?_⟩
      · intro x hx
        rcases List.mem_cons.1 hx with rfl | hx
        · exact ⟨n, hn, e⟩
        · exact h4 x hx
      · have h6 : (printed (d :: r)).length = (txt 40 d).length + 1 + (printed r).length := by simp [printed]; omega
        omega
    · rw [if_neg e] at h
      exact absurd h e

theorem printed_snoc (l : List Dat) (j : Nat) (d : Dat) (h : l[j]? = some d) : printed (l.take (j + 1)) = printed (l.take j) ++ (txt 40 d ++ [10]) := by
  obtain ⟨hj, e⟩ := List.getElem?_eq_some_iff.1 h
  unfold printed
  rw [List.take_succ_eq_append_getElem hj, e]
  simp

theorem printed_take (l : List Dat) (j : Nat) : (printed (l.take j)).length ≤ (printed l).length := by
  have h : printed l = printed (l.take j) ++ printed (l.drop j) := by
    unfold printed
    rw [← List.flatMap_append, List.take_append_drop]
  rw [h]
  simp

/-- The answer's block is as it was made. -/
structure Res (N : Nat) (w wr : World) : Prop where
  below : Below N w wr
  lt : N < wr.heap.size
  q0 : wr.cell? ⟨N, 0, none⟩ = some (.int .i64 0)
  q1 : wr.cell? ⟨N, 1, none⟩ = some (.int .i64 0)
  z0 : wr.frozen? ⟨N, 0, none⟩ = false
  z1 : wr.frozen? ⟨N, 1, none⟩ = false

theorem Res.after {N : Nat} {w wr wr' : World} (h : Res N w wr) (hb : Below wr.heap.size wr wr') : Res N w wr' :=
  ⟨h.below.trans (hb.mono (Nat.le_of_lt h.lt)), Nat.lt_of_lt_of_le h.lt hb.size, (hb.cell (p := ⟨N, 0, none⟩) h.lt).trans h.q0, (hb.cell (p := ⟨N, 1, none⟩) h.lt).trans h.q1, (hb.frozen (p := ⟨N, 0, none⟩) h.lt).trans h.z0, (hb.frozen (p := ⟨N, 1, none⟩) h.lt).trans h.z1⟩
theorem Res.alloc {N : Nat} {w wr : World} (h : Res N w wr) (o : Obj) : Res N w (wr.alloc o) := h.after ((Below.refl _ _).alloc (Nat.le_refl _) _)

set_option maxRecDepth 100000 in
set_option maxHeartbeats 1600000 in
theorem refPrint_bad (B g : Nat) (l : List Dat) (a : Option Addr) (cap : Nat) (w : World) (hl : Lies B w g a l) (hB : B ≤ w.heap.size) (h0 : (wrong l).1 ≠ 0) :
    Calls Tryz.prog 30 #[.slice a l.length cap] w fun e w' => e = .returned (.tuple #[.string (prt l).1, fv (prt l).2]) ∧ Below w.heap.size w w' := by
  rw [prt_bad h0]
  have RW : Hid (∀ w', Below w.heap.size w w' → Calls Tryz.prog 46 #[.slice a l.length cap] w' fun e w'' => e = .returned (fv (wrong l)) ∧ Below w'.heap.size w' w'') := fun w' hb => refWrong_any B g l a cap w' (hl.below (hb.mono hB)) (by have := hb.size; omega)
  clear hl
  generalize wrong l = y at RW h0 ⊢
  obtain ⟨y1, y2⟩ := y
  simp only at h0
  have y0 : (y1 != 0) = true := by simpa using h0
  clear h0
  unfold fv at RW ⊢
  simp only at RW ⊢
  go_enter Tryz.func30, Tryz.ntmps30
  go_wp2_with fail
  refine (RW.out _ ((Below.refl _ _).alloc (Nat.le_refl _) _)).mono ?_
  rintro e w1 ⟨rfl, hb1⟩
  have hz : w.heap.size < w1.heap.size := by have := hb1.size; simp at this; omega
  have q0 : w1.cell? ⟨w.heap.size, 0, none⟩ = some (.int .i64 0) := box_cell hb1 rfl 0
  have q1 : w1.cell? ⟨w.heap.size, 1, none⟩ = some (.int .i64 0) := box_cell hb1 rfl 1
  have z0 : w1.frozen? ⟨w.heap.size, 0, none⟩ = false := (hb1.frozen (p := ⟨w.heap.size, 0, none⟩) (by simp)).trans (by go_simp)
  have z1 : w1.frozen? ⟨w.heap.size, 1, none⟩ = false := (hb1.frozen (p := ⟨w.heap.size, 1, none⟩) (by simp)).trans (by go_simp)
  have HB : Hid (Below w.heap.size w w1) := ((Below.refl _ _).alloc (Nat.le_refl _) _).trans (hb1.mono (by simp))
  clear hb1 RW
  go_wp2_with fail
  go_region
  go_wp2
  refine bodyPost_ret (v := .tuple #[.string ⟨#[]⟩, .agg #[.int .i64 y1, .int .i64 y2]]) (by simp [results, Tryz.results30, go_sem, q0, q1, hz]) rfl ⟨rfl, ?_⟩
  exact (((HB.out.setCell (p := ⟨w.heap.size, 0, none⟩) (Nat.le_refl _) _).setCell (p := ⟨w.heap.size, 1, none⟩) (Nat.le_refl _) _).alloc (by simp [World.setCell]; omega) _).drew

set_option maxRecDepth 100000 in
set_option maxHeartbeats 1600000 in
theorem refPrint_good (B g : Nat) (l : List Dat) (a : Option Addr) (cap : Nat) (w : World) (hl : Lies B w g a l) (hB : B ≤ w.heap.size) (ht : Tab B w) (h0 : (wrong l).1 = 0) :
    Calls Tryz.prog 30 #[.slice a l.length cap] w fun e w' => e = .returned (.tuple #[.string (prt l).1, fv (prt l).2]) ∧ Below w.heap.size w w' := by
  have hln := hl.len
  obtain ⟨hok, hpl⟩ := wrongFrom_each l 0 0 (Nat.zero_le _) h0
  have HOK : Hid (∀ d, d ∈ l → ∃ m, m ≤ 2000 ∧ (chk 40 d m).1 = 0) := hok
  have HPL : Hid ((printed l).length ≤ 48000) := by show (printed l).length ≤ 48000; omega
  have HP1 : Hid (6000 < (printed l).length → prt l = (⟨#[]⟩, (4, 0))) := fun h => prt_much h0 h
  have HP2 : Hid (¬ 6000 < (printed l).length → prt l = (⟨(printed l).toArray⟩, (0, 0))) := fun h => prt_ok h0 h
  have RW : Hid (∀ w', Below w.heap.size w w' → Calls Tryz.prog 46 #[.slice a l.length cap] w' fun e w'' => ∃ y2, e = .returned (.agg #[.int .i64 0, .int .i64 y2]) ∧ Below w'.heap.size w' w'') := fun w' hb => by
    refine (refWrong_any B g l a cap w' (hl.below (hb.mono hB)) (by have := hb.size; omega)).mono ?_
    rintro e w'' ⟨rfl, h⟩
    exact ⟨(wrong l).2, by unfold fv; rw [h0], h⟩
  have HL : Hid (Lies B w g a l ∧ Tab B w) := ⟨hl, ht⟩
  clear hl ht h0 hok hpl
  go_enter Tryz.func30, Tryz.ntmps30
  go_wp2_with fail
  refine (RW.out _ ((Below.refl _ _).alloc (Nat.le_refl _) _)).mono ?_
  rintro e w1 ⟨y2, rfl, hb1⟩
  have hz : w.heap.size < w1.heap.size := by have := hb1.size; simp at this; omega
  have q0 : w1.cell? ⟨w.heap.size, 0, none⟩ = some (.int .i64 0) := box_cell hb1 rfl 0
  have q1 : w1.cell? ⟨w.heap.size, 1, none⟩ = some (.int .i64 0) := box_cell hb1 rfl 1
  have z0 : w1.frozen? ⟨w.heap.size, 0, none⟩ = false := (hb1.frozen (p := ⟨w.heap.size, 0, none⟩) (by simp)).trans (by go_simp)
  have z1 : w1.frozen? ⟨w.heap.size, 1, none⟩ = false := (hb1.frozen (p := ⟨w.heap.size, 1, none⟩) (by simp)).trans (by go_simp)
  have HB : Hid (Below w.heap.size w w1) := ((Below.refl _ _).alloc (Nat.le_refl _) _).trans (hb1.mono (by simp))
  clear hb1 RW
  go_wp2_with fail
  go_loopw [5, 16] (fun s i wr => ∃ (j : Nat) (S : ByteArray), j ≤ l.length ∧ i = .int .i64 j ∧ s = .string S ∧ S.data.toList = printed (l.take j) ∧ S.size ≤ 48000 ∧ Res w.heap.size w wr) (fun _ i _ => l.length - (intOf i).toNat)
  case atStart => exact ⟨0, ⟨#[]⟩, Nat.zero_le _, rfl, rfl, rfl, by decide, (Res.mk HB.out hz q0 q1 z0 z1).alloc _⟩
  case round =>
    clear q0 q1 z0 z1 HB hz
    obtain ⟨j, S, hj, rfl, rfl, hS, hSz, hres⟩ := hrel
    have q0 := hres.q0
    have q1 := hres.q1
    have z0 := hres.z0
    have z1 := hres.z1
    have hz := hres.lt
    have HR : Hid (Res w.heap.size w wr) := hres
    by_cases hlt : j < l.length
    · obtain ⟨d, hd⟩ : ∃ d, l[j]? = some d := ⟨l[j], List.getElem?_eq_getElem hlt⟩
      have hne : l ≠ [] := by intro e; rw [e] at hlt; simp at hlt
      have hLr : Lies B wr g a l := HL.out.1.below (hres.below.mono hB)
      obtain ⟨g', b, o, hg, ha, hbB, hall⟩ := hLr.at hne
      subst ha
      obtain ⟨a', cap', k0, k1, k2, k3, k4, k5, hkn, hkk⟩ := hall j d hd
      have HA : Hid (Lies B wr g' a' d.kids ∧ Tab B wr) := ⟨hkk, HL.out.2.below (hres.below.mono hB)⟩
      have HN : Hid (d.name.size ≤ maxLen) := hkn
      have HS : Hid (printed (l.take (j + 1)) = S.data.toList ++ (txt 40 d ++ [10])) := by
        rw [hS]; exact printed_snoc l j d hd
      have HS2 : Hid ((printed (l.take (j + 1))).length ≤ 48000) := Nat.le_trans (printed_take l (j + 1)) HPL.out
      have HM : Hid (∃ m, m ≤ 2000 ∧ (chk 40 d m).1 = 0) := HOK.out d (List.mem_of_getElem? hd)
      clear hd hall hkk hLr hne hg hkn hres hS
      go_wp2_with fail
      refine (Text_any B 40 g' d a' cap' _ (HA.out.1.below ((Below.refl _ _).alloc (by omega) _)) HM.out HN.out (by simp; omega) (HA.out.2.below ((Below.refl _ _).alloc (by omega) _))).mono ?_
      rintro e w2 ⟨rfl, hb2⟩
      have HR2 : Hid (Res w.heap.size w w2) := (HR.out.alloc _).after hb2
      have hTz : (⟨(txt 40 d).toArray⟩ : ByteArray).size ≤ 48000 := by
        show (txt 40 d).toArray.size ≤ 48000
        rw [List.size_toArray]
        exact txt_small HM.out
      obtain ⟨T, HT⟩ : ∃ T : ByteArray, Hid (T = ⟨(txt 40 d).toArray⟩) := ⟨_, rfl⟩
      rw [← HT.out] at hTz ⊢
      clear hb2 HA HL HOK HR k0 k1 k2 k3 k4 k5
      go_wp2_with fail
      go_roundw
      case rel =>
        have e1 : (S ++ T ++ (⟨#[10]⟩ : ByteArray)).data.toList = printed (l.take (j + 1)) := by
          rw [HS.out, HT.out]
          simp
        refine ⟨j + 1, _, by omega, by go_num, rfl, e1, ?_, HR2.out⟩
        rw [← size_list, e1]
        exact HS2.out
      case measure => simp [intOf]; omega
    · obtain rfl : j = l.length := by omega
      rw [List.take_length] at hS
      have HS : Hid (S.data.toList = printed l) := hS
      have hlen : Hid ((printed l).length = S.size) := by
        show (printed l).length = S.size
        rw [← hS, size_list]
      clear hS HL HOK hres
      by_cases h6 : 6000 < S.size
      · go_wp2_with fail
        refine bodyPost_ret (v := .tuple #[.string ⟨#[]⟩, fv (4, 0)]) (by simp [results, Tryz.results30, go_sem, q0, q1, hz, fv]) rfl ⟨by rw [HP1.out (by rw [hlen.out]; exact h6)], ?_⟩
        exact (HR.out.below.setCell (p := ⟨w.heap.size, 0, none⟩) (Nat.le_refl _) _).setCell (p := ⟨w.heap.size, 1, none⟩) (Nat.le_refl _) _
      · go_wp2_with fail
        refine bodyPost_ret (v := .tuple #[.string S, fv (0, 0)]) (by simp [results, Tryz.results30, go_sem, q0, q1, hz, fv]) rfl ⟨?_, ?_⟩
        · rw [HP2.out (by rw [hlen.out]; exact h6)]
          have : S = ⟨(printed l).toArray⟩ := WideShapes.bytes_inj HS.out
          rw [this]
        · exact (HR.out.below.setCell (p := ⟨w.heap.size, 0, none⟩) (Nat.le_refl _) _).setCell (p := ⟨w.heap.size, 1, none⟩) (Nat.le_refl _) _

/-- WHAT THE DOCUMENT PRINTS of any data. -/
theorem refPrint_any (B g : Nat) (l : List Dat) (a : Option Addr) (cap : Nat) (w : World) (hl : Lies B w g a l) (hB : B ≤ w.heap.size) (ht : Tab B w) :
    Calls Tryz.prog 30 #[.slice a l.length cap] w fun e w' => e = .returned (.tuple #[.string (prt l).1, fv (prt l).2]) ∧ Below w.heap.size w w' := by
  by_cases h0 : (wrong l).1 = 0
  · exact refPrint_good B g l a cap w hl hB ht h0
  · exact refPrint_bad B g l a cap w hl hB h0
end
end Go.Proofs.YtdnbingddbakaaaGreatDoor
