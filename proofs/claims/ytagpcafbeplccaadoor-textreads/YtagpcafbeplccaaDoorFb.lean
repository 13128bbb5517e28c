/- How the document writes data. -/
import Derived.Test.YtagpcafbeplccaaDoorFa
namespace Go.Proofs.YtagpcafbeplccaaDoor
set_option linter.unusedVariables false
set_option linter.unusedSimpArgs false
open Go.RowKit

/-- The table of the powers of ten lies below B. -/
structure Tab (B : Nat) (w : World) : Prop where
  tab : Lib.TabIs Tryd.prog w Tryd.tabName .u64 Lib.pow10Tab
  low : ∃ g, Tryd.prog.globalNamed Tryd.tabName = some g ∧ g < B

theorem Tab.below {B : Nat} {w w' : World} (h : Tab B w) (hb : Below B w w') : Tab B w' := by
  obtain ⟨ht, g, hg, hlt⟩ := h
  exact ⟨var?_below hb hg hlt ht, g, hg, hlt⟩

theorem below_grown (w : World) (k : Nat) (os : Array Obj) : Below w.heap.size w (Sort.grow (w.drewN k) os) :=
  (below_drewN (Below.refl _ w) k).trans ⟨rfl, rfl, rfl, by simp [Sort.grow], fun i hi => by
    show (w.heap ++ os)[i]? = w.heap[i]?
    rw [Array.getElem?_append_left hi]⟩

theorem FormatInt_any (B : Nat) (n : Int) (h0 : -9223372036854775808 ≤ n) (h1 : n ≤ 9223372036854775807) (w : World) (ht : Tab B w) :
    Calls Tryd.prog 48 #[.int .i64 n, .int .i64 10] w fun e w' => e = .returned (.string ⟨(Lib.itoa n).toArray⟩) ∧ Below w.heap.size w w' := by
  refine (Tryd.strconv_FormatInt_10 n h0 h1 w ht.tab).mono ?_
  rintro e w' ⟨rfl, k, os, rfl⟩
  exact ⟨rfl, below_grown w k os⟩

theorem size_list (S : ByteArray) : S.data.toList.length = S.size := Array.length_toList

theorem spaced_take (f : Nat) (ks : List Dat) (j : Nat) : (spaced f (ks.take j)).length ≤ (spaced f ks).length := by
  have h : spaced f ks = spaced f (ks.take j) ++ spaced f (ks.drop j) := by
    unfold spaced
    rw [← List.flatMap_append, List.take_append_drop]
  rw [h]
  simp

theorem txt_small {f : Nat} {d : Dat} (h : ∃ m, m ≤ 2000 ∧ (chk f d m).1 = 0) : (txt f d).length ≤ 48000 := by
  obtain ⟨m, hm, h0⟩ := h
  have := txt_len f d m h0
  have := chk_le f d m hm h0
  omega

theorem spaced_nil {f : Nat} {ks : List Dat} (h : spaced f ks = []) : ks = [] := by
  cases ks with
  | nil => rfl
  | cons k r => simp [spaced] at h

theorem retT {a b : ByteArray} (h : a.data.toList = b.data.toList) : Ending.returned (.string a) = .returned (.string b) := by
  rw [WideShapes.bytes_inj h]

theorem paren (S : ByteArray) : ((⟨#[40]⟩ : ByteArray) ++ S.extract 1 S.size ++ (⟨#[41]⟩ : ByteArray)).data.toList = (40 :: (S.data.toList.drop 1 ++ [41])) := by
  have e : (S.extract 1 S.size).data.toList = S.data.toList.drop 1 := by
    rw [ByteArray.data_extract]
    simp
    rw [List.take_of_length_le (by simp)]
  rw [ByteArray.data_append, ByteArray.data_append, Array.toList_append, Array.toList_append, e]
  rfl

set_option maxRecDepth 100000 in
set_option maxHeartbeats 1600000 in
theorem Text_list (B f g : Nat) (d : Dat) (a : Option Addr) (cap : Nat) (w : World) (hl : Lies B w g a d.kids) (hk : d.kind = 4) (hB : B ≤ w.heap.size) (ht : Tab B w)
    (hlen : (spaced f d.kids).length ≤ 100000) (hok : ∀ k, k ∈ d.kids → ∃ m, m ≤ 2000 ∧ (chk f k m).1 = 0)
    (ih : ∀ (g : Nat) (d : Dat) (a : Option Addr) (cap : Nat) (w : World), Lies B w g a d.kids → (∃ m, m ≤ 2000 ∧ (chk f d m).1 = 0) → d.name.size ≤ maxLen → B ≤ w.heap.size → Tab B w → Calls Tryd.prog 33 #[dv d a cap] w fun e w' => e = .returned (.string ⟨(txt f d).toArray⟩) ∧ Below w.heap.size w w') :
    Calls Tryd.prog 33 #[dv d a cap] w fun e w' => e = .returned (.string ⟨(txt (f + 1) d).toArray⟩) ∧ Below w.heap.size w w' := by
  rw [txt_list hk]
  have hn := hl.len
  have HL : Hid (Lies B w g a d.kids ∧ Tab B w) := ⟨hl, ht⟩
  have HO : Hid (∀ k, k ∈ d.kids → ∃ m, m ≤ 2000 ∧ (chk f k m).1 = 0) := hok
  have IH : Hid (∀ (g : Nat) (d : Dat) (a : Option Addr) (cap : Nat) (w : World), Lies B w g a d.kids → (∃ m, m ≤ 2000 ∧ (chk f d m).1 = 0) → d.name.size ≤ maxLen → B ≤ w.heap.size → Tab B w → Calls Tryd.prog 33 #[dv d a cap] w fun e w' => e = .returned (.string ⟨(txt f d).toArray⟩) ∧ Below w.heap.size w w') := ih
  have HLEN : Hid ((spaced f d.kids).length ≤ 100000) := hlen
  clear hl ht hok ih hlen
  obtain ⟨k, n', nm, st, lb, ks⟩ := d
  unfold dv
  simp only at hk HLEN hn HL HO ⊢
  subst hk
  go_enter Tryd.func33, Tryd.ntmps33
  go_wp2_with fail
  go_loopw [3, 25] (fun s i wr => ∃ (j : Nat) (S : ByteArray), j ≤ ks.length ∧ i = .int .i64 j ∧ s = .string S ∧ S.data.toList = spaced f (ks.take j) ∧ S.size ≤ 100000 ∧ Below w.heap.size w wr) (fun _ i _ => ks.length - (intOf i).toNat)
  case atStart => exact ⟨0, ⟨#[]⟩, Nat.zero_le _, rfl, rfl, rfl, by decide, (Below.refl _ _).alloc (Nat.le_refl _) _⟩
  case round =>
    obtain ⟨j, S, hj, rfl, rfl, hS, hSz, hbw⟩ := hrel
    have hsz := hbw.size
    have HBW : Hid (Below w.heap.size w wr) := hbw
    by_cases hlt : j < ks.length
    · obtain ⟨kid, hkid⟩ : ∃ kid, ks[j]? = some kid := ⟨ks[j], List.getElem?_eq_getElem hlt⟩
      have hne : ks ≠ [] := by intro e; rw [e] at hlt; simp at hlt
      have hLr : Lies B wr g a ks := HL.out.1.below (hbw.mono hB)
      obtain ⟨g', b, o, hg, ha, hbB, hall⟩ := hLr.at hne
      subst ha
      obtain ⟨a', cap', k0, k1, k2, k3, k4, k5, hkn, hkk⟩ := hall j kid hkid
      have HA : Hid (Lies B wr g' a' kid.kids ∧ Tab B wr) := ⟨hkk, HL.out.2.below (hbw.mono hB)⟩
      have HN : Hid (kid.name.size ≤ maxLen) := hkn
      have HS : Hid (spaced f (ks.take (j + 1)) = S.data.toList ++ 32 :: txt f kid) := by
        rw [hS]; exact spaced_snoc f ks j kid hkid
      have HS2 : Hid ((spaced f (ks.take (j + 1))).length ≤ 100000) := Nat.le_trans (spaced_take f ks (j + 1)) HLEN.out
      have HM : Hid (∃ m, m ≤ 2000 ∧ (chk f kid m).1 = 0) := HO.out kid (List.mem_of_getElem? hkid)
      clear hkid hall hkk hLr hne hg hkn hbw hS
      go_wp2_with fail
      refine (IH.out g' kid a' cap' _ (HA.out.1.below ((Below.refl _ _).alloc (by omega) _)) HM.out HN.out (by simp; omega) (HA.out.2.below ((Below.refl _ _).alloc (by omega) _))).mono ?_
      rintro e w2 ⟨rfl, hb2⟩
      have HB2 : Hid (Below w.heap.size w w2) := HBW.out.trans (((Below.refl _ _).alloc (by omega) _).trans (hb2.mono (by simp; omega)))
      have hTz : (⟨(txt f kid).toArray⟩ : ByteArray).size ≤ 48000 := by
        show (txt f kid).toArray.size ≤ 48000
        rw [List.size_toArray]
        exact txt_small HM.out
      obtain ⟨T, HT⟩ : ∃ T : ByteArray, Hid (T = ⟨(txt f kid).toArray⟩) := ⟨_, rfl⟩
      rw [← HT.out] at hTz ⊢
      clear hb2 HA IH HL HO HBW
      go_wp2_with fail
      go_roundw
      case rel =>
        have e1 : (S ++ (⟨#[32]⟩ : ByteArray) ++ T).data.toList = spaced f (ks.take (j + 1)) := by
          rw [HS.out, HT.out]
          simp
        refine ⟨j + 1, _, by omega, by go_num, rfl, e1, ?_, HB2.out⟩
        rw [← size_list, e1]
        exact HS2.out
      case measure => simp [intOf]; omega
    · obtain rfl : j = ks.length := by omega
      rw [List.take_length] at hS
      have HS : Hid (S.data.toList = spaced f ks) := hS
      clear hS hbw IH HL HO
      by_cases hz : S.size = 0
      · have h1 : S.data.toList = [] := List.length_eq_zero_iff.1 (by rw [size_list]; exact hz)
        have h2 : S.toList.isEmpty = true := by rw [ByteArray.toList_eq, h1]; rfl
        have h3 : Hid (spaced f ks = []) := HS.out.symm.trans h1
        clear h1
        go_wp2_with fail
        go_ret
        exact ⟨retT (by rw [h3.out]; rfl), HBW.out⟩
      · have h2 : S.toList.isEmpty = false := by
          have := size_pos_toList hz
          cases h : S.toList with
          | nil => exact absurd h this
          | cons c r => rfl
        have hz' : 1 ≤ S.size := by omega
        clear hz
        go_wp2_with fail
        go_ret
        refine ⟨retT ?_, HBW.out⟩
        rw [← HS.out]
        exact paren S

set_option maxRecDepth 100000 in
set_option maxHeartbeats 800000 in
theorem Text_leaf (B f : Nat) (d : Dat) (a : Option Addr) (cap : Nat) (w : World) (h0 : alone d = 0) (hk4 : d.kind ≠ 4) (ht : Tab B w) (hB : B ≤ w.heap.size) :
    Calls Tryd.prog 33 #[dv d a cap] w fun e w' => e = .returned (.string ⟨(txt (f + 1) d).toArray⟩) ∧ Below w.heap.size w w' := by
  rcases alone_kind h0 with k | k | k | k
  · rw [txt_num k]
    have hr := alone_range h0 k
    have HT : Hid (Tab B w) := ht
    have FI : Hid (∀ w, Tab B w → Calls Tryd.prog 48 #[.int .i64 d.n, .int .i64 10] w fun e w' => e = .returned (.string ⟨(Lib.itoa d.n).toArray⟩) ∧ Below w.heap.size w w') := fun w ht => FormatInt_any B d.n (by omega) (by omega) w ht
    clear ht hk4 h0 hr
    obtain ⟨k, n', nm, st, lb, ks⟩ := d
    unfold dv
    simp only at k FI ⊢
    subst k
    go_enter Tryd.func33, Tryd.ntmps33
    go_wp2_with fail
    refine (FI.out _ (HT.out.below ((Below.refl _ _).alloc hB _))).mono ?_
    rintro e w1 ⟨rfl, hb1⟩
    go_wp2_with fail
    go_ret
    exact ⟨rfl, ((Below.refl _ _).alloc (Nat.le_refl _) _).trans (hb1.mono (by simp))⟩
  · rw [txt_bool k]
    clear ht hk4 h0
    obtain ⟨k, n', nm, st, lb, ks⟩ := d
    unfold dv
    simp only at k ⊢
    subst k
    by_cases h1 : n' = 1
    · subst h1
      go_enter Tryd.func33, Tryd.ntmps33
      go_wp2_with fail
      go_ret
      exact ⟨rfl, (Below.refl _ _).alloc (Nat.le_refl _) _⟩
    · rw [if_neg h1]
      have h1' : (n' == 1) = false := by simpa using h1
      clear h1
      go_enter Tryd.func33, Tryd.ntmps33
      go_wp2_with fail
      go_ret
      exact ⟨rfl, (Below.refl _ _).alloc (Nat.le_refl _) _⟩
  · rw [txt_sym k]
    clear ht hk4 h0
    obtain ⟨k, n', nm, st, lb, ks⟩ := d
    unfold dv
    simp only at k ⊢
    subst k
    go_enter Tryd.func33, Tryd.ntmps33
    go_wp2_with fail
    go_ret
    exact ⟨rfl, (Below.refl _ _).alloc (Nat.le_refl _) _⟩
  · exact absurd k hk4

/-- HOW THE DOCUMENT WRITES a datum that is right. -/
theorem Text_any (B : Nat) : ∀ (f g : Nat) (d : Dat) (a : Option Addr) (cap : Nat) (w : World), Lies B w g a d.kids → (∃ m, m ≤ 2000 ∧ (chk f d m).1 = 0) → d.name.size ≤ maxLen → B ≤ w.heap.size → Tab B w →
    Calls Tryd.prog 33 #[dv d a cap] w fun e w' => e = .returned (.string ⟨(txt f d).toArray⟩) ∧ Below w.heap.size w w'
  | 0, g, d, a, cap, w, _, h, _, _, _ => by
    obtain ⟨m, _, h⟩ := h
    simp [chk] at h
  | f + 1, g, d, a, cap, w, hl, h, hs, hB, ht => by
    have hsm := txt_small h
    obtain ⟨m, hm, h⟩ := h
    obtain ⟨h1, h2, h3, _⟩ := chk_parts h
    by_cases k4 : d.kind = 4
    · refine Text_list B f g d a cap w hl k4 hB ht ?_ ?_ (Text_any B f)
      · rw [txt_list k4] at hsm
        simp at hsm
        omega
      · exact chkL_kid (chk f) (chk_le f) d.kids (m + 1) h1 (h3 k4)
    · exact Text_leaf B f d a cap w h2 k4 ht hB
end Go.Proofs.YtagpcafbeplccaaDoor
