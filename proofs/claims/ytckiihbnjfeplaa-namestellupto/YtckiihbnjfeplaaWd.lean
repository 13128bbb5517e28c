/- Package names: what is wrong with exports; clones; rows of pairs. -/
import Derived.Test.YtckiihbnjfeplaaWc
import Derived.Test.YtckiihbnjfeplaaShelfC
import Derived.Test.YtckiihbnjfeplaaSa
import Derived.Laws.AppendOwn
import Derived.Laws.OwnMore
import Derived.Deep.AppendLies
import Derived.OwnWalk
namespace Go.Proofs.Ytckiihbnjfeplaa
set_option linter.unusedVariables false
set_option linter.unusedSimpArgs false
open Go.RowKit Go.Maps Go.WideMaps

theorem plc_first {l : List ByteArray} {j : Nat} {s : ByteArray} (h : l[j]? = some s) : ∃ i, plc l s = some i ∧ i ≤ j ∧ (i = j ↔ s ∉ l.take j) := by
  have hj := lt_of_at h
  cases e : plc l s with
  | none => exact absurd (List.mem_of_getElem? h) (plc_none.1 e)
  | some i =>
    refine ⟨i, rfl, ?_⟩
    unfold plc at e
    rw [List.findIdx?_eq_some_iff_getElem] at e
    obtain ⟨h1, h2, h3⟩ := e
    have hle : i ≤ j := by
      apply Classical.byContradiction
      intro hlt
      have := h3 j (by omega)
      rw [List.getElem?_eq_getElem hj] at h
      simp at h
      simp [h] at this
    refine ⟨hle, ?_⟩
    constructor
    · intro hij hm
      subst hij
      obtain ⟨k, hk, hks⟩ := List.getElem_of_mem hm
      have hki : k < i := by simp at hk; omega
      have := h3 k hki
      simp at hks
      simp [hks] at this
    · intro hm
      apply Classical.byContradiction
      intro hne
      refine hm ?_
      have hlt : i < j := by omega
      have : l[i] = s := by simpa using h2
      rw [← this]
      exact List.mem_take_iff_getElem.2 ⟨i, by omega, rfl⟩

theorem wexFrom_at {l : List ByteArray} {j : Nat} {s : ByteArray} (h : l[j]? = some s) : wexFrom (l.take j) (l.drop j) = if namedB s = false then 7 else if s ∈ l.take j then 8 else wexFrom (l.take (j + 1)) (l.drop (j + 1)) := by
  have hj := lt_of_at h
  have e : l.drop j = s :: l.drop (j + 1) := by
    rw [List.drop_eq_getElem_cons hj]
    rw [List.getElem?_eq_getElem hj] at h
    simp at h
    rw [h]
  rw [e, take_put h]
  conv => lhs; unfold wexFrom

set_option maxRecDepth 100000 in
set_option maxHeartbeats 1600000 in
theorem wrongExports_any (B : Nat) (l : List ByteArray) (a : Option Addr) (cap : Nat) (w : World) (h : Strs B w a l) (hB : B ≤ w.heap.size) :
    Calls Try.prog 13 #[.slice a l.length cap] w fun e w' => e = .returned (.int .i64 (wex l)) ∧ Below w.heap.size w w' := by
  have hl := h.1
  by_cases hmany : 200 < l.length
  · have HW : Hid (wex l = 5) := by
      show wex l = 5
      unfold wex
      rw [if_pos hmany]
    clear h hB
    go_enter Try.func13, Try.ntmps13
    go_wp2_with fail
    go_ret
    exact ⟨retI HW.out.symm, Below.refl _ _⟩
  · have HW : Hid (wex l = wexFrom (l.take 0) (l.drop 0)) := by
      show wex l = wexFrom (l.take 0) (l.drop 0)
      unfold wex
      rw [if_neg hmany]
      rfl
    have PL : Hid (Calls Try.prog 28 #[.slice a l.length cap] w fun e w' => e = .returned (.map (some w.heap.size)) ∧ Below w.heap.size w w' ∧ MapIs w.heap.size l.length (plc l) w') := places_any B l a cap w h hB
    have HS : Hid (Strs B w a l ∧ B ≤ w.heap.size) := ⟨h, hB⟩
    clear h hB
    go_enter Try.func13, Try.ntmps13
    go_wp2_with fail
    refine PL.out.mono ?_
    rintro e w1 ⟨rfl, hb1, hm1⟩
    have HM : Hid (Below w.heap.size w w1 ∧ MapIs w.heap.size l.length (plc l) w1) := ⟨hb1, hm1⟩
    clear hb1 hm1 PL
    go_wp2_with fail
    go_loop [13] (fun i => ∃ j : Nat, j ≤ l.length ∧ i = .int .i64 j ∧ wex l = wexFrom (l.take j) (l.drop j)) (fun i => l.length - (intOf i).toNat)
    case atStart => exact ⟨0, Nat.zero_le _, rfl, HW.out⟩
    case round =>
      obtain ⟨j, hj, rfl, ha⟩ := hrel
      have HA : Hid (wex l = wexFrom (l.take j) (l.drop j)) := ha
      clear ha
      by_cases hlt : j < l.length
      · obtain ⟨b, o, s, rfl, hbB, hs, hc, hz⟩ := HS.out.1.at hlt
        have hc' := (HM.out.1.cell (p := ⟨b, o + j, none⟩) (Nat.lt_of_lt_of_le hbB HS.out.2)).trans hc
        have HX : Hid (l[j]? = some s ∧ s.size ≤ maxLen) := ⟨hs, hz⟩
        obtain ⟨i, hpi, hij, hiff⟩ := plc_first hs
        have HP : Hid (plc l s = some i ∧ (i = j ↔ s ∉ l.take j)) := ⟨hpi, hiff⟩
        have nc := Named_any s hz w1
        obtain ⟨d, HD⟩ : ∃ d, Hid (namedB s = d) := ⟨namedB s, (rfl : namedB s = namedB s)⟩
        rw [HD.out] at nc
        have NC : Hid (Calls Try.prog 29 #[.string s] w1 fun e w' => e = .returned (.bool d) ∧ w' = w1) := nc
        clear nc hs hz hc hpi hiff
        cases d
        · have H0 : Hid (wex l = 7) := HA.out.trans (by rw [wexFrom_at HX.out.1, if_pos HD.out])
          go_wp2_with fail
          refine NC.out.mono ?_
          rintro e w' ⟨rfl, rfl⟩
          go_wp2_with fail
          go_ret
          exact ⟨retI H0.out.symm, HM.out.1⟩
        · by_cases hij' : i = j
          · subst hij'
            have H0 : Hid (wex l = wexFrom (l.take (i + 1)) (l.drop (i + 1))) := HA.out.trans (by rw [wexFrom_at HX.out.1, if_neg (by rw [HD.out]; decide), if_neg (HP.out.2.1 rfl)])
            go_wp2_with fail
            refine NC.out.mono ?_
            rintro e w' ⟨rfl, rfl⟩
            go_wp2_with (at_lookup; refine wpList_look_at rfl _ _ rfl rfl HM.out.2 s rfl HX.out.2 i HP.out.1 ?_)
            go_round
            case rel => exact ⟨i + 1, by omega, by go_num, H0.out⟩
            case measure => simp [intOf]; omega
          · have hin : s ∈ l.take j := by
              apply Classical.byContradiction
              intro hn
              exact hij' (HP.out.2.2 hn)
            have H0 : Hid (wex l = 8) := HA.out.trans (by rw [wexFrom_at HX.out.1, if_neg (by rw [HD.out]; decide), if_pos hin])
            clear hin
            go_wp2_with fail
            refine NC.out.mono ?_
            rintro e w' ⟨rfl, rfl⟩
            go_wp2_with (at_lookup; refine wpList_look_at rfl _ _ rfl rfl HM.out.2 s rfl HX.out.2 i HP.out.1 ?_)
            go_ret
            exact ⟨retI H0.out.symm, HM.out.1⟩
      · obtain rfl : j = l.length := by omega
        have H0 : Hid (wex l = 0) := HA.out.trans (by rw [List.drop_length]; rfl)
        go_wp2_with fail
        go_ret
        exact ⟨retI H0.out.symm, HM.out.1⟩

set_option maxRecDepth 100000 in
set_option maxHeartbeats 800000 in
theorem Clone_any (s : ByteArray) (hs : s.size ≤ 281474976710656) (w : World) :
    Calls Try.prog 23 #[.string s] w fun e w' => e = .returned (.string s) ∧ Below w.heap.size w w' := by
  have CL : Hid (Calls Try.prog 44 #[.string s] w fun e w' => e = .returned (.string s) ∧ Below w.heap.size w w') := Try.stringslite_Clone s w hs
  go_enter Try.func23, Try.ntmps23
  go_wp2_with fail
  refine CL.out.mono ?_
  rintro e w' ⟨rfl, hb⟩
  have HB : Hid (Below w.heap.size w w') := hb
  clear hb
  go_wp2_with fail
  go_ret
  exact ⟨rfl, HB.out⟩
end Go.Proofs.Ytckiihbnjfeplaa
