/- The document's own answer: Has, place, Lib. -/
import Derived.Test.YtckiihbnjfeplaaFa
import Derived.Test.YtckiihbnjfeplaaSb
import Derived.Test.YtckiihbnjfeplaaWc
namespace Go.Proofs.Ytckiihbnjfeplaa
set_option linter.unusedVariables false
set_option linter.unusedSimpArgs false
open Go.RowKit

theorem Prs.at' {B : Nat} {w : World} {a : Option Addr} {ps : List Pr} (h : Prs B w a ps) {j : Nat} (hj : j < ps.length) :
    ∃ b o p, a = some ⟨b, o, none⟩ ∧ b < B ∧ ps[j]? = some p ∧ w.cell? ⟨b, o + j * 2, none⟩ = some (.string p.1) ∧ w.cell? ⟨b, o + j * 2 + 1, none⟩ = some (.string p.2) := by
  obtain ⟨_, h⟩ := h
  rcases h with h | ⟨b, o, ha, hb, h⟩
  · subst h; simp at hj
  · obtain ⟨c0, c1⟩ := h j _ (List.getElem?_eq_getElem hj)
    exact ⟨b, o, ps[j], ha, hb, List.getElem?_eq_getElem hj, c0, c1⟩
theorem beqS_true {a b : ByteArray} (h : (a.toList == b.toList) = true) : a = b := by
  rw [ByteArray.toList_eq, ByteArray.toList_eq] at h
  exact ba_eq (by simpa using h)
theorem beqS_false {a b : ByteArray} (h : (a.toList == b.toList) = false) : a ≠ b := by
  intro e
  subst e
  simp at h
theorem beqS_self (a : ByteArray) : (a.toList == a.toList) = true := by simp

set_option maxRecDepth 100000 in
set_option maxHeartbeats 1600000 in
theorem Has_any (B : Nat) (ps : List Pr) (c : Option Addr) (cc : Nat) (t : ByteArray) (w : World) (h : Prs B w c ps) (hB : B ≤ w.heap.size) :
    Calls Try.prog 20 #[.slice c ps.length cc, .string t] w fun e w' => e = .returned (.bool (decide (t ∈ ps.map (·.1)))) ∧ Below w.heap.size w w' := by
  have hl := h.1
  have HP : Hid (Prs B w c ps ∧ B ≤ w.heap.size) := ⟨h, hB⟩
  clear h hB
  go_enter Try.func20, Try.ntmps20
  go_wp2_with fail
  go_loopw [9] (fun i wr => ∃ j : Nat, j ≤ ps.length ∧ i = .int .i64 j ∧ Hid (t ∉ (ps.take j).map (·.1)) ∧ Below w.heap.size w wr) (fun i _ => ps.length - (intOf i).toNat)
  case atStart => exact ⟨0, Nat.zero_le _, rfl, by show t ∉ _; simp, Below.refl _ _⟩
  case round =>
    obtain ⟨j, hj, rfl, HN, hb⟩ := hrel
    have HBL : Hid (Below w.heap.size w wr) := hb
    by_cases hlt : j < ps.length
    · obtain ⟨b, o, p, rfl, hbB, hs, hc0, hc1⟩ := (Prs.at' HP.out.1) hlt
      have k0 := (hb.cell (p := ⟨b, o + j * 2, none⟩) (Nat.lt_of_lt_of_le hbB HP.out.2)).trans hc0
      have k1 := (hb.cell (p := ⟨b, o + j * 2 + 1, none⟩) (Nat.lt_of_lt_of_le hbB HP.out.2)).trans hc1
      obtain ⟨p1, p2⟩ := p
      have HX : Hid (ps[j]? = some (p1, p2)) := hs
      simp only at k0 k1
      clear hc0 hc1 hs hb
      cases he : (p1.toList == t.toList) with
      | true =>
        have HE : Hid (p1 = t) := beqS_true he
        go_wp2_with fail
        go_ret
        refine ⟨retB ?_, HBL.out.alloc HBL.out.size _⟩
        have hm : t ∈ ps.map (·.1) := by
          rw [← HE.out]
          exact List.mem_map_of_mem (f := fun x : Pr => x.1) (List.mem_of_getElem? HX.out)
        exact (decide_eq_true hm).symm
      | false =>
        have HE : Hid (p1 ≠ t) := beqS_false he
        go_wp2_with fail
        go_roundw
        case rel =>
          refine ⟨j + 1, by omega, by go_num, ?_, HBL.out.alloc HBL.out.size _⟩
          show t ∉ _
          rw [take_put HX.out, List.map_append, List.mem_append]
          rintro (h | h)
          · exact HN.out h
          · simp at h
            exact HE.out h.symm
        case measure => simp [intOf]; omega
    · obtain rfl : j = ps.length := by omega
      clear hb
      go_wp2_with fail
      go_ret
      refine ⟨retB ?_, HBL.out⟩
      have := HN.out
      rw [List.take_length] at this
      simpa using this

/-- The place of a text, or -1. -/
def plI (l : List ByteArray) (s : ByteArray) : Int := match plc l s with | some i => (i : Int) | none => -1

set_option maxRecDepth 100000 in
set_option maxHeartbeats 1600000 in
theorem place_any (B : Nat) (l : List ByteArray) (a : Option Addr) (c : Nat) (t : ByteArray) (w : World) (h : Strs B w a l) (hB : B ≤ w.heap.size) :
    Calls Try.prog 43 #[.slice a l.length c, .string t] w fun e w' => e = .returned (.int .i64 (plI l t)) ∧ w' = w := by
  have hl := h.1
  have HP : Hid (Strs B w a l) := h
  clear h hB
  go_enter Try.func43, Try.ntmps43
  go_wp2_with fail
  go_loop [9] (fun i => ∃ j : Nat, j ≤ l.length ∧ i = .int .i64 j ∧ Hid (plc (l.take j) t = none)) (fun i => l.length - (intOf i).toNat)
  case atStart => exact ⟨0, Nat.zero_le _, rfl, (rfl : plc [] t = none)⟩
  case round =>
    obtain ⟨j, hj, rfl, HN⟩ := hrel
    by_cases hlt : j < l.length
    · obtain ⟨b, o, s, rfl, hbB, hs, hc0, hz⟩ := HP.out.at hlt
      have HX : Hid (l[j]? = some s) := hs
      clear hs
      cases he : (s.toList == t.toList) with
      | true =>
        have HE : Hid (plI l t = j) := by
          have e := beqS_true he
          subst e
          show plI l s = j
          have h1 := plc_step_new HX.out HN.out s
          rw [if_pos rfl] at h1
          have h2 : plc l s = some j := by
            have : l = l.take (j + 1) ++ l.drop (j + 1) := (List.take_append_drop _ _).symm
            rw [this]
            unfold plc at h1 ⊢
            rw [List.findIdx?_append, h1]
            rfl
          unfold plI
          rw [h2]
        go_wp2_with fail
        go_ret
        exact ⟨by rw [HE.out]; rfl, rfl⟩
      | false =>
        have HE : Hid (plc (l.take (j + 1)) t = none) := by
          have e := beqS_false he
          show plc (l.take (j + 1)) t = none
          rw [take_put HX.out, plc_snoc, HN.out]
          simp only
          rw [if_neg (fun q : t = s => e q.symm)]
        go_wp2_with fail
        go_round
        case rel => exact ⟨j + 1, by omega, by go_num, HE.out⟩
        case measure => simp [intOf]; omega
    · obtain rfl : j = l.length := by omega
      have HE : Hid (plI l t = -1) := by
        have := HN.out
        rw [List.take_length] at this
        show plI l t = -1
        unfold plI
        rw [this]
      go_wp2_with fail
      go_ret
      exact ⟨by rw [HE.out]; rfl, rfl⟩

/-- The library's name, all the way down. -/
def libS : St → ByteArray
  | .last l => l.name
  | .more l _ k => if l.kind = 1 then l.name else libS k

set_option maxRecDepth 100000 in
set_option maxHeartbeats 1600000 in
theorem refLib_end (l : Ly) (a0 a1 a2 : Option Addr) (c0 c1 c2 n : Nat) (h : l.kind = 1 ∨ n = 0) (w : World) :
    Calls Try.prog 8 #[setA l a0 a1 a2 c0 c1 c2 n] w fun e w' => e = .returned (.string l.name) ∧ Below w.heap.size w w' := by
  unfold setA
  generalize l.kind = kd at *
  by_cases hk : kd = 1
  · subst hk
    go_enter Try.func8, Try.ntmps8
    go_wp2_with fail
    go_ret
    exact ⟨rfl, (Below.refl _ _).alloc (Nat.le_refl _) _⟩
  · obtain rfl : n = 0 := by
      rcases h with q | q
      · exact absurd q hk
      · exact q
    go_enter Try.func8, Try.ntmps8
    go_wp2_with fail
    go_ret
    exact ⟨rfl, (Below.refl _ _).alloc (Nat.le_refl _) _⟩
end Go.Proofs.Ytckiihbnjfeplaa
