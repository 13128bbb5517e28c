/- Chapter 3, the document's side: whether libraries are the same: some answer, whatever they are. -/
import Derived.Test.YtonafbennobgdaaGreatDoorK39
namespace Go.Proofs.YtonafbennobgdaaGreatDoor
set_option linter.unusedVariables false
set_option linter.unusedSimpArgs false
open Go.RowKit

def MayB (w : World) (e : Ending) (w' : World) : Prop := (∃ b, e = .returned (.bool b)) ∧ Below w.heap.size w w'
theorem YesB.may {w : World} {e : Ending} {w' : World} (h : YesB w e w') : MayB w e w' := ⟨⟨_, h.1⟩, h.2⟩
theorem PrM.lookP {ok : Nat → Prop} {l : List (ByteArray × ByteArray)} {a : Option Addr} {n c : Nat} {w : World} (h : PrM ok l (.slice a n c) w) {j : Nat} {q : ByteArray × ByteArray} (hq : l[j]? = some q) : ∃ b o, a = some ⟨b, o, none⟩ ∧ w.cell? ⟨b, o + j * 2, none⟩ = some (.string q.1) ∧ w.cell? ⟨b, o + j * 2 + 1, none⟩ = some (.string q.2) := by
  obtain ⟨a', c', h1, _, h3⟩ := h
  simp at h1
  obtain ⟨rfl, _, rfl⟩ := h1
  rcases h3 with h0 | ⟨b, o, e1, e2, e3⟩
  · rw [h0] at hq; simp at hq
  · exact ⟨b, o, e1, e3 j q hq⟩
set_option maxRecDepth 100000 in
set_option maxHeartbeats 6400000 in
theorem mayPr_any (B : Nat) (l l' : List (ByteArray × ByteArray)) (v1 v2 : Value) (w : World) (hB : B ≤ w.heap.size) (h1 : PrM (fun k => k < B) l v1 w) (h2 : PrM (fun k => k < B) l' v2 w) (hn : l.length ≤ 100000) (hn' : l'.length ≤ 100000) :
    Calls Tryz.prog 37 #[v1, v2] w (MayB w) := by
  obtain ⟨a1, c1, rfl, _⟩ := id h1
  obtain ⟨a2, c2, rfl, _⟩ := id h2
  have HS : Hid (∀ W, Below w.heap.size w W → PrM (fun k => k < B) l (.slice a1 l.length c1) W ∧ PrM (fun k => k < B) l' (.slice a2 l'.length c2) W) := fun W hb => ⟨h1.stay (fun k hk => hb.block k (Nat.lt_of_lt_of_le hk hB)) (fun _ h => h), h2.stay (fun k hk => hb.block k (Nat.lt_of_lt_of_le hk hB)) (fun _ h => h)⟩
  have HL : Hid (∀ j, j < l.length → ∃ d, l[j]? = some d) := fun j hj => ⟨_, List.getElem?_eq_getElem hj⟩
  have HL2 : Hid (∀ j, j < l'.length → ∃ d, l'[j]? = some d) := fun j hj => ⟨_, List.getElem?_eq_getElem hj⟩
  generalize l.length = n at *
  generalize l'.length = n2 at *
  clear h1 h2 hB
  by_cases hne : ¬ n = n2
  · have g1 : decide ((n : Int) = (n2 : Int)) = false := by simp; omega
    have g2 : ((n : Int) == (n2 : Int)) = false := by simp; omega
    have g3 : ((n : Int) != (n2 : Int)) = true := by simp; omega
    have g4 : ¬ (n : Int) = (n2 : Int) := by omega
    go_enter Tryz.func37, Tryz.ntmps37
    go_wp2_with fail
    go_ret
    exact ⟨⟨_, rfl⟩, Below.refl _ _⟩
  obtain rfl : n = n2 := Classical.not_not.1 hne
  clear hne
  go_enter Tryz.func37, Tryz.ntmps37
  go_wp2_with fail
  go_loopw [5, 13] (fun _ ix wr => ∃ (j : Nat), j ≤ n ∧ ix = .int .i64 j ∧ Hid (Below w.heap.size w wr)) (fun _ ix _ => n - (intOf ix).toNat)
  case atStart => exact ⟨0, Nat.zero_le _, rfl, Below.refl _ _⟩
  case round =>
    obtain ⟨j, hj, rfl, HI⟩ := hrel
    by_cases hlt : j < n
    · obtain ⟨⟨q1, q2⟩, hp⟩ := HL.out j hlt
      obtain ⟨⟨r1, r2⟩, hp'⟩ := HL2.out j hlt
      obtain ⟨s1, s2⟩ := HS.out wr HI.out
      obtain ⟨b, o, rfl, x0, x1⟩ := s1.lookP hp
      obtain ⟨b', o', rfl, y0, y1⟩ := s2.lookP hp'
      have i1 : (0 : Int) ≤ (j : Int) := by omega
      have i2 : (j : Int) < (n : Int) := by omega
      simp only at x0 x1 y0 y1
      clear hp hp' HS HL HL2 s1 s2
      by_cases d1 : q1.toList = r1.toList
      · by_cases d2 : q2.toList = r2.toList
        · have e1 : (q1.toList == r1.toList) = true := by simpa using d1
          have e2 : (q2.toList == r2.toList) = true := by simpa using d2
          have HD := hidd (And.intro d1 d2)
          clear d1 d2
          go_wp2_with fail
          go_quiet (fail)
          have HI2 : ∀ m, Below w.heap.size w (wr.drewN m) := fun m => below_drewN HI.out m
          go_wp2_with fail
          go_roundw
          case rel => exact ⟨j + 1, hlt, by go_num, HI2 _⟩
          case measure => simp [intOf]; omega
        · have e1 : (q1.toList == r1.toList) = true := by simpa using d1
          have e2 : (q2.toList == r2.toList) = false := by simpa using d2
          have HD := hidd (And.intro d1 d2)
          clear d1 d2
          go_wp2_with fail
          go_quiet (fail)
          have HI2 : ∀ m, Below w.heap.size w (wr.drewN m) := fun m => below_drewN HI.out m
          go_wp2_with fail
          go_ret
          exact ⟨⟨_, rfl⟩, HI2 _⟩
      · have e1 : (q1.toList == r1.toList) = false := by simpa using d1
        have HD := hidd d1
        clear d1
        go_wp2_with fail
        go_quiet (fail)
        have HI2 : ∀ m, Below w.heap.size w (wr.drewN m) := fun m => below_drewN HI.out m
        go_wp2_with fail
        go_ret
        exact ⟨⟨_, rfl⟩, HI2 _⟩
    · obtain rfl : j = n := by omega
      go_wp2_with fail
      go_ret
      exact ⟨⟨_, rfl⟩, HI.out⟩
end Go.Proofs.YtonafbennobgdaaGreatDoor
