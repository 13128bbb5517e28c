/- A reader's words. -/
import Derived.Test.YtagpcafbeplccaaDoorLb
import Derived.Test.YtagpcafbeplccaaDoorShelfB
import Derived.Lib.AtoiErrMem
namespace Go.Proofs.YtagpcafbeplccaaDoor
set_option linter.unusedVariables false
set_option linter.unusedSimpArgs false
set_option linter.unnecessarySimpa false
open Go.RowKit

/-- Data ds lie behind a, in blocks that are such. -/
def Dw (ok : Nat → Prop) (w : World) : Nat → Option Addr → List Dat → Prop
  | 0, _, ds => ds = []
  | f + 1, a, ds => ds.length ≤ 9223372036854775807 ∧ (ds = [] ∨ ∃ b o, a = some ⟨b, o, none⟩ ∧ ok b ∧ ∀ (i : Nat) (d : Dat), ds[i]? = some d → ∃ a' cap,
      w.cell? ⟨b, o + i * 6, none⟩ = some (.int .i64 d.kind) ∧ w.cell? ⟨b, o + i * 6 + 1, none⟩ = some (.int .i64 d.n) ∧ w.cell? ⟨b, o + i * 6 + 2, none⟩ = some (.string d.name) ∧
      w.cell? ⟨b, o + i * 6 + 3, none⟩ = some (.int .i64 d.stamp) ∧ w.cell? ⟨b, o + i * 6 + 4, none⟩ = some (.int .i64 d.lib) ∧ w.cell? ⟨b, o + i * 6 + 5, none⟩ = some (.slice a' d.kids.length cap) ∧
      d.name.size ≤ maxLen ∧ Dw ok w f a' d.kids)

theorem Dw.stay {ok ok' : Nat → Prop} {w w' : World} (hw : ∀ k, ok k → w'.heap[k]? = w.heap[k]?) (ho : ∀ k, ok k → ok' k) : ∀ (f : Nat) (a : Option Addr) (ds : List Dat), Dw ok w f a ds → Dw ok' w' f a ds
  | 0, _, _, h => h
  | f + 1, a, ds, h => by
    obtain ⟨hl, h⟩ := h
    refine ⟨hl, ?_⟩
    rcases h with h | ⟨b, o, ha, hb, h⟩
    · exact Or.inl h
    · refine Or.inr ⟨b, o, ha, ho b hb, fun i d hd => ?_⟩
      obtain ⟨a', cap, c0, c1, c2, c3, c4, c5, hn, hk⟩ := h i d hd
      have e : ∀ q, w'.cell? ⟨b, q, none⟩ = w.cell? ⟨b, q, none⟩ := fun q => World.cell?_of_block (hw b hb)
      exact ⟨a', cap, (e _).trans c0, (e _).trans c1, (e _).trans c2, (e _).trans c3, (e _).trans c4, (e _).trans c5, hn, Dw.stay hw ho f a' _ hk⟩

theorem Dw.nil (ok : Nat → Prop) (w : World) (f : Nat) (a : Option Addr) : Dw ok w f a [] := by
  cases f with
  | zero => rfl
  | succ f => exact ⟨Nat.zero_le _, Or.inl rfl⟩

theorem Dw.more {ok : Nat → Prop} {w : World} : ∀ (f : Nat) (a : Option Addr) (ds : List Dat), Dw ok w f a ds → Dw ok w (f + 1) a ds
  | 0, a, ds, h => by
    rw [show ds = [] from h]
    exact Dw.nil _ _ _ _
  | f + 1, a, ds, h => by
    obtain ⟨hl, h⟩ := h
    refine ⟨hl, ?_⟩
    rcases h with h | ⟨b, o, ha, hb, h⟩
    · exact Or.inl h
    · refine Or.inr ⟨b, o, ha, hb, fun i d hd => ?_⟩
      obtain ⟨a', cap, c0, c1, c2, c3, c4, c5, hn, hk⟩ := h i d hd
      exact ⟨a', cap, c0, c1, c2, c3, c4, c5, hn, Dw.more f a' _ hk⟩

theorem Dw.upto {ok : Nat → Prop} {w : World} {f : Nat} {a : Option Addr} {ds : List Dat} (h : Dw ok w f a ds) : ∀ (k : Nat), Dw ok w (f + k) a ds
  | 0 => h
  | k + 1 => Dw.more _ _ _ (h.upto k)

theorem Dw.lies {ok : Nat → Prop} {B : Nat} {w : World} (ho : ∀ k, ok k → k < B) : ∀ (f : Nat) (a : Option Addr) (ds : List Dat), Dw ok w f a ds → Lies B w f a ds
  | 0, _, _, h => h
  | f + 1, a, ds, h => by
    obtain ⟨hl, h⟩ := h
    refine ⟨hl, ?_⟩
    rcases h with h | ⟨b, o, ha, hb, h⟩
    · exact Or.inl h
    · refine Or.inr ⟨b, o, ha, ho b hb, fun i d hd => ?_⟩
      obtain ⟨a', cap, c0, c1, c2, c3, c4, c5, hn, hk⟩ := h i d hd
      exact ⟨a', cap, c0, c1, c2, c3, c4, c5, hn, Dw.lies ho f a' _ hk⟩

/-- New blocks. -/
def New (w w' : World) (b : Nat) : Prop := w.heap.size ≤ b ∧ b < w'.heap.size

/-- What a reading of a datum leaves. -/
def Out (rb : Nat) (s : ByteArray) (r : Rd Dat) (w : World) (e : Ending) (w' : World) : Prop :=
  match r with
  | .inl x => e = .panicked (thrown x) ∧ Keep rb w w'
  | .inr (d, j, m) => Keep rb w w' ∧ Rdr rb s j m w' ∧ ∃ a cap f, e = .returned (dv d a cap) ∧ Dw (New w w') w' f a d.kids

/-! Numbers. -/

theorem parseM_ok : ∀ (r : List UInt8) (acc j : Nat), acc < 10 ^ j → j + r.length ≤ 17 → allDig r = true → Lib.parseUintM (2 ^ 64 - 1) acc r = .ok (r.foldl (fun n c => 10 * n + (c.toNat - 48)) acc) ∧ r.foldl (fun n c => 10 * n + (c.toNat - 48)) acc < 10 ^ (j + r.length)
  | [], acc, j, ha, hj, _ => ⟨rfl, by simpa using ha⟩
  | c :: r, acc, j, ha, hj, hd => by
    have hd' : digB (c.toNat : Int) = true ∧ allDig r = true := by simpa [allDig] using hd
    have hc : 48 ≤ c.toNat ∧ c.toNat ≤ 57 := by
      have := hd'.1
      unfold digB at this
      simp at this
      omega
    simp only [List.length_cons] at hj
    have hp : 10 ^ j ≤ 10 ^ 16 := Nat.pow_le_pow_right (by decide) (by omega)
    have hp1 : 10 ^ (j + 1) = 10 * 10 ^ j := by rw [Nat.pow_succ]; omega
    have hp16 : (10 : Nat) ^ 16 = 10000000000000000 := by decide
    have ha' : acc * 10 + (c.toNat - 48) < 10 ^ (j + 1) := by omega
    have ih := parseM_ok r (acc * 10 + (c.toNat - 48)) (j + 1) ha' (by omega) hd'.2
    have e : 10 * acc + (c.toNat - 48) = acc * 10 + (c.toNat - 48) := by omega
    unfold Lib.parseUintM
    rw [if_pos hc, if_neg (by omega), if_neg (by omega), List.foldl_cons, e]
    refine ⟨ih.1, ?_⟩
    have := ih.2
    rw [List.length_cons, show j + (r.length + 1) = j + 1 + r.length from by omega]
    exact this

theorem parse_num (l : List UInt8) (hl : looksB l = true) (h17 : l.length ≤ 17) : Lib.parseIntB 64 l = .ok (numOf l) := by
  unfold looksB at hl
  simp at hl
  obtain ⟨hd, hne⟩ := hl
  have p17 : (10 : Nat) ^ 17 < 2 ^ 63 := by decide
  cases l with
  | nil => exact (hne (by simp [unsign])).elim
  | cons c r =>
    by_cases h45 : c = 45
    · subst h45
      have hu : unsign (45 :: r) = r := by simp [unsign]
      rw [hu] at hd hne
      have hlen : r.length ≤ 17 := by simp at h17; omega
      obtain ⟨h1, h2⟩ := parseM_ok r 0 0 (by decide) (by omega) hd
      have h3 : r.foldl (fun n c => 10 * n + (c.toNat - 48)) 0 < 10 ^ 17 := Nat.lt_of_lt_of_le h2 (Nat.pow_le_pow_right (by decide) (by omega))
      have e1 : (45 : UInt8).toNat = 45 := rfl
      unfold Lib.parseIntB
      simp only [e1, or_true, if_true, not_true, false_and, if_false, true_and]
      unfold Lib.parseUintB
      rw [if_neg (by simpa using hne), h1]
      simp only
      rw [if_neg (by omega)]
      simp [numOf, digN]
    · have hu : unsign (c :: r) = c :: r := by simp [unsign, h45]
      rw [hu] at hd hne
      obtain ⟨h1, h2⟩ := parseM_ok (c :: r) 0 0 (by decide) (by omega) hd
      have h3 : (c :: r).foldl (fun n c => 10 * n + (c.toNat - 48)) 0 < 10 ^ 17 := Nat.lt_of_lt_of_le h2 (Nat.pow_le_pow_right (by decide) (by omega))
      have hc : 48 ≤ c.toNat ∧ c.toNat ≤ 57 := by
        have : digB (c.toNat : Int) = true := by
          have h4 : digB (c.toNat : Int) = true ∧ allDig r = true := by simpa [allDig] using hd
          exact h4.1
        unfold digB at this
        simp at this
        omega
      unfold Lib.parseIntB
      simp only
      rw [if_neg (by omega)]
      unfold Lib.parseUintB
      rw [if_neg (by simp), h1]
      simp only
      rw [if_neg (by omega), if_neg (by omega), if_neg (by omega)]
      simp [numOf, digN, h45]

end Go.Proofs.YtagpcafbeplccaaDoor
