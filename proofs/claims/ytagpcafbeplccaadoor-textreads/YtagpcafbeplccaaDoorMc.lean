/- What text.Read gives; faults. -/
import Derived.Test.YtagpcafbeplccaaDoorMa
import Derived.Test.YtagpcafbeplccaaDoorLo
import Derived.Test.YtagpcafbeplccaaDoorPa
namespace Go.Proofs.YtagpcafbeplccaaDoor
set_option linter.unusedVariables false
set_option linter.unusedSimpArgs false
open Go.RowKit

theorem let_not {c : UInt8} (h : letB (c.toNat : Int) = true) : c ≠ 40 ∧ c ≠ 39 ∧ c ≠ 35 ∧ c ≠ 59 ∧ c ≠ 41 ∧ isBlank c = false := by
  refine ⟨?_, ?_, ?_, ?_, ?_, ?_⟩
  · rintro rfl; exact absurd h (by decide)
  · rintro rfl; exact absurd h (by decide)
  · rintro rfl; exact absurd h (by decide)
  · rintro rfl; exact absurd h (by decide)
  · rintro rfl; exact absurd h (by decide)
  · cases hb : isBlank c with
    | false => rfl
    | true =>
      unfold isBlank at hb
      simp at hb
      rcases hb with (rfl | rfl) | rfl <;> exact absurd h (by decide)

/-- Any data are alike themselves. -/
theorem Alike.refl {B : Nat} {w : World} : ∀ (f : Nat) (a : Option Addr) (ds : List Dat), Lies B w f a ds → Alike f ds ds
  | 0, _, ds, h => ⟨h, h⟩
  | f + 1, a, ds, h => by
    refine ⟨rfl, fun i d e hd he => ?_⟩
    obtain rfl : d = e := Option.some.inj (hd.symm.trans he)
    refine ⟨rfl, fun _ => rfl, fun _ => ⟨rfl, rfl, rfl⟩, fun _ => ?_⟩
    rcases h.2 with h0 | ⟨b, o, _, _, hall⟩
    · rw [h0] at hd; simp at hd
    · obtain ⟨a', cap, _, _, _, _, _, _, _, hk⟩ := hall i d hd
      exact Alike.refl f a' d.kids hk

theorem Read_ok (s : ByteArray) (w : World) (hm : s.size ≤ maxLen) (ds : List Dat) (h : readL s.data.toList = .inr ds) :
    Calls Tryd.prog 8 #[.string s] w fun e w' => Below w.heap.size w w' ∧ ∃ a cap f, e = .returned (.tuple #[.slice a ds.length cap, .agg #[.int .i64 0, .int .i64 0]]) ∧ Lies w'.heap.size w' f a ds := by
  refine (Read_any s w hm).mono ?_
  rintro e w' ⟨hb, ho⟩
  rw [h] at ho
  obtain ⟨a, cap, f, he, hd⟩ := ho
  exact ⟨hb, a, cap, f, he, Dw.lies (fun k hk => hk.2) f a ds hd⟩

theorem Read_no (s : ByteArray) (w : World) (hm : s.size ≤ maxLen) (x : Int × Int) (h : readL s.data.toList = .inl x) :
    Calls Tryd.prog 8 #[.string s] w fun e w' => Below w.heap.size w w' ∧ e = .returned (.tuple #[.slice none 0 0, .agg #[.int .i64 x.1, .int .i64 x.2]]) := by
  refine (Read_any s w hm).mono ?_
  rintro e w' ⟨hb, ho⟩
  rw [h] at ho
  exact ⟨hb, ho⟩

/-! A fault has a number. -/

theorem items_fault (g : Nat → Nat → Rd Dat) (l : List UInt8) (hg : ∀ i n x, g i n = .inl x → x.1 ≠ 0) : ∀ (k i n : Nat) (x : Int × Int), items g l k i n = .inl x → x.1 ≠ 0
  | 0, i, n, x, h => by
    simp [items] at h
    subst h
    simp
  | k + 1, i, n, x, h => by
    unfold items at h
    simp only at h
    generalize i + skipL (l.drop i) false = p at h
    cases hc : l[p]? with
    | none =>
      rw [hc] at h
      simp at h
      subst h
      simp
    | some c =>
      rw [hc] at h
      simp only at h
      by_cases h41 : c = 41
      · rw [if_pos h41] at h; simp at h
      · rw [if_neg h41] at h
        cases hgg : g p n with
        | inl e =>
          rw [hgg] at h
          simp at h
          subst h
          exact hg _ _ _ hgg
        | inr y =>
          obtain ⟨d, j1, m1⟩ := y
          rw [hgg] at h
          simp only at h
          cases hii : items g l k j1 m1 with
          | inl e =>
            rw [hii] at h
            simp at h
            subst h
            exact items_fault g l hg k _ _ _ hii
          | inr y =>
            obtain ⟨ds, j2, m2⟩ := y
            rw [hii] at h
            simp at h

theorem word_fault {w : List UInt8} {i n : Nat} {x : Int × Int} (h : wordAt w i n = .inl x) : x.1 ≠ 0 := by
  unfold wordAt at h
  split at h
  · split at h
    · simp at h; subst h; simp
    · split at h
      · simp at h
      · simp at h; subst h; simp
  · split at h
    · simp at h; subst h; simp
    · simp at h

theorem one_fault (l : List UInt8) : ∀ (f i n : Nat) (x : Int × Int), one l f i n = .inl x → x.1 ≠ 0
  | 0, i, n, x, h => by
    simp [one] at h
    subst h
    simp
  | f + 1, i, n, x, h => by
    unfold one at h
    split at h
    · simp at h; subst h; simp
    · split at h
      · simp at h; subst h; simp
      · split at h
        · cases hit : items (one l f) l (l.length + 1) (i + 1) (n + 1) with
          | inl e =>
            rw [hit] at h
            simp at h
            subst h
            exact items_fault _ l (one_fault l f) _ _ _ _ hit
          | inr y =>
            obtain ⟨ds, j, m⟩ := y
            rw [hit] at h
            simp at h
        · split at h
          · split at h
            · simp at h; subst h; simp
            · cases ho : one l f (i + 1 + skipL (l.drop (i + 1)) false) (n + 2) with
              | inl e =>
                rw [ho] at h
                simp at h
                subst h
                exact one_fault l f _ _ _ ho
              | inr y =>
                obtain ⟨d, j, m⟩ := y
                rw [ho] at h
                simp at h
          · split at h
            · split at h
              · simp at h
              · split at h
                · simp at h
                · simp at h; subst h; simp
            · split at h
              · exact word_fault h
              · simp at h; subst h; simp

theorem alls_fault (l : List UInt8) : ∀ (k i n : Nat) (x : Int × Int), alls l k i n = .inl x → x.1 ≠ 0
  | 0, i, n, x, h => by simp [alls] at h
  | k + 1, i, n, x, h => by
    unfold alls at h
    simp only at h
    generalize i + skipL (l.drop i) false = p at h
    split at h
    · simp at h
    · cases ho : one l 40 p n with
      | inl e =>
        rw [ho] at h
        simp at h
        subst h
        exact one_fault l _ _ _ _ ho
      | inr y =>
        obtain ⟨d, j, m⟩ := y
        rw [ho] at h
        simp only at h
        cases ha : alls l k j m with
        | inl e =>
          rw [ha] at h
          simp at h
          subst h
          exact alls_fault l k _ _ _ ha
        | inr y =>
          obtain ⟨ds, j', m'⟩ := y
          rw [ha] at h
          simp at h

theorem read_fault {l : List UInt8} {x : Int × Int} (h : readL l = .inl x) : x.1 ≠ 0 := by
  unfold readL at h
  split at h
  · simp at h; subst h; simp
  · cases ha : alls l (l.length + 1) 0 0 with
    | inl e =>
      rw [ha] at h
      simp at h
      subst h
      exact alls_fault l _ _ _ _ ha
    | inr y =>
      obtain ⟨ds, j', m'⟩ := y
      rw [ha] at h
      simp at h

end Go.Proofs.YtagpcafbeplccaaDoor
