/- The law TextBlank, walked. -/
import Derived.Test.YtagpcafbeplccaaDoorMb
namespace Go.Proofs.YtagpcafbeplccaaDoor
set_option linter.unusedVariables false
set_option linter.unusedSimpArgs false
open Go.RowKit

/-! A fault has a number. -/

theorem items_fault (g : Nat → Nat → Rd Dat) (l : List UInt8) (hg : ∀ i n x, g i n = .inl x → x.1 ≠ 0) : ∀ (k i n : Nat) (x : Int × Int), items g l k i n = .inl x → x.1 ≠ 0
  | 0, i, n, x, h => by
    simp [items] at h
    subst h
    simp
  | k + 1, i, n, x, h => by
    unfold items at h
    simp only at h
    generalize i + skipL (l.drop i) false = p at h
    cases hc : l[p]? with
    | none =>
      rw [hc] at h
      simp at h
      subst h
      simp
    | some c =>
      rw [hc] at h
      simp only at h
      by_cases h41 : c = 41
      · rw [if_pos h41] at h; simp at h
      · rw [if_neg h41] at h
        cases hgg : g p n with
        | inl e =>
          rw [hgg] at h
          simp at h
          subst h
          exact hg _ _ _ hgg
        | inr y =>
          obtain ⟨d, j1, m1⟩ := y
          rw [hgg] at h
          simp only at h
          cases hii : items g l k j1 m1 with
          | inl e =>
            rw [hii] at h
            simp at h
            subst h
            exact items_fault g l hg k _ _ _ hii
          | inr y =>
            obtain ⟨ds, j2, m2⟩ := y
            rw [hii] at h
            simp at h

theorem word_fault {w : List UInt8} {i n : Nat} {x : Int × Int} (h : wordAt w i n = .inl x) : x.1 ≠ 0 := by
  unfold wordAt at h
  split at h
  · split at h
    · simp at h; subst h; simp
    · split at h
      · simp at h
      · simp at h; subst h; simp
  · split at h
    · simp at h; subst h; simp
    · simp at h

theorem one_fault (l : List UInt8) : ∀ (f i n : Nat) (x : Int × Int), one l f i n = .inl x → x.1 ≠ 0
  | 0, i, n, x, h => by
    simp [one] at h
    subst h
    simp
  | f + 1, i, n, x, h => by
    unfold one at h
    split at h
    · simp at h; subst h; simp
    · split at h
      · simp at h; subst h; simp
      · split at h
        · cases hit : items (one l f) l (l.length + 1) (i + 1) (n + 1) with
          | inl e =>
            rw [hit] at h
            simp at h
            subst h
            exact items_fault _ l (one_fault l f) _ _ _ _ hit
          | inr y =>
            obtain ⟨ds, j, m⟩ := y
            rw [hit] at h
            simp at h
        · split at h
          · split at h
            · simp at h; subst h; simp
            · cases ho : one l f (i + 1 + skipL (l.drop (i + 1)) false) (n + 2) with
              | inl e =>
                rw [ho] at h
                simp at h
                subst h
                exact one_fault l f _ _ _ ho
              | inr y =>
                obtain ⟨d, j, m⟩ := y
                rw [ho] at h
                simp at h
          · split at h
            · split at h
              · simp at h
              · split at h
                · simp at h
                · simp at h; subst h; simp
            · split at h
              · exact word_fault h
              · simp at h; subst h; simp

theorem alls_fault (l : List UInt8) : ∀ (k i n : Nat) (x : Int × Int), alls l k i n = .inl x → x.1 ≠ 0
  | 0, i, n, x, h => by simp [alls] at h
  | k + 1, i, n, x, h => by
    unfold alls at h
    simp only at h
    generalize i + skipL (l.drop i) false = p at h
    split at h
    · simp at h
    · cases ho : one l 40 p n with
      | inl e =>
        rw [ho] at h
        simp at h
        subst h
        exact one_fault l _ _ _ _ ho
      | inr y =>
        obtain ⟨d, j, m⟩ := y
        rw [ho] at h
        simp only at h
        cases ha : alls l k j m with
        | inl e =>
          rw [ha] at h
          simp at h
          subst h
          exact alls_fault l k _ _ _ ha
        | inr y =>
          obtain ⟨ds, j', m'⟩ := y
          rw [ha] at h
          simp at h

theorem read_fault {l : List UInt8} {x : Int × Int} (h : readL l = .inl x) : x.1 ≠ 0 := by
  unfold readL at h
  split at h
  · simp at h; subst h; simp
  · cases ha : alls l (l.length + 1) 0 0 with
    | inl e =>
      rw [ha] at h
      simp at h
      subst h
      exact alls_fault l _ _ _ _ ha
    | inr y =>
      obtain ⟨ds, j', m'⟩ := y
      rw [ha] at h
      simp at h

set_option maxRecDepth 100000 in
set_option maxHeartbeats 1600000 in
theorem TextBlank_walk (B : Nat) (s note : ByteArray) (w : World) (hs : s.size ≤ 140737488351232) (hn : note.size ≤ 140737488351232) (hB : B ≤ w.heap.size) (ht : Tab B w) :
    Calls Tryd.prog 7 #[.string s, .string note] w (Yes w) := by
  have hcv := fun w s => run_bytes_of_string (P := Tryd.prog) w 9 37 5 s Tryd.underlying9 Tryd.underlying37 Tryd.underlying5
  have AL : Hid (∀ w', Below w.heap.size w w' → Calls Tryd.prog 17 #[] w' (Yes w')) := fun w' hb => alive_any B w' (Nat.le_trans hB hb.size) (ht.below (hb.mono hB))
  clear ht
  go_enter Tryd.func7, Tryd.ntmps7
  go_wp2_with fail
  refine (AL.out _ (Below.refl _ _)).mono ?_
  rintro e w1 ⟨rfl, h1⟩
  have HB1 : Hid (Below w.heap.size w w1) := h1
  have hz1 := h1.size
  clear h1 AL
  go_wp2_with fail
  go_loopw [16] (fun i wr => ∃ k : Nat, k ≤ note.size ∧ i = .int .i64 k ∧ Below w.heap.size w wr ∧ (∀ j, j < note.size → wr.cell? ⟨w1.heap.size, j, none⟩ = some (.int .u8 ((note.data.toList[j]?.getD 0).toNat : Int))) ∧ (∀ c, c ∈ note.data.toList.take k → c ≠ 10)) (fun i _ => note.size - (intOf i).toNat)
  case atStart =>
    refine ⟨0, by omega, rfl, (HB1.out.drew).alloc hz1 _, ?_, by simp⟩
    intro j hj
    refine (World.cell?_alloc_mark w1.drew _ 5 _ j).trans ?_
    exact bytesRow_at _ _ j hj
  case round =>
    obtain ⟨k, hk, rfl, hb, hc, hno⟩ := hrel
    have HN : Hid (∀ c, c ∈ note.data.toList.take k → c ≠ 10) := hno
    have HB : Hid (Below w.heap.size w wr) := hb
    have HC : Hid (∀ j, j < note.size → wr.cell? ⟨w1.heap.size, j, none⟩ = some (.int .u8 ((note.data.toList[j]?.getD 0).toNat : Int))) := hc
    have hnl : note.data.toList.length = note.size := Array.length_toList
    have HL : Hid (note.data.toList.length = note.size) := hnl
    have hzr := hb.size
    clear hnl hno hb hc HB1 hcv
    by_cases hlt : k < note.size
    · have hck := HC.out k hlt
      have HX : Hid (note.data.toList.take (k + 1) = note.data.toList.take k ++ [note.data.toList[k]?.getD 0]) := take_snoc' _ k (by rw [HL.out]; exact hlt)
      generalize note.data.toList[k]?.getD 0 = c at hck HX
      by_cases h10 : ((c.toNat : Int) == 10) = true
      · go_wp2_with fail
        go_ret
        exact ⟨rfl, HB.out⟩
      · have h10' : ((c.toNat : Int) == 10) = false := by simpa using h10
        clear h10
        go_wp2_with fail
        go_roundw
        case rel =>
          refine ⟨k + 1, by omega, by go_num, HB.out, HC.out, ?_⟩
          intro x hx
          rw [HX.out] at hx
          simp only [List.mem_append, List.mem_singleton] at hx
          rcases hx with hx | rfl
          · exact HN.out x hx
          · rintro rfl
            exact absurd h10' (by decide)
        case measure => simp [intOf]; omega
    · obtain rfl : k = note.size := by omega
      have HNO : Hid (∀ c, c ∈ note.data.toList → c ≠ 10) := by
        have := HN.out
        rw [List.take_of_length_le (by rw [HL.out]; exact Nat.le_refl _)] at this
        exact this
      clear HN HC
      have hmx : s.size ≤ maxLen := by unfold maxLen; omega
      cases hr : readL s.data.toList with
      | inl x =>
        have RN : Hid (∀ w, Calls Tryd.prog 8 #[.string s] w fun e w' => Below w.heap.size w w' ∧ e = .returned (.tuple #[.slice none 0 0, .agg #[.int .i64 x.1, .int .i64 x.2]])) := fun w => Read_no s w hmx x hr
        have hx0 : (x.1 != 0) = true := by simpa using read_fault hr
        obtain ⟨x1, x2⟩ := x
        simp only at hx0 RN
        clear hr hmx
        go_wp2_with fail
        refine (RN.out _).mono ?_
        rintro e w2 ⟨h2, rfl⟩
        have HB2 : Hid (Below w.heap.size w w2) := HB.out.trans (h2.mono hzr)
        have hz2 := h2.size
        clear h2 RN HB
        go_wp2_with fail
        go_ret
        exact ⟨rfl, HB2.out.alloc (by omega) _⟩
      | inr ds =>
        have RO : Hid (∀ w, Calls Tryd.prog 8 #[.string s] w fun e w' => Below w.heap.size w w' ∧ ∃ a cap f, e = .returned (.tuple #[.slice a ds.length cap, .agg #[.int .i64 0, .int .i64 0]]) ∧ Lies w'.heap.size w' f a ds) := fun w => Read_ok s w hmx ds hr
        have HR : Hid (readL s.data.toList = .inr ds) := hr
        clear hr hmx
        go_wp2_with fail
        refine (RO.out _).mono ?_
        rintro e w2 ⟨h2, a, cap, f, rfl, hl⟩
        have HB2 : Hid (Below w.heap.size w w2) := HB.out.trans (h2.mono hzr)
        have HL2 : Hid (Lies w2.heap.size w2 f a ds) := hl
        have hz2 := h2.size
        clear h2 RO HB hl
        by_cases hbig : s.size + 2 * note.size + 6 ≤ 6000
        · have RC : Hid (∀ w, Calls Tryd.prog 8 #[.string ({ data := #[59] } ++ note ++ { data := #[10, 32, 9] } ++ s ++ { data := #[10, 59] } ++ note)] w fun e w' => Below w.heap.size w w' ∧ ∃ a cap f, e = .returned (.tuple #[.slice a ds.length cap, .agg #[.int .i64 0, .int .i64 0]]) ∧ Lies w'.heap.size w' f a ds) := fun w => by
            refine Read_ok _ w ?_ ds ?_
            · unfold maxLen
              simp [ByteArray.size_append]
              show 1 + note.size + 3 + s.size + 2 + note.size ≤ _
              omega
            · have hsl : s.data.toList.length = s.size := Array.length_toList
              have := read_blank s.data.toList note.data.toList ds HR.out HNO.out (by rw [hsl, HL.out]; omega)
              rw [← this]
              simp [ByteArray.data_append]
          go_wp2_with fail
          refine (RC.out _).mono ?_
          rintro e w3 ⟨h3, a', cap', f', rfl, hl3⟩
          have hz3 : w2.heap.size + 1 ≤ w3.heap.size := by have := h3.size; simpa using this
          have SM : Hid (∀ w', Below w3.heap.size w3 w' → Calls Tryd.prog 10 #[.slice a ds.length cap, .slice a' ds.length cap'] w' (Yes w')) := fun w' hb' =>
            Same_any w3.heap.size f f' ds ds a a' cap cap' w' hb'.size ((Lies.mono (by omega) _ _ _ (HL2.out.below (((Below.refl _ _).alloc (Nat.le_refl _) _).trans (h3.mono (by simp))))).below hb') (hl3.below hb') (Alike.refl f a ds HL2.out)
          have HB3 : Hid (Below w.heap.size w w3) := (HB2.out.alloc (by omega) _).trans (h3.mono (by simp; omega))
          clear h3 RC HB2 hl3 HL2 HR HNO
          go_wp2_with fail
          refine (SM.out _ ((Below.refl _ _).alloc (Nat.le_refl _) _)).mono ?_
          rintro e w4 ⟨rfl, h4⟩
          have HB4 : Hid (Below w.heap.size w w4) := (HB3.out.alloc (by omega) _).trans (h4.mono (by simp; omega))
          clear h4 SM HB3
          go_wp2_with fail
          go_ret
          exact ⟨rfl, HB4.out⟩
        · go_wp2_with fail
          go_ret
          exact ⟨rfl, HB2.out.alloc (by omega) _⟩
end Go.Proofs.YtagpcafbeplccaaDoor
