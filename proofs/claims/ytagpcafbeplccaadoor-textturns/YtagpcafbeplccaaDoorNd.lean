/- The law TextTurns, walked. -/
import Derived.Test.YtagpcafbeplccaaDoorNa
namespace Go.Proofs.YtagpcafbeplccaaDoor
set_option linter.unusedVariables false
set_option linter.unusedSimpArgs false
open Go.RowKit

theorem field_fault (x y : Int) (w : World) : (Instr.field 25 (.agg #[.int .i64 x, .int .i64 y]) 0).run Tryd.prog w = .ok (.int .i64 x) w := by
  simp [Instr.field, run_underlying Tryd.underlying25, go_sem, asAgg]

theorem bytes_eta (s : ByteArray) : (⟨s.data.toList.toArray⟩ : ByteArray) = s := by
  obtain ⟨⟨l⟩⟩ := s
  rfl

theorem alone_zero {d : Dat} (h : alone d = 0) (hk : d.kind = 3) : d.stamp = 0 ∧ d.lib = 0 := by
  rw [alone_sym hk] at h
  unfold symErr at h
  by_cases a : d.stamp = 0 ∧ d.lib = 0
  · exact a
  · rw [if_neg a] at h
    split at h <;> simp at h

/-- Right data are alike what is read of them. -/
theorem Alike.bare {B : Nat} {w : World} : ∀ (f k : Nat) (a : Option Addr) (ds : List Dat), Lies B w f a ds → (∀ d, d ∈ ds → ∃ n, n ≤ 2000 ∧ (chk k d n).1 = 0) → Alike f ds (ds.map (bare k))
  | 0, k, a, ds, h, _ => by
    rw [show ds = [] from h]
    exact ⟨rfl, rfl⟩
  | f + 1, k, a, ds, h, hc => by
    refine ⟨by simp, fun i d e hd he => ?_⟩
    rw [List.getElem?_map, hd] at he
    simp at he
    subst he
    obtain ⟨n, hn, h0⟩ := hc d (List.mem_of_getElem? hd)
    cases k with
    | zero => simp [chk] at h0
    | succ k =>
      obtain ⟨h1, h2, h3, h4⟩ := chk_parts h0
      rcases alone_kind h2 with kk | kk | kk | kk
      · have e : Go.Proofs.YtagpcafbeplccaaDoor.bare (k + 1) d = datNum d.n := by
          show (if d.kind = 1 then datNum d.n else _) = _
          rw [if_pos kk]
        rw [e]
        exact ⟨kk, fun _ => rfl, fun x => by omega, fun x => by omega⟩
      · have e : Go.Proofs.YtagpcafbeplccaaDoor.bare (k + 1) d = datBool d.n := by
          show (if d.kind = 1 then datNum d.n else if d.kind = 2 then datBool d.n else _) = _
          rw [if_neg (by omega), if_pos kk]
        rw [e]
        exact ⟨kk, fun _ => rfl, fun x => by omega, fun x => by omega⟩
      · have e : Go.Proofs.YtagpcafbeplccaaDoor.bare (k + 1) d = datSym d.name.data.toList := by
          show (if d.kind = 1 then datNum d.n else if d.kind = 2 then datBool d.n else if d.kind = 3 then datSym d.name.data.toList else _) = _
          rw [if_neg (by omega), if_neg (by omega), if_pos kk]
        rw [e]
        obtain ⟨s0, l0⟩ := alone_zero h2 kk
        exact ⟨kk, fun x => by omega, fun _ => ⟨(bytes_eta d.name).symm, s0, l0⟩, fun x => by omega⟩
      · have e : Go.Proofs.YtagpcafbeplccaaDoor.bare (k + 1) d = datList (d.kids.map (Go.Proofs.YtagpcafbeplccaaDoor.bare k)) := by
          show (if d.kind = 1 then datNum d.n else if d.kind = 2 then datBool d.n else if d.kind = 3 then datSym d.name.data.toList else _) = _
          rw [if_neg (by omega), if_neg (by omega), if_neg (by omega)]
        rw [e]
        refine ⟨kk, fun x => by omega, fun x => by omega, fun _ => ?_⟩
        rcases h.2 with h5 | ⟨b, o, _, _, hall⟩
        · rw [h5] at hd; simp at hd
        · obtain ⟨a', cap, _, _, _, _, _, _, _, hk⟩ := hall i d hd
          exact Alike.bare f k a' d.kids hk (chkL_kid _ (chk_le k) d.kids (n + 1) (by omega) (h3 kk))

theorem right_each {ds : List Dat} (h : (wrong ds).1 = 0) : ∀ d, d ∈ ds → ∃ m, m ≤ 2000 ∧ (chk 40 d m).1 = 0 := (wrongFrom_each ds 0 0 (by omega) h).1

/-- What is printed is read again. -/
theorem Read_printed (ds : List Dat) (w : World) (h : (wrong ds).1 = 0) (h2 : ¬ 6000 < (printed ds).length) :
    Calls Tryd.prog 8 #[.string ⟨(printed ds).toArray⟩] w fun e w' => Below w.heap.size w w' ∧ ∃ a cap f, e = .returned (.tuple #[.slice a ds.length cap, .agg #[.int .i64 0, .int .i64 0]]) ∧ Dw (New w w') w' f a (ds.map (bare 40)) := by
  refine (Read_any ⟨(printed ds).toArray⟩ w (by show (printed ds).toArray.size ≤ maxLen; unfold maxLen; simp; omega)).mono ?_
  rintro e w' ⟨hb, ho⟩
  rw [show readL (ByteArray.mk (printed ds).toArray).data.toList = .inr (ds.map (bare 40)) from by show readL (printed ds).toArray.toList = _; rw [List.toList_toArray]; exact read_printed ds h (by omega)] at ho
  obtain ⟨a, cap, f, he, hd⟩ := ho
  rw [List.length_map] at he
  exact ⟨hb, a, cap, f, he, hd⟩

/-- Data that lie in new blocks stay where an elder block is written. -/
theorem Dw.set {w w' : World} {f : Nat} {a : Option Addr} {ds : List Dat} (h : Dw (New w w') w' f a ds) (p : Addr) (hp : p.block < w.heap.size) (v : Value) : Dw (New w (w'.setCell p v)) (w'.setCell p v) f a ds := by
  refine Dw.stay (ok := New w w') (w := w') ?_ ?_ f a ds h
  · intro k hk
    have := hk.1
    rw [Below.heap_setCell _ _ _ _ (by omega)]
  · intro k hk
    exact ⟨hk.1, by simp [World.setCell]; exact hk.2⟩

set_option maxRecDepth 100000 in
set_option maxHeartbeats 3200000 in
theorem TextTurns_no (B g : Nat) (l : List Dat) (a : Option Addr) (cap : Nat) (s : ByteArray) (w : World) (hl : Lies B w g a l) (hs : s.size ≤ maxLen) (hB : B ≤ w.heap.size) (ht : Tab B w) (hno : (prt l).2.1 ≠ 0) :
    Calls Tryd.prog 5 #[.slice a l.length cap, .string s] w (Yes w) := by
  have AL : Hid (∀ w', Below w.heap.size w w' → Calls Tryd.prog 17 #[] w' (Yes w')) := fun w' hb => alive_any B w' (Nat.le_trans hB hb.size) (ht.below (hb.mono hB))
  have CP : Hid (∀ w', Below w.heap.size w w' → Calls Tryd.prog 13 #[.slice a l.length cap] w' fun e w'' => e = .returned (.tuple #[.string (prt l).1, fv (prt l).2]) ∧ Below w'.heap.size w' w'') := fun w' hb => Print_any B g l a cap w' (hl.below (hb.mono hB)) (by have := hb.size; omega) (ht.below (hb.mono hB))
  have HT : Hid (Tab B w) := ht
  have HS : Hid ((∃ x : Int × Int, (x.1 != 0) = true ∧ Hid (∀ w, Calls Tryd.prog 8 #[.string s] w fun e w' => Below w.heap.size w w' ∧ e = .returned (.tuple #[.slice none 0 0, .agg #[.int .i64 x.1, .int .i64 x.2]]))) ∨ ∃ ds, wrong ds = (0, 0) ∧ Hid (∀ w, Calls Tryd.prog 8 #[.string s] w fun e w' => Below w.heap.size w w' ∧ ∃ a cap f, e = .returned (.tuple #[.slice a ds.length cap, .agg #[.int .i64 0, .int .i64 0]]) ∧ Lies w'.heap.size w' f a ds)) := by
    cases hr : readL s.data.toList with
    | inl x => exact Or.inl ⟨x, by simpa using read_fault hr, fun w => Read_no s w hs x hr⟩
    | inr ds => exact Or.inr ⟨ds, read_right hr, fun w => Read_ok s w hs ds hr⟩
  clear hl ht
  generalize prt l = p at CP hno
  obtain ⟨pt, p1, p2⟩ := p
  unfold fv at CP
  simp only at CP hno
  have hno' : (p1 == 0) = false := by simpa using hno
  go_enter Tryd.func5, Tryd.ntmps5
  go_wp2_with fail
  refine (AL.out _ (Below.refl _ _)).mono ?_
  rintro e w1 ⟨rfl, h1⟩
  have HB1 : Hid (Below w.heap.size w w1) := h1
  have hz1 := h1.size
  clear h1 AL
  go_wp2_with fail
  refine (CP.out _ HB1.out).mono ?_
  rintro e w2 ⟨rfl, h2⟩
  have hz2 : w.heap.size ≤ w2.heap.size := by have := h2.size; omega
  have HB2 : Hid (Below w.heap.size w w2) := HB1.out.trans (h2.mono hz1)
  clear h2 CP HB1
  go_wp2_with fail
  rcases HS.out with ⟨x, hx0, RN⟩ | ⟨ds, hds, RO⟩
  · refine (RN.out _).mono ?_
    rintro e w3 ⟨h3, rfl⟩
    have HB3 : Hid (Below w.heap.size w w3) := (HB2.out.alloc hz2 _).trans (h3.mono (by simp; omega))
    have hz3 : w.heap.size ≤ w3.heap.size := HB3.out.size
    clear h3 RN HS
    obtain ⟨x1, x2⟩ := x
    simp only at hx0
    go_wp2_with fail
    go_ret
    exact ⟨rfl, HB3.out.alloc hz3 _⟩
  · have HW : Hid (wrong ds = (0, 0)) := hds
    clear hds HS
    refine (RO.out _).mono ?_
    rintro e w3 ⟨h3, a3, cap3, f3, rfl, hl3⟩
    have HB3 : Hid (Below w.heap.size w w3) := (HB2.out.alloc hz2 _).trans (h3.mono (by simp; omega))
    have hz3 : w.heap.size ≤ w3.heap.size := HB3.out.size
    have HL3 : Hid (Lies w3.heap.size w3 f3 a3 ds) := hl3
    have hfd := field_fault 0 0
    have C15 : Hid (∀ w', Below w3.heap.size w3 w' → Calls Tryd.prog 15 #[.slice a3 ds.length cap3] w' fun e w'' => e = .returned (.agg #[.int .i64 0, .int .i64 0]) ∧ Below w'.heap.size w' w'') := fun w' hb => by
      have := Wrong_any w3.heap.size f3 ds a3 cap3 w' (HL3.out.below hb) hb.size
      rw [HW.out] at this
      exact this
    have HT3 : Hid (Tab w3.heap.size w3) := (HT.out.below (HB3.out.mono hB)).mono (Nat.le_trans hB hz3)
    have C13 : Hid (∀ w', Below w3.heap.size w3 w' → Calls Tryd.prog 13 #[.slice a3 ds.length cap3] w' fun e w'' => e = .returned (.tuple #[.string (prt ds).1, fv (prt ds).2]) ∧ Below w'.heap.size w' w'') := fun w' hb => Print_any w3.heap.size f3 ds a3 cap3 w' (HL3.out.below hb) hb.size (HT3.out.below hb)
    clear h3 RO hl3
    go_wp2_with fail
    refine (C15.out _ ((Below.refl _ _).alloc (Nat.le_refl _) _)).mono ?_
    rintro e w4 ⟨rfl, h4⟩
    have q4 : w4.cell? ⟨w3.heap.size, 0, none⟩ = some (.int .i64 0) := box_cell h4 rfl 0
    have q4' : w4.cell? ⟨w3.heap.size, 1, none⟩ = some (.int .i64 0) := box_cell h4 rfl 1
    have g4 : w4.frozen? ⟨w3.heap.size, 0, none⟩ = false := (h4.frozen (p := ⟨w3.heap.size, 0, none⟩) (by simp)).trans (by simp [go_sem])
    have g4' : w4.frozen? ⟨w3.heap.size, 1, none⟩ = false := (h4.frozen (p := ⟨w3.heap.size, 1, none⟩) (by simp)).trans (by simp [go_sem])
    have hz4 : w3.heap.size + 1 ≤ w4.heap.size := by have := h4.size; simpa using this
    have HB4 : Hid (Below w3.heap.size w3 w4) := ((Below.refl _ _).alloc (Nat.le_refl _) _).trans (h4.mono (by simp))
    clear h4 C15
    by_cases hpl : 6000 < (printed ds).length
    · have hpr : prt ds = (⟨#[]⟩, (4, 0)) := prt_much (by rw [HW.out]) hpl
      rw [hpr] at C13
      unfold fv at C13
      simp only at C13
      go_wp2_with fail
      refine (C13.out _ HB4.out).mono ?_
      rintro e w5 ⟨rfl, h5⟩
      have q5 := cell_later h5 q4
      have q5' := cell_later h5 q4'
      have g5 : w5.frozen? ⟨w3.heap.size, 0, none⟩ = false := (h5.frozen (p := ⟨w3.heap.size, 0, none⟩) hz4).trans g4
      have g5' : w5.frozen? ⟨w3.heap.size, 1, none⟩ = false := (h5.frozen (p := ⟨w3.heap.size, 1, none⟩) hz4).trans g4'
      have HB5 : Hid (Below w.heap.size w w5) := HB3.out.trans ((HB4.out.trans (h5.mono (by omega))).mono hz3)
      clear h5 C13 q4 q4' g4 g4'
      go_wp2_with fail
      go_ret
      exact ⟨rfl, (HB5.out.setCell (p := ⟨w3.heap.size, 0, none⟩) hz3 _).setCell (p := ⟨w3.heap.size, 1, none⟩) hz3 _⟩
    · have hpr : prt ds = (⟨(printed ds).toArray⟩, (0, 0)) := prt_ok (by rw [HW.out]) hpl
      have RP : Hid (∀ w, Calls Tryd.prog 8 #[.string ⟨(printed ds).toArray⟩] w fun e w' => Below w.heap.size w w' ∧ ∃ a cap f, e = .returned (.tuple #[.slice a ds.length cap, .agg #[.int .i64 0, .int .i64 0]]) ∧ Dw (New w w') w' f a (ds.map (bare 40))) := fun w => Read_printed ds w (by rw [HW.out]) hpl
      rw [hpr] at C13
      unfold fv at C13
      simp only at C13
      clear hpr
      go_wp2_with fail
      refine (C13.out _ HB4.out).mono ?_
      rintro e w5 ⟨rfl, h5⟩
      have q5 := cell_later h5 q4
      have q5' := cell_later h5 q4'
      have g5 : w5.frozen? ⟨w3.heap.size, 0, none⟩ = false := (h5.frozen (p := ⟨w3.heap.size, 0, none⟩) hz4).trans g4
      have g5' : w5.frozen? ⟨w3.heap.size, 1, none⟩ = false := (h5.frozen (p := ⟨w3.heap.size, 1, none⟩) hz4).trans g4'
      have hz5 : w3.heap.size + 1 ≤ w5.heap.size := by have := h5.size; omega
      have HB5 : Hid (Below w3.heap.size w3 w5) := HB4.out.trans (h5.mono (by omega))
      clear h5 C13 q4 q4' g4 g4'
      have HB5s : Hid (Below w3.heap.size w3 ((w5.setCell ⟨w3.heap.size, 0, none⟩ (.int .i64 0)).setCell ⟨w3.heap.size, 1, none⟩ (.int .i64 0))) := (HB5.out.setCell (p := ⟨w3.heap.size, 0, none⟩) (Nat.le_refl _) _).setCell (p := ⟨w3.heap.size, 1, none⟩) (Nat.le_refl _) _
      have hs5 : ((w5.setCell ⟨w3.heap.size, 0, none⟩ (.int .i64 0)).setCell ⟨w3.heap.size, 1, none⟩ (.int .i64 0)).heap.size = w5.heap.size := by simp
      have r5 : ((w5.setCell ⟨w3.heap.size, 0, none⟩ (.int .i64 0)).setCell ⟨w3.heap.size, 1, none⟩ (.int .i64 0)).cell? ⟨w3.heap.size, 0, none⟩ = some (.int .i64 0) := by simp [go_sem, q5]
      have r5' : ((w5.setCell ⟨w3.heap.size, 0, none⟩ (.int .i64 0)).setCell ⟨w3.heap.size, 1, none⟩ (.int .i64 0)).cell? ⟨w3.heap.size, 1, none⟩ = some (.int .i64 0) := by simp [go_sem, q5']
      have y5 : ((w5.setCell ⟨w3.heap.size, 0, none⟩ (.int .i64 0)).setCell ⟨w3.heap.size, 1, none⟩ (.int .i64 0)).frozen? ⟨w3.heap.size, 0, none⟩ = false := by simp [g5]
      have y5' : ((w5.setCell ⟨w3.heap.size, 0, none⟩ (.int .i64 0)).setCell ⟨w3.heap.size, 1, none⟩ (.int .i64 0)).frozen? ⟨w3.heap.size, 1, none⟩ = false := by simp [g5']
      have H5 : Hid _ := And.intro r5 (And.intro r5' (And.intro y5 y5'))
      clear r5 r5' y5 y5'
      go_wp2_with fail
      refine (RP.out _).mono ?_
      generalize ((w5.setCell ⟨w3.heap.size, 0, none⟩ (.int .i64 0)).setCell ⟨w3.heap.size, 1, none⟩ (.int .i64 0)) = W5 at HB5s hs5 H5
      rintro e w6 ⟨h6, a6, cap6, f6, rfl, hd6⟩
      have hlt5 : w3.heap.size < W5.heap.size := by omega
      have q6 : w6.cell? ⟨w3.heap.size, 0, none⟩ = some (.int .i64 0) := (h6.cell (p := ⟨w3.heap.size, 0, none⟩) hlt5).trans H5.out.1
      have q6' : w6.cell? ⟨w3.heap.size, 1, none⟩ = some (.int .i64 0) := (h6.cell (p := ⟨w3.heap.size, 1, none⟩) hlt5).trans H5.out.2.1
      have g6 : w6.frozen? ⟨w3.heap.size, 0, none⟩ = false := (h6.frozen (p := ⟨w3.heap.size, 0, none⟩) hlt5).trans H5.out.2.2.1
      have g6' : w6.frozen? ⟨w3.heap.size, 1, none⟩ = false := (h6.frozen (p := ⟨w3.heap.size, 1, none⟩) hlt5).trans H5.out.2.2.2
      have hz6 : w3.heap.size + 1 ≤ w6.heap.size := by have := h6.size; omega
      have HB6 : Hid (Below w3.heap.size w3 ((w6.setCell ⟨w3.heap.size, 0, none⟩ (.int .i64 0)).setCell ⟨w3.heap.size, 1, none⟩ (.int .i64 0))) := ((HB5s.out.trans (h6.mono (by omega))).setCell (p := ⟨w3.heap.size, 0, none⟩) (Nat.le_refl _) _).setCell (p := ⟨w3.heap.size, 1, none⟩) (Nat.le_refl _) _
      have SM : Hid (Calls Tryd.prog 10 #[.slice a3 ds.length cap3, .slice a6 ds.length cap6] ((w6.setCell ⟨w3.heap.size, 0, none⟩ (.int .i64 0)).setCell ⟨w3.heap.size, 1, none⟩ (.int .i64 0)) (Yes ((w6.setCell ⟨w3.heap.size, 0, none⟩ (.int .i64 0)).setCell ⟨w3.heap.size, 1, none⟩ (.int .i64 0)))) := by
        have hl6 := Dw.lies (fun k hk => hk.2) f6 a6 _ ((hd6.set ⟨w3.heap.size, 0, none⟩ hlt5 (.int .i64 0)).set ⟨w3.heap.size, 1, none⟩ hlt5 (.int .i64 0))
        have := Same_any _ f3 f6 ds (ds.map (bare 40)) a3 a6 cap3 cap6 _ (Nat.le_refl _) (Lies.mono HB6.out.size _ _ _ (HL3.out.below HB6.out)) hl6 (Alike.bare f3 40 a3 ds HL3.out (right_each (by rw [HW.out])))
        rw [List.length_map] at this
        exact this
      clear h6 hd6 RP H5 HB5s q5 q5' g5 g5' HB5 hs5 hlt5
      go_wp2_with fail
      refine SM.out.mono ?_
      rintro e w7 ⟨rfl, h7⟩
      have HB7 : Hid (Below w.heap.size w w7) := HB3.out.trans ((HB6.out.trans (h7.mono (by simp; omega))).mono hz3)
      clear h7 SM HB6 q6 q6' g6 g6'
      go_wp2_with fail
      go_ret
      exact ⟨rfl, HB7.out⟩

end Go.Proofs.YtagpcafbeplccaaDoor
