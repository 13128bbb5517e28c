/- Package rule set: what is wrong with a rule set. -/
import Derived.Test.YtgeedaabdonjcaeGreatDoorK12
namespace Go.Proofs.YtgeedaabdonjcaeGreatDoor
set_option linter.unusedVariables false
set_option linter.unusedSimpArgs false
open Go.RowKit

/-- Rules lie behind a, in blocks below B. -/
def Rls (B : Nat) (w : World) (g : Nat) (a : Option Addr) (l : List (Dat × Dat)) : Prop :=
  l.length ≤ 9223372036854775807 ∧ (l = [] ∨ ∃ b o, a = some ⟨b, o, none⟩ ∧ b < B ∧ ∀ (i : Nat) (p t : Dat), l[i]? = some (p, t) → ∃ pa ta pc tc,
    (∀ q, q < 12 → w.cell? ⟨b, o + i * 12 + q, none⟩ = (two p t pa ta pc tc)[q]?) ∧ p.name.size ≤ maxLen ∧ t.name.size ≤ maxLen ∧ p.kids.length ≤ pc ∧ t.kids.length ≤ tc ∧ LC B w (g + 1) pa p.kids ∧ LC B w (g + 1) ta t.kids)
theorem Rls.stay {B : Nat} {w w' : World} {g : Nat} {a : Option Addr} {l : List (Dat × Dat)} (h : Rls B w g a l) (hw : Old B w w') : Rls B w' g a l := by
  refine ⟨h.1, ?_⟩
  rcases h.2 with h | ⟨b, o, ha, hb, h⟩
  · exact Or.inl h
  · refine Or.inr ⟨b, o, ha, hb, fun i p t hd => ?_⟩
    obtain ⟨pa, ta, pc, tc, hc, h1, h2, h3, h4, h5, h6⟩ := h i p t hd
    exact ⟨pa, ta, pc, tc, fun q hq => (hw.cell hb _).trans (hc q hq), h1, h2, h3, h4, h5.stay hw, h6.stay hw⟩
theorem Rls.below {B : Nat} {w w' : World} {g : Nat} {a : Option Addr} {l : List (Dat × Dat)} (h : Rls B w g a l) (hb : Below B w w') : Rls B w' g a l := h.stay fun k hk => hb.block k hk
theorem Rls.at {B : Nat} {w : World} {g : Nat} {a : Option Addr} {l : List (Dat × Dat)} (h : Rls B w g a l) {j : Nat} (hj : j < l.length) : ∃ b o p t pa ta pc tc, a = some ⟨b, o, none⟩ ∧ b < B ∧ l[j]? = some (p, t) ∧
    (∀ q, q < 12 → w.cell? ⟨b, o + j * 12 + q, none⟩ = (two p t pa ta pc tc)[q]?) ∧ p.name.size ≤ maxLen ∧ t.name.size ≤ maxLen ∧ p.kids.length ≤ pc ∧ t.kids.length ≤ tc ∧ LC B w (g + 1) pa p.kids ∧ LC B w (g + 1) ta t.kids := by
  rcases h.2 with h | ⟨b, o, ha, hb, h⟩
  · subst h; simp at hj
  · have hd : l[j]? = some (l[j].1, l[j].2) := List.getElem?_eq_getElem hj
    obtain ⟨pa, ta, pc, tc, h⟩ := h j _ _ hd
    exact ⟨b, o, _, _, pa, ta, pc, tc, ha, hb, hd, h⟩

/-- A rule set as a value. -/
def mv (lits : List ByteArray) (rules : List (Dat × Dat)) (la ra : Option Addr) (lc rc : Nat) : Value := .agg #[.slice la lits.length lc, .slice ra rules.length rc]

theorem wrongRules_at {lits : List ByteArray} {l : List (Dat × Dat)} {j : Nat} {p t : Dat} (h : l[j]? = some (p, t)) : wrongRules lits (l.drop j) j = if wrongRule lits p t = 0 then wrongRules lits (l.drop (j + 1)) (j + 1) else (wrongRule lits p t, (j : Int)) := by
  obtain ⟨hi, e⟩ := List.getElem?_eq_some_iff.1 h
  rw [List.drop_eq_getElem_cons hi, e]
  rfl

theorem ret14 (tmps : Array Value) (b : Nat) (x y : Value) (w : World) (h2 : tmps.getD 2 undef = .pointer (some ⟨b, 0, none⟩)) (h0 : w.cell? ⟨b, 0, none⟩ = some x) (h1 : w.cell? ⟨b, 1, none⟩ = some y) :
    (results Tryz.f14 tmps).run Tryz.prog w = .ok (.agg #[x, y]) w := by
  rw [Array.getD_eq_getD_getElem?] at h2
  simp [results, Tryz.results14, h2, go_sem, h0, h1]

/-- What Wrong keeps: the rule set, and what it answers. -/
structure MW (w : World) (A : Array Value) (x y : Int) (W : World) : Prop where
  old : Below w.heap.size w W
  b0 : W.heap[w.heap.size]? = some (.cells A 25 (0, 0))
  b1 : W.heap[w.heap.size + 1]? = some (.cells #[.int .i64 x, .int .i64 y] 38 (0, 0))
section
variable {w W W' : World} {A : Array Value} {x y : Int}
theorem MW.size (h : MW w A x y W) : w.heap.size + 1 < W.heap.size := (Array.getElem?_eq_some_iff.1 h.b1).1
theorem MW.start (w : World) (A : Array Value) (x y : Int) : MW w A x y ((w.alloc (.cells A 25)).alloc (.cells #[.int .i64 x, .int .i64 y] 38)) := by
  refine ⟨((Below.refl _ _).alloc (Nat.le_refl _) _).alloc (by simp) _, ?_, ?_⟩
  · rw [Below.heap_alloc _ _ _ (by simp)]
    exact World.alloc_heap_new w _
  · have := World.alloc_heap_new (w.alloc (.cells A 25)) (.cells #[.int .i64 x, .int .i64 y] 38)
    rwa [World.size_alloc] at this
theorem MW.below (h : MW w A x y W) (hb : Below W.heap.size W W') : MW w A x y W' :=
  ⟨h.old.trans (hb.mono h.old.size), (hb.block _ (by have := h.size; omega)).trans h.b0, (hb.block _ h.size).trans h.b1⟩
theorem MW.set (h : MW w A x y W) (x' y' : Int) : MW w A x' y' ((W.setCell ⟨w.heap.size + 1, 0, none⟩ (.int .i64 x')).setCell ⟨w.heap.size + 1, 1, none⟩ (.int .i64 y')) := by
  have o : ∀ (V : World) (p : Addr) (u : Value) (k : Nat), k ≠ p.block → (V.setCell p u).heap[k]? = V.heap[k]? := fun V p u k hk => Below.heap_setCell _ _ _ _ hk
  refine ⟨(h.old.setCell (p := ⟨w.heap.size + 1, 0, none⟩) (by show _ ≤ w.heap.size + 1; omega) _).setCell (p := ⟨w.heap.size + 1, 1, none⟩) (by show _ ≤ w.heap.size + 1; omega) _, ?_, ?_⟩
  · rw [o _ _ _ _ (by show w.heap.size ≠ w.heap.size + 1; omega), o _ _ _ _ (by show w.heap.size ≠ w.heap.size + 1; omega)]
    exact h.b0
  · have := heap_setCell (heap_setCell h.b1 (i := 0) (by simp) (.int .i64 x')) (i := 1) (by simp) (.int .i64 y')
    simpa using this
theorem MW.cell0 (h : MW w A x y W) (q : Nat) : W.cell? ⟨w.heap.size, q, none⟩ = A[q]? := by simp [World.cell?, h.b0]
theorem MW.cellE (h : MW w A x y W) : W.cell? ⟨w.heap.size + 1, 0, none⟩ = some (.int .i64 x) := by simp [World.cell?, h.b1]
theorem MW.cellA (h : MW w A x y W) : W.cell? ⟨w.heap.size + 1, 1, none⟩ = some (.int .i64 y) := by simp [World.cell?, h.b1]
theorem MW.thaw0 (h : MW w A x y W) : W.frozen? ⟨w.heap.size + 1, 0, none⟩ = false := by simp [World.frozen?, h.b1]
theorem MW.thaw1 (h : MW w A x y W) : W.frozen? ⟨w.heap.size + 1, 1, none⟩ = false := by simp [World.frozen?, h.b1]
end

set_option maxRecDepth 100000 in
set_option maxHeartbeats 3200000 in
theorem WrongM_any (B g : Nat) (lits : List ByteArray) (rules : List (Dat × Dat)) (la ra : Option Addr) (lc rc : Nat) (w : World) (hl : Strs B w la lits) (hr : Rls B w g ra rules) (hB : B ≤ w.heap.size) :
    Calls Tryz.prog 14 #[mv lits rules la ra lc rc] w fun e w' => e = .returned (fv (wrongM lits rules)) ∧ Below w.heap.size w w' := by
  have hll := hl.1
  have hrl := hr.1
  have HH : Hid (Strs B w la lits ∧ Rls B w g ra rules) := ⟨hl, hr⟩
  clear hl hr
  unfold mv wrongM fv
  by_cases h20 : 20 < rules.length ∨ 20 < lits.length
  · rw [if_pos h20]
    by_cases hr20 : 20 < rules.length
    · have hr' : decide ((20 : Int) < (rules.length : Int)) = true := by simp; omega
      clear h20
      go_enter Tryz.func14, Tryz.ntmps14
      go_wp2_with fail
      have h2 := MW.start w #[.slice la lits.length lc, .slice ra rules.length rc] 5 0
      exact bodyPost_ret (v := .agg #[.int .i64 5, .int .i64 0]) (ret14 _ _ _ _ _ rfl h2.cellE h2.cellA) rfl ⟨rfl, h2.old⟩
    · have hr' : decide ((20 : Int) < (rules.length : Int)) = false := by simp; omega
      have hl' : decide ((20 : Int) < (lits.length : Int)) = true := by simp; omega
      clear h20
      go_enter Tryz.func14, Tryz.ntmps14
      go_wp2_with fail
      have h2 := MW.start w #[.slice la lits.length lc, .slice ra rules.length rc] 5 0
      exact bodyPost_ret (v := .agg #[.int .i64 5, .int .i64 0]) (ret14 _ _ _ _ _ rfl h2.cellE h2.cellA) rfl ⟨rfl, h2.old⟩
  · rw [if_neg h20]
    have hr20 : rules.length ≤ 20 := by omega
    have hl20 : lits.length ≤ 20 := by omega
    have hr' : decide ((20 : Int) < (rules.length : Int)) = false := by simp; omega
    have hl' : decide ((20 : Int) < (lits.length : Int)) = false := by simp; omega
    clear h20
    have LO : Hid (∀ W, Below w.heap.size w W → Calls Tryz.prog 31 #[.slice la lits.length lc] W (ToldL lits W)) := fun W hb => literalsOf_any B lits la lc W (HH.out.1.stay (fun k hk => hb.block k (by omega)) (Nat.le_refl _)) (Nat.le_trans hB hb.size) hl20
    have H0 : Hid (MW w #[.slice la lits.length lc, .slice ra rules.length rc] 0 0 ((w.alloc (.cells #[.slice la lits.length lc, .slice ra rules.length rc] 25)).alloc (.cells #[.int .i64 0, .int .i64 0] 38))) := MW.start w _ 0 0
    cases hok : lits.all litOk with
    | false =>
      simp only [Bool.false_eq_true, if_false]
      go_enter Tryz.func14, Tryz.ntmps14
      go_wp2_with fail
      refine (LO.out _ H0.out.old).mono ?_
      rintro e w1 ⟨hb1, he⟩
      rw [hok] at he
      simp only [Bool.false_eq_true, if_false] at he
      subst he
      have H1 := hidd (H0.out.below hb1)
      have z0 := H1.out.thaw0
      have z1 := H1.out.thaw1
      have c0 := H1.out.cellE
      have c1 := H1.out.cellA
      clear hb1 LO
      go_wp2_with fail
      have h2 := H1.out.set 7 0
      exact bodyPost_ret (v := .agg #[.int .i64 7, .int .i64 0]) (ret14 _ _ _ _ _ rfl h2.cellE h2.cellA) rfl ⟨rfl, h2.old⟩
    | true =>
      simp only [if_true]
      go_enter Tryz.func14, Tryz.ntmps14
      go_wp2_with fail
      refine (LO.out _ H0.out.old).mono ?_
      rintro e w1 ⟨hb1, he⟩
      rw [hok] at he
      simp only [if_true] at he
      obtain ⟨rfl, hlit⟩ := he
      have H1 := hidd (H0.out.below hb1)
      have HL1 : Hid (LitM (w.heap.size + 1 + 1) lits w1) := by
        have := hlit
        simp only [World.size_alloc] at this
        exact this
      have q1 : w1.cell? ⟨w.heap.size, 1, none⟩ = some (.slice ra rules.length rc) := H1.out.cell0 1
      clear hb1 LO hlit hok H0
      go_wp2_with fail
      go_loopw [31] (fun i wr => ∃ j : Nat, j ≤ rules.length ∧ i = .int .i64 j ∧ MW w #[.slice la lits.length lc, .slice ra rules.length rc] 0 0 wr ∧ LitM (w.heap.size + 1 + 1) lits wr ∧ wrongRules lits rules 0 = wrongRules lits (rules.drop j) j) (fun i _ => rules.length - (intOf i).toNat)
      case atStart => exact ⟨0, Nat.zero_le _, rfl, H1.out, HL1.out, rfl⟩
      case round =>
        obtain ⟨j, hj, rfl, hm, hl, he⟩ := hrel
        have HR : Hid (MW w #[.slice la lits.length lc, .slice ra rules.length rc] 0 0 wr ∧ LitM (w.heap.size + 1 + 1) lits wr ∧ wrongRules lits rules 0 = wrongRules lits (rules.drop j) j) := ⟨hm, hl, he⟩
        clear hm hl he H1 HL1 q1
        by_cases hlt : j < rules.length
        · obtain ⟨b, o, p, t, pa, ta, pc, tc, rfl, hbB, hd, hc, h1, h2, h3, h4, h5, h6⟩ := HH.out.2.at hlt
          have HE : Hid (wrongRules lits rules 0 = if wrongRule lits p t = 0 then wrongRules lits (rules.drop (j + 1)) (j + 1) else (wrongRule lits p t, (j : Int))) := HR.out.2.2.trans (wrongRules_at hd)
          have hO : Old B w wr := fun k hk => HR.out.1.old.block k (by omega)
          have RC : Hid (∀ W, Below wr.heap.size wr W → Calls Tryz.prog 37 #[.map (some (w.heap.size + 1 + 1)), rv p t pa ta pc tc] W fun e w' => e = .returned (.int .i64 (wrongRule lits p t)) ∧ Below W.heap.size W w') := fun W hb =>
            wrongRule_any lits B g (w.heap.size + 1 + 1) p t pa ta pc tc W ((h5.stay hO).below (hb.mono (by have := HR.out.1.old.size; omega))) ((h6.stay hO).below (hb.mono (by have := HR.out.1.old.size; omega))) h1 h2 h3 (by have := HR.out.1.old.size; have := hb.size; omega) (HR.out.2.1.below hb)
          unfold rv at RC
          have CE : ∀ q, q < 12 → wr.cell? ⟨b, o + j * 12 + q, none⟩ = (two p t pa ta pc tc)[q]? := fun q hq => (hO.cell hbB _).trans (hc q hq)
          have k0 := CE 0 (by omega)
          have k1 := CE 1 (by omega)
          have k2 := CE 2 (by omega)
          have k3 := CE 3 (by omega)
          have k4 := CE 4 (by omega)
          have k5 := CE 5 (by omega)
          have k6 := CE 6 (by omega)
          have k7 := CE 7 (by omega)
          have k8 := CE 8 (by omega)
          have k9 := CE 9 (by omega)
          have k10 := CE 10 (by omega)
          have k11 := CE 11 (by omega)
          simp [two] at k0 k1 k2 k3 k4 k5 k6 k7 k8 k9 k10 k11
          generalize wrongRule lits p t = y at RC HE
          clear hc CE hO hd h1 h2 h3 h4 h5 h6
          go_wp2_with fail
          refine (RC.out _ ((Below.refl _ _).alloc (Nat.le_refl _) _)).mono ?_
          rintro e w2 ⟨rfl, hb2⟩
          have hb3 : Below wr.heap.size wr w2 := ((Below.refl _ _).alloc (Nat.le_refl _) _).trans (hb2.mono (by simp))
          have HR2 : Hid (MW w #[.slice la lits.length lc, .slice (some ⟨b, o, none⟩) rules.length rc] 0 0 w2 ∧ LitM (w.heap.size + 1 + 1) lits w2) := ⟨HR.out.1.below hb3, HR.out.2.1.below hb3⟩
          have z0 := HR2.out.1.thaw0
          have z1 := HR2.out.1.thaw1
          have c0 := HR2.out.1.cellE
          have c1 := HR2.out.1.cellA
          clear hb2 hb3 RC k0 k1 k2 k3 k4 k5 k6 k7 k8 k9 k10 k11
          by_cases y0 : y = 0
          · subst y0
            simp only [if_true] at HE
            go_wp2_with fail
            go_roundw
            case rel => exact ⟨j + 1, by omega, by go_num, HR2.out.1, HR2.out.2, HE.out⟩
            case measure => simp [intOf]; omega
          · rw [if_neg y0] at HE
            have y0' : (y != 0) = true := by simpa using y0
            go_wp2_with fail
            have h2 := HR2.out.1.set y (j : Int)
            exact bodyPost_ret (v := .agg #[.int .i64 y, .int .i64 (j : Int)]) (ret14 _ _ _ _ _ rfl h2.cellE h2.cellA) rfl ⟨by rw [HE.out], h2.old⟩
        · obtain rfl : j = rules.length := by omega
          have HF : Hid (wrongRules lits rules 0 = (0, 0)) := by
            show wrongRules lits rules 0 = (0, 0)
            rw [HR.out.2.2, List.drop_length, wrongRules]
          have z0 := HR.out.1.thaw0
          have z1 := HR.out.1.thaw1
          have c0 := HR.out.1.cellE
          have c1 := HR.out.1.cellA
          go_wp2_with fail
          have h2 := HR.out.1.set 0 0
          exact bodyPost_ret (v := .agg #[.int .i64 0, .int .i64 0]) (ret14 _ _ _ _ _ rfl h2.cellE h2.cellA) rfl ⟨by rw [HF.out], h2.old⟩
end Go.Proofs.YtgeedaabdonjcaeGreatDoor
