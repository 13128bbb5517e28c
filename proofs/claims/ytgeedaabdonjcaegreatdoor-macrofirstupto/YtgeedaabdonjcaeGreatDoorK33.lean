/- Package rule set: what is known where a rule fits; what Use has in memory. Package rule set: Use, where no rule is looked at. -/
import Derived.Test.YtgeedaabdonjcaeGreatDoorK07
import Derived.Test.YtgeedaabdonjcaeGreatDoorK13
import Derived.Test.YtgeedaabdonjcaeGreatDoorK30
import Derived.Test.YtgeedaabdonjcaeGreatDoorK32
namespace Go.Proofs.YtgeedaabdonjcaeGreatDoor
section
set_option linter.unusedVariables false
set_option linter.unusedSimpArgs false
open Go.RowKit Go.Maps Go.WideMaps

theorem rule_parts {lits : List ByteArray} {p t : Dat} (h : wrongRule lits p t = 0) :
    ∃ hd r, p.kids = hd :: r ∧ (vlist lits r true 1 (fun _ => 0)).1 = 0 ∧ rightD (vlist lits r true 1 (fun _ => 0)).2 t false = true ∧ sizeL r ≤ 2000 ∧ sizeD t ≤ 2000 ∧ hasNamesL r = true := by
  unfold wrongRule at h
  by_cases h1 : (wrong [p, t]).1 = 0
  · rw [if_neg (by simpa using h1)] at h
    by_cases h2 : p.kind = 4
    · rw [if_neg (by simpa using h2)] at h
      have hsz := wrong_size h1
      have hpt : ∀ d ∈ [p, t], hasNames d = true := wrongFrom_names [p, t] 0 0 h1
      obtain ⟨k, n, nm, st, lb, ks⟩ := p
      simp only at h h2
      subst h2
      cases ks with
      | nil => simp at h
      | cons hd r =>
        simp only at h
        by_cases h3 : hd.kind ≠ 3 ∨ isDots hd = true
        · rw [if_pos h3] at h
          cases h
        · rw [if_neg h3] at h
          by_cases h4 : (vlist lits r true 1 (fun _ => 0)).1 = 0
          · rw [if_neg (by simpa using h4)] at h
            by_cases h5 : rightD (vlist lits r true 1 (fun _ => 0)).2 t false = true
            · have hn := hpt ⟨4, n, nm, st, lb, hd :: r⟩ (by simp)
              unfold hasNames at hn
              simp at hn
              unfold hasNamesL at hn
              rw [Bool.and_eq_true] at hn
              rw [sizeD, if_pos rfl, sizeL] at hsz
              exact ⟨hd, r, rfl, h4, h5, by omega, by omega, hn.2⟩
            · rw [if_neg h5] at h
              cases h
          · rw [if_pos (by simpa using h4)] at h
            exact absurd h h4
    · rw [if_pos (by simpa using h2)] at h
      cases h
  · rw [if_pos (by simpa using h1)] at h
    exact absurd h h1

theorem wrongRules_all {lits : List ByteArray} : ∀ (l : List (Dat × Dat)) (i : Nat), (wrongRules lits l i).1 = 0 → ∀ p t, (p, t) ∈ l → wrongRule lits p t = 0
  | [], _, _, _, _, hm => by cases hm
  | (p, t) :: r, i, h, p', t', hm => by
    unfold wrongRules at h
    by_cases h0 : wrongRule lits p t = 0
    · rw [if_pos h0] at h
      rcases List.mem_cons.1 hm with e | e
      · cases e
        exact h0
      · exact wrongRules_all r _ h p' t' e
    · rw [if_neg h0] at h
      exact absurd h h0

theorem wrongM_parts {lits : List ByteArray} {rules : List (Dat × Dat)} (h : (wrongM lits rules).1 = 0) : lits.length ≤ 20 ∧ rules.length ≤ 20 ∧ lits.all litOk = true ∧ ∀ p t, (p, t) ∈ rules → wrongRule lits p t = 0 := by
  unfold wrongM at h
  by_cases h1 : 20 < rules.length ∨ 20 < lits.length
  · rw [if_pos h1] at h
    cases h
  · rw [if_neg h1] at h
    by_cases h2 : lits.all litOk = true
    · rw [if_pos h2] at h
      exact ⟨by omega, by omega, h2, wrongRules_all rules 0 h⟩
    · rw [if_neg h2] at h
      cases h

theorem rule_vok {lits : List ByteArray} {r ks : List Dat} {m : ByteArray → List Dat} (h4 : (vlist lits r true 1 (fun _ => 0)).1 = 0) (hn : hasNamesL r = true) (hf : fitL lits r ks (fun _ => []) = some m) : Vok (vlist lits r true 1 (fun _ => 0)).2 m := by
  refine ⟨vlist_em lits r true 1 _ hn, fun t ht => ?_⟩
  have := (fitL_meets lits r true 1 _ (by decide) h4 ks _ m hf t).2 (by rw [ht]; decide) ht
  simp at this
  cases hm : m t with
  | nil => rw [hm] at this; cases this
  | cons x y => exact ⟨x, rfl⟩

theorem smD_kids (d : Dat) (h : smD d) (h4 : d.kind = 4) : ∀ k ∈ d.kids, smD k := by
  obtain ⟨k, n, nm, st, lb, ks⟩ := d
  rw [smD] at h
  exact smL_mem ks (h.2 h4)

/-- What Use keeps: the rule set, the form, what it answers. -/
structure UW (w : World) (A F : Array Value) (W : World) : Prop where
  old : Below w.heap.size w W
  b0 : W.heap[w.heap.size]? = some (.cells A 25 (0, 0))
  b1 : W.heap[w.heap.size + 1]? = some (.cells F 28 (0, 0))
  b2 : W.heap[w.heap.size + 1 + 1]? = some (.cells z6 28 (0, 0))
section
variable {w W W' : World} {A F : Array Value}
theorem UW.size (h : UW w A F W) : w.heap.size + 1 + 1 < W.heap.size := (Array.getElem?_eq_some_iff.1 h.b2).1
theorem UW.start (w : World) (A F : Array Value) : UW w A F (((w.alloc (.cells A 25)).alloc (.cells F 28)).alloc (.cells z6 28)) := by
  have a0 := fun (u : World) (o : Obj) (k : Nat) (h : k < u.heap.size) => Below.heap_alloc u o k h
  have n0 := fun (u : World) (o : Obj) => World.alloc_heap_new u o
  refine ⟨(((Below.refl _ _).alloc (Nat.le_refl _) _).alloc (by simp only [World.size_alloc]; omega) _).alloc (by simp only [World.size_alloc]; omega) _, ?_, ?_, ?_⟩
  · rw [a0 _ _ _ (by simp only [World.size_alloc]; omega), a0 _ _ _ (by simp only [World.size_alloc]; omega)]
    exact n0 w _
  · rw [a0 _ _ _ (by simp only [World.size_alloc]; omega)]
    have := n0 (w.alloc (.cells A 25)) (.cells F 28)
    rwa [World.size_alloc] at this
  · have := n0 ((w.alloc (.cells A 25)).alloc (.cells F 28)) (.cells z6 28)
    rwa [World.size_alloc, World.size_alloc] at this
theorem UW.kept (h : UW w A F W) (hb : Below (w.heap.size + 1 + 1 + 1) W W') : UW w A F W' :=
  ⟨h.old.trans (hb.mono (by omega)), (hb.block _ (by omega)).trans h.b0, (hb.block _ (by omega)).trans h.b1, (hb.block _ (by omega)).trans h.b2⟩
theorem UW.below (h : UW w A F W) (hb : Below W.heap.size W W') : UW w A F W' := h.kept (hb.mono h.size)
theorem UW.cell0 (h : UW w A F W) (q : Nat) : W.cell? ⟨w.heap.size, q, none⟩ = A[q]? := by simp [World.cell?, h.b0]
theorem UW.cell1 (h : UW w A F W) (q : Nat) : W.cell? ⟨w.heap.size + 1, q, none⟩ = F[q]? := by simp [World.cell?, h.b1]
theorem UW.nod2 (h : UW w A F W) : Nod (w.heap.size + 1 + 1) ⟨0, 0, ⟨#[]⟩, 0, 0, []⟩ (.slice none 0 0) W :=
  ⟨h.size, by simp [World.cell?, h.b2, z6], by simp [World.cell?, h.b2, z6], by simp [World.cell?, h.b2, z6], by simp [World.cell?, h.b2, z6], by simp [World.cell?, h.b2, z6], by simp [World.cell?, h.b2, z6], fun j => by simp [World.frozen?, h.b2]⟩
end

theorem ret11 {ts : Array Value} {W : World} {R : Nat} {d : Dat} {v b : Value} (h : Nod R d v W) (h6 : ts[8]? = some (.pointer (some ⟨R, 0, none⟩))) (h7 : ts[9]? = some b) :
    (results Tryz.f11 ts).run Tryz.prog W = .ok (.tuple #[.agg #[.int .i64 d.kind, .int .i64 d.n, .string d.name, .int .i64 d.stamp, .int .i64 d.lib, v], b]) W := by
  obtain ⟨q, q0, q1, q2, q3, q4, q5, qz⟩ := h
  simp [results, Tryz.results11, go_sem, h6, h7, q0, q1, q2, q3, q4, q5]

/-- What is promised of Use. -/
def ToldU (r : Dat × Int) (w : World) (e : Ending) (w' : World) : Prop :=
  Below w.heap.size w w' ∧ ∃ a cap f, e = .returned (.tuple #[dv r.1 a cap, .int .i64 r.2]) ∧ r.1.kids.length ≤ cap ∧ Dc (New w w') w' f a r.1.kids
theorem ToldU.zero {w w' : World} {y : Int} (h : Below w.heap.size w w') : ToldU (zeroD, y) w (.returned (.tuple #[.agg #[.int .i64 0, .int .i64 0, .string ⟨#[]⟩, .int .i64 0, .int .i64 0, .slice none 0 0], .int .i64 y])) w' :=
  ⟨h, none, 0, 0, rfl, Nat.le_refl _, rfl⟩
theorem UW.six {w W : World} {A F : Array Value} (h : UW w A F W) (v0 v1 v2 v3 v4 v5 : Value) : Below w.heap.size w ((((((W.setCell ⟨w.heap.size + 1 + 1, 0, none⟩ v0).setCell ⟨w.heap.size + 1 + 1, 1, none⟩ v1).setCell ⟨w.heap.size + 1 + 1, 2, none⟩ v2).setCell ⟨w.heap.size + 1 + 1, 3, none⟩ v3).setCell ⟨w.heap.size + 1 + 1, 4, none⟩ v4).setCell ⟨w.heap.size + 1 + 1, 5, none⟩ v5) :=
  (((((h.old.setCell (p := ⟨w.heap.size + 1 + 1, 0, none⟩) (by show w.heap.size ≤ w.heap.size + 1 + 1; omega) _).setCell (p := ⟨w.heap.size + 1 + 1, 1, none⟩) (by show w.heap.size ≤ w.heap.size + 1 + 1; omega) _).setCell (p := ⟨w.heap.size + 1 + 1, 2, none⟩) (by show w.heap.size ≤ w.heap.size + 1 + 1; omega) _).setCell (p := ⟨w.heap.size + 1 + 1, 3, none⟩) (by show w.heap.size ≤ w.heap.size + 1 + 1; omega) _).setCell (p := ⟨w.heap.size + 1 + 1, 4, none⟩) (by show w.heap.size ≤ w.heap.size + 1 + 1; omega) _).setCell (p := ⟨w.heap.size + 1 + 1, 5, none⟩) (by show w.heap.size ≤ w.heap.size + 1 + 1; omega) _
end
section
set_option linter.unusedVariables false
set_option linter.unusedSimpArgs false
open Go.RowKit Go.Maps Go.WideMaps

set_option maxRecDepth 100000 in
set_option maxHeartbeats 1600000 in
theorem Use_wrong (lits : List ByteArray) (rules : List (Dat × Dat)) (la ra : Option Addr) (lc rc : Nat) (form : Dat) (fa : Option Addr) (fc : Nat) (sp lbb : Int) (w : World) (y : Int × Int) (hy : y.1 ≠ 0)
    (hw : ∀ W, Below w.heap.size w W → Calls Tryz.prog 14 #[mv lits rules la ra lc rc] W fun e w' => e = .returned (fv y) ∧ Below W.heap.size W w') :
    Calls Tryz.prog 11 #[mv lits rules la ra lc rc, dv form fa fc, .int .i64 sp, .int .i64 lbb] w (ToldU (zeroD, y.1) w) := by
  have WR := hidd hw
  clear hw
  obtain ⟨y1, y2⟩ := y
  simp only at hy
  obtain ⟨k, n', nm, st, lb, ks⟩ := form
  have hy' : (y1 != 0) = true := by simpa using hy
  have H0 : Hid (UW w #[.slice la lits.length lc, .slice ra rules.length rc] #[.int .i64 k, .int .i64 n', .string nm, .int .i64 st, .int .i64 lb, .slice fa ks.length fc] _) := UW.start w _ _
  unfold z6 at H0
  unfold mv fv at WR
  unfold mv dv
  simp only
  go_enter Tryz.func11, Tryz.ntmps11
  go_wp2_with fail
  refine (WR.out _ H0.out.old).mono ?_
  rintro e w1 ⟨rfl, hb1⟩
  have H1 := hidd (H0.out.below hb1)
  clear hb1 WR H0
  go_wp2_with fail
  have hf : (w1.alloc (.cells #[.int .i64 y1, .int .i64 y2] 38)).cell? ⟨w1.heap.size, 0, none⟩ = some (.int .i64 y1) := World.cell?_alloc_mark w1 _ 38 (0, 0) 0
  have H2 := hidd (H1.out.below ((Below.refl _ _).alloc (Nat.le_refl _) (.cells #[.int .i64 y1, .int .i64 y2] 38)))
  have hlt : w1.heap.size ≠ w.heap.size + 1 + 1 := by have := H1.out.size; omega
  generalize w1.alloc (.cells #[.int .i64 y1, .int .i64 y2] 38) = W2 at hf H2
  obtain ⟨q, q0, q1, q2, q3, q4, q5, qz⟩ := H2.out.nod2
  simp only at q0 q1 q2 q3 q4 q5
  go_region
  go_wp2_with fail
  refine bodyPost_ret (ret11 ((H2.out.nod2.store ⟨0, 0, ⟨#[]⟩, 0, 0, []⟩ (.slice none 0 0)).after (Below.drew (Below.refl _ _))) rfl rfl) rfl ?_
  exact ToldU.zero (Below.drew (H2.out.six _ _ _ _ _ _))

set_option maxRecDepth 100000 in
set_option maxHeartbeats 1600000 in
theorem Use_much (lits : List ByteArray) (rules : List (Dat × Dat)) (la ra : Option Addr) (lc rc : Nat) (form : Dat) (fa : Option Addr) (fc : Nat) (sp lbb : Int) (w : World) (y2 : Int)
    (hw : ∀ W, Below w.heap.size w W → Calls Tryz.prog 14 #[mv lits rules la ra lc rc] W fun e w' => e = .returned (fv (0, y2)) ∧ Below W.heap.size W w')
    (hm : ∀ W, Below w.heap.size w W → Calls Tryz.prog 30 #[dv form fa fc] W fun e w' => e = .returned (.bool true) ∧ Below W.heap.size W w') :
    Calls Tryz.prog 11 #[mv lits rules la ra lc rc, dv form fa fc, .int .i64 sp, .int .i64 lbb] w (ToldU (zeroD, 4) w) := by
  have WR := hidd hw
  have MU := hidd hm
  clear hw hm
  obtain ⟨k, n', nm, st, lb, ks⟩ := form
  have H0 : Hid (UW w #[.slice la lits.length lc, .slice ra rules.length rc] #[.int .i64 k, .int .i64 n', .string nm, .int .i64 st, .int .i64 lb, .slice fa ks.length fc] _) := UW.start w _ _
  unfold z6 at H0
  unfold mv fv at WR
  unfold dv at MU
  unfold mv dv
  simp only at MU ⊢
  go_enter Tryz.func11, Tryz.ntmps11
  go_wp2_with fail
  refine (WR.out _ H0.out.old).mono ?_
  rintro e w1 ⟨rfl, hb1⟩
  have H1 := hidd (H0.out.below hb1)
  have H2 := hidd (H1.out.below ((Below.refl _ _).alloc (Nat.le_refl _) (.cells #[.int .i64 0, .int .i64 y2] 38)))
  have c0 := H2.out.cell1 0
  have c1 := H2.out.cell1 1
  have c2 := H2.out.cell1 2
  have c3 := H2.out.cell1 3
  have c4 := H2.out.cell1 4
  have c5 := H2.out.cell1 5
  simp at c0 c1 c2 c3 c4 c5
  clear hb1 WR H0
  go_wp2_with fail
  refine (MU.out _ H2.out.old).mono ?_
  rintro e w2 ⟨rfl, hb2⟩
  have H3 := hidd (H2.out.below hb2)
  obtain ⟨q, q0, q1, q2, q3, q4, q5, qz⟩ := H3.out.nod2
  simp only at q0 q1 q2 q3 q4 q5
  clear hb2 MU c0 c1 c2 c3 c4 c5
  go_wp2_with fail
  refine bodyPost_ret (ret11 (H3.out.nod2.store ⟨0, 0, ⟨#[]⟩, 0, 0, []⟩ (.slice none 0 0)) rfl rfl) rfl ?_
  exact ToldU.zero (H3.out.six _ _ _ _ _ _)

set_option maxRecDepth 100000 in
set_option maxHeartbeats 1600000 in
theorem Use_form (lits : List ByteArray) (rules : List (Dat × Dat)) (la ra : Option Addr) (lc rc : Nat) (form : Dat) (fa : Option Addr) (fc : Nat) (sp lbb : Int) (w : World) (y2 : Int) (hf : form.kind ≠ 4 ∨ form.kids = [])
    (hw : ∀ W, Below w.heap.size w W → Calls Tryz.prog 14 #[mv lits rules la ra lc rc] W fun e w' => e = .returned (fv (0, y2)) ∧ Below W.heap.size W w')
    (hm : ∀ W, Below w.heap.size w W → Calls Tryz.prog 30 #[dv form fa fc] W fun e w' => e = .returned (.bool false) ∧ Below W.heap.size W w') :
    Calls Tryz.prog 11 #[mv lits rules la ra lc rc, dv form fa fc, .int .i64 sp, .int .i64 lbb] w (ToldU (zeroD, 2) w) := by
  have WR := hidd hw
  have MU := hidd hm
  clear hw hm
  obtain ⟨k, n', nm, st, lb, ks⟩ := form
  simp only at hf
  have H0 : Hid (UW w #[.slice la lits.length lc, .slice ra rules.length rc] #[.int .i64 k, .int .i64 n', .string nm, .int .i64 st, .int .i64 lb, .slice fa ks.length fc] _) := UW.start w _ _
  unfold z6 at H0
  unfold mv fv at WR
  unfold dv at MU
  unfold mv dv
  simp only at MU ⊢
  go_enter Tryz.func11, Tryz.ntmps11
  go_wp2_with fail
  refine (WR.out _ H0.out.old).mono ?_
  rintro e w1 ⟨rfl, hb1⟩
  have H1 := hidd (H0.out.below hb1)
  have H2 := hidd (H1.out.below ((Below.refl _ _).alloc (Nat.le_refl _) (.cells #[.int .i64 0, .int .i64 y2] 38)))
  have c0 := H2.out.cell1 0
  have c1 := H2.out.cell1 1
  have c2 := H2.out.cell1 2
  have c3 := H2.out.cell1 3
  have c4 := H2.out.cell1 4
  have c5 := H2.out.cell1 5
  simp at c0 c1 c2 c3 c4 c5
  clear hb1 WR H0
  go_wp2_with fail
  refine (MU.out _ H2.out.old).mono ?_
  rintro e w2 ⟨rfl, hb2⟩
  have H3 := hidd (H2.out.below hb2)
  obtain ⟨q, q0, q1, q2, q3, q4, q5, qz⟩ := H3.out.nod2
  simp only at q0 q1 q2 q3 q4 q5
  clear hb2 MU c0 c1 c2 c3 c4 c5
  have c0 := H3.out.cell1 0
  have c5 := H3.out.cell1 5
  simp at c0 c5
  by_cases h4 : k = 4
  · subst h4
    obtain rfl : ks = [] := by rcases hf with h | h; exact absurd rfl h; exact h
    go_wp2_with fail
    refine bodyPost_ret (ret11 (H3.out.nod2.store ⟨0, 0, ⟨#[]⟩, 0, 0, []⟩ (.slice none 0 0)) rfl rfl) rfl ?_
    exact ToldU.zero (H3.out.six _ _ _ _ _ _)
  · have h4' : (k != 4) = true := by simpa using h4
    go_wp2_with fail
    refine bodyPost_ret (ret11 (H3.out.nod2.store ⟨0, 0, ⟨#[]⟩, 0, 0, []⟩ (.slice none 0 0)) rfl rfl) rfl ?_
    exact ToldU.zero (H3.out.six _ _ _ _ _ _)
end
end Go.Proofs.YtgeedaabdonjcaeGreatDoor
