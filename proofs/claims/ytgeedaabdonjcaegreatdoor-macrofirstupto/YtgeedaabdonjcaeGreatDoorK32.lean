/- Package rule set: a list of a pattern, held against data: all cases. -/
import Derived.Test.YtgeedaabdonjcaeGreatDoorK31
namespace Go.Proofs.YtgeedaabdonjcaeGreatDoor
set_option linter.unusedVariables false
set_option linter.unusedSimpArgs false
open Go.RowKit Go.Maps Go.WideMaps

set_option maxRecDepth 100000 in
set_option maxHeartbeats 1600000 in
/-- No data, and something that stands ahead. -/
theorem list_few (lb mb pl n pc dc ln lc : Nat) (pa da ra : Option Addr) (o : Nat → Prop) (w : World) (hn : 0 < n) (hn2 : n ≤ 9223372036854775807)
    (hdot : ∀ W, Below w.heap.size w W → Calls Tryz.prog 55 #[.slice pa pl pc] W fun e w' => Below W.heap.size W w' ∧ e = .returned (.tuple #[.slice pa n pc, .slice ra ln lc])) :
    Calls Tryz.prog 32 #[fitv lb mb, .slice pa pl pc, .slice da 0 dc] w fun e w' => e = .returned (.bool false) ∧ Fr mb o o w w' := by
  have DT := hidd hdot
  clear hdot
  unfold fitv
  have h1' : decide ((0 : Int) < (n : Int)) = true := by simp; omega
  go_enter Tryz.func32, Tryz.ntmps32
  go_wp2_with fail
  refine (DT.out _ ((Below.refl _ _).alloc (Nat.le_refl _) _)).mono ?_
  rintro e w1 ⟨hb1, rfl⟩
  have HF : Hid (Fr mb o o w w1) := Fr.of_below (((Below.refl _ _).alloc (Nat.le_refl _) _).trans (hb1.mono (by simp)))
  clear hb1
  go_wp2_with fail
  go_ret
  exact ⟨rfl, HF.out⟩

set_option maxRecDepth 100000 in
set_option maxHeartbeats 1600000 in
/-- Data, and nothing that stands for them. -/
theorem list_more (lb mb n pc dc : Nat) (pa da : Option Addr) (o : Nat → Prop) (w : World) (hn : 0 < n) (hn2 : n ≤ 9223372036854775807) :
    Calls Tryz.prog 32 #[fitv lb mb, .slice pa 0 pc, .slice da n dc] w fun e w' => e = .returned (.bool false) ∧ Fr mb o o w w' := by
  unfold fitv
  have h1' : decide ((n : Int) < 0) = false := by simp
  have h2' : decide ((0 : Int) < (n : Int)) = true := by simp; omega
  go_enter Tryz.func32, Tryz.ntmps32
  go_wp2_with fail
  refine (dotted_none pa pc _).mono ?_
  rintro e w1 ⟨rfl, hb1⟩
  have HF : Hid (Fr mb o o w w1) := Fr.of_below (((Below.refl _ _).alloc (Nat.le_refl _) _).trans (hb1.mono (by simp)))
  clear hb1
  go_wp2_with fail
  go_ret
  exact ⟨rfl, HF.out⟩

set_option maxRecDepth 100000 in
set_option maxHeartbeats 1600000 in
/-- No data, and nothing ahead. -/
theorem list_nothing (lb mb pl pc dc ln lc : Nat) (pa da ra : Option Addr) (o : Nat → Prop) (w : World)
    (hdot : ∀ W, Below w.heap.size w W → Calls Tryz.prog 55 #[.slice pa pl pc] W fun e w' => Below W.heap.size W w' ∧ e = .returned (.tuple #[.slice pa 0 pc, .slice ra ln lc])) :
    Calls Tryz.prog 32 #[fitv lb mb, .slice pa pl pc, .slice da 0 dc] w fun e w' => e = .returned (.bool true) ∧ Below w.heap.size w w' := by
  have DT := hidd hdot
  clear hdot
  unfold fitv
  go_enter Tryz.func32, Tryz.ntmps32
  go_wp2_with fail
  refine (DT.out _ ((Below.refl _ _).alloc (Nat.le_refl _) _)).mono ?_
  rintro e w1 ⟨hb1, rfl⟩
  have HF : Hid (Below w.heap.size w w1) := ((Below.refl _ _).alloc (Nat.le_refl _) _).trans (hb1.mono (by simp))
  clear hb1
  go_wp2_with fail
  go_loopw [37] (fun i wz => i = .int .i64 0 ∧ Below w.heap.size w wz) (fun _ _ => 0)
  case atStart => exact ⟨rfl, HF.out⟩
  case round =>
    obtain ⟨rfl, hfr⟩ := hrel
    have HZ := hidd hfr
    clear hfr HF
    cases da
    all_goals
      go_wp2_with fail
      all_goals
        go_loopw [56] (fun i wz => i = .int .i64 0 ∧ Below w.heap.size w wz) (fun _ _ => 0)
        case atStart => exact ⟨rfl, HZ.out⟩
        case round =>
          obtain ⟨rfl, hfr⟩ := hrel
          have HZ := hidd hfr
          clear hfr
          go_wp2_with fail
          go_ret
          exact ⟨rfl, HZ.out⟩

theorem mem_of_dropLast {α : Type} {l : List α} {x : α} (h : x ∈ l.dropLast) : x ∈ l := (List.dropLast_sublist l).subset h

theorem fitR_plain (lits : List ByteArray) (ps ds : List Dat) (m : ByteArray → List Dat) (h : ∀ d ∈ ps, isDots d = false) : fitR lits ps none ds m = fitL lits ps ds m := by
  rw [fitL_plain lits ps h ds m]
  unfold fitR
  by_cases e : ds.length = ps.length
  · rw [if_neg (by omega), if_pos e]
    cases fitA lits ps ds m <;> rfl
  · rw [if_pos (by rcases Nat.lt_or_gt_of_ne e with q | q; exact .inl q; exact .inr ⟨q, rfl⟩), if_neg e]
theorem fitR_dots (lits : List ByteArray) (a ds : List Dat) (p q : Dat) (m : ByteArray → List Dat) (hp : isDots p = false) (hq : isDots q = true) (h : ∀ d ∈ a, isDots d = false) : fitR lits a (some p) ds m = fitL lits (a ++ [p, q]) ds m := by
  rw [fitL_dots lits p q hp hq a h ds m]
  unfold fitR
  by_cases e : ds.length < a.length
  · rw [if_pos (.inl e), if_pos e]
  · rw [if_neg (by simp [e]), if_neg e]

/-- A pattern that has nothing. -/
theorem list_none (lits : List ByteArray) (B gd lb mb L pc dc : Nat) (m : ByteArray → List Dat) (o : Nat → Prop) (ds : List Dat) (pa da : Option Addr) (w : World) (hB : B ≤ mb) (hd : LC B w (gd + 1) da ds) (hM : Met mb B gd L m o w) :
    Calls Tryz.prog 32 #[fitv lb mb, .slice pa 0 pc, .slice da ds.length dc] w (ToldF mb B gd (L + sizeL ds) o (fitL lits [] ds m) w) := by
  have lm := hM.lt
  cases ds with
  | nil =>
    refine (list_nothing lb mb 0 pc dc 0 0 pa da none o w (fun W _ => (dotted_none pa pc W).mono fun e w' h => ⟨h.2, h.1⟩)).mono fun e w' h => ?_
    have e1 : fitL lits [] [] m = some m := by rw [fitL]; rfl
    rw [e1]
    exact ⟨o, Fr.of_below h.2, h.1, (hM.below (by omega) h.2).mono (by omega)⟩
  | cons d ds =>
    refine (list_more lb mb (d :: ds).length pc dc pa da o w (by simp) hd.len).mono fun e w' h => ?_
    have e1 : fitL lits [] (d :: ds) m = none := by rw [fitL]; rfl
    rw [e1]
    exact ⟨o, h.2, h.1⟩

theorem list_all (lits : List ByteArray) (B gp gd lb mb : Nat) (hB : B ≤ mb) (hlb : lb < mb) (AT : AskT lits B gp gd lb mb) : AskL lits B (gp + 1) gd lb mb := by
  intro ps ds pa da pc dc L m o w hp hd hpc hdc hok hL hM hlim
  have lm := hM.lt
  have no : ∀ (R : Option (ByteArray → List Dat)), R = none → ∀ e w', (e = .returned (.bool false) ∧ Fr mb o o w w') → ToldF mb B gd (L + sizeL ds) o R w e w' := fun R hR e w' h => by
    subst hR
    exact ⟨o, h.2, h.1⟩
  have yes : ∀ (R : Option (ByteArray → List Dat)), R = some m → ∀ e w', (e = .returned (.bool true) ∧ Below w.heap.size w w') → ToldF mb B gd (L + sizeL ds) o R w e w' := fun R hR e w' h => by
    subst hR
    exact ⟨o, Fr.of_below h.2, h.1, (hM.below (by omega) h.2).mono (by omega)⟩
  rcases snoc_cases ps with hps | ⟨a, q, hps⟩
  · subst hps
    exact list_none lits B gd lb mb L pc dc m o ds pa da w hB hd hM
  · have hpn : ps ≠ [] := by rw [hps]; simp
    obtain ⟨g', b, of, hg, ha, hbB, _⟩ := hp.at hpn
    subst ha
    have hlast : ps.dropLast = a := by rw [hps]; simp
    by_cases hq : isDots q = true
    · rcases snoc_cases a with ha | ⟨a', p, ha⟩
      · subst ha
        have := okL_first ps hok (by rw [hps]; rfl) q (by rw [hps]; simp)
        rw [hq] at this
        cases this
      · have hps2 : ps = a' ++ [p, q] := by rw [hps, ha]; simp
        have hnd : ∀ d ∈ a, isDots d = false := fun d hd => okL_tail ps true hok d (by rw [hlast]; exact hd)
        have hpd : isDots p = false := hnd p (by rw [ha]; simp)
        have had : ∀ d ∈ a', isDots d = false := fun d hd => hnd d (by rw [ha]; simp [hd])
        have hkd : ∀ d ∈ a, okD d = true := fun d hd => okL_kid ps true hok d (by rw [hps]; simp [hd]) (hnd d hd)
        have hfr : fitL lits ps ds m = fitR lits a' (some p) ds m := by rw [hps2]; exact (fitR_dots lits a' ds p q m hpd hq had).symm
        have hdt : ∀ W, Below w.heap.size w W → Calls Tryz.prog 55 #[.slice (some ⟨b, of, none⟩) ps.length pc] W fun e w' => Below W.heap.size W w' ∧ e = .returned (.tuple #[.slice (some ⟨b, of, none⟩) a'.length pc, restV b of a'.length (pc - a'.length) (some p)]) := fun W hb => by
          refine (dotted_dots B gp ps p q a' (some ⟨b, of, none⟩) pc W hps2 hq (hp.below (hb.mono (by omega))) hpc).mono ?_
          rintro e w' ⟨h1, b2, o2, h2, h3⟩
          cases h2
          exact ⟨h1, h3⟩
        rw [hfr]
        cases ds with
        | nil =>
          by_cases h0 : a' = []
          · subst h0
            refine (list_nothing lb mb ps.length pc dc 1 pc (some ⟨b, of, none⟩) da (some ⟨b, of, none⟩) o w (fun W hb => by
              refine (hdt W hb).mono fun e w' h => ⟨h.1, ?_⟩
              have h2 := h.2
              simp only [restV, List.length_nil, Nat.zero_mul, Nat.add_zero, Nat.sub_zero] at h2
              exact h2)).mono fun e w' h => yes _ ?_ e w' h
            unfold fitR
            rw [if_neg (by simp)]
            rfl
          · refine (list_few lb mb ps.length a'.length pc dc 1 (pc - a'.length) (some ⟨b, of, none⟩) da (some ⟨b, of + a'.length * 6, none⟩) o w (List.length_pos_iff.2 h0) (by have := hp.len; rw [hps2] at this; simp at this; omega) (fun W hb => hdt W hb)).mono fun e w' h => no _ ?_ e w' h
            unfold fitR
            rw [if_pos (.inl (by simpa using List.length_pos_iff.2 h0))]
        | cons d ds =>
          obtain ⟨g2, b', o', hg2, ha2, _, _⟩ := hd.at (by simp)
          subst ha2
          refine list_core lits B gp gd lb mb L m o ps a' (d :: ds) (some p) b of b' o' pc dc (pc - a'.length) w hp hd hdc (by rw [hps2]; simp) ⟨fun j x h => ?_, fun x h => ?_, fun x h => hkd x (by rw [ha]; simp [h]), fun x h => ?_⟩ hB hlb hL hM hlim hdt AT
          · rw [hps2, List.getElem?_append_left (List.getElem?_eq_some_iff.1 h).1]
            exact h
          · cases h
            rw [hps2, List.getElem?_append_right (Nat.le_refl _)]
            simp
          · cases h
            exact hkd p (by rw [ha]; simp)
    · have hq' : isDots q = false := by simpa using hq
      have hnd : ∀ d ∈ ps, isDots d = false := fun d hd => by
        rw [hps] at hd
        rcases List.mem_append.1 hd with hd | hd
        · exact okL_tail ps true hok d (by rw [hlast]; exact hd)
        · simp at hd
          rw [hd]
          exact hq'
      have hkd : ∀ d ∈ ps, okD d = true := fun d hd => okL_kid ps true hok d hd (hnd d hd)
      rw [← fitR_plain lits ps ds m hnd]
      have hdt : ∀ W, Below w.heap.size w W → Calls Tryz.prog 55 #[.slice (some ⟨b, of, none⟩) ps.length pc] W fun e w' => Below W.heap.size W w' ∧ e = .returned (.tuple #[.slice (some ⟨b, of, none⟩) ps.length pc, restV b of ps.length 0 none]) := fun W hb =>
        (dotted_plain B gp ps q a (some ⟨b, of, none⟩) pc W hps hq' (hp.below (hb.mono (by omega)))).mono fun e w' h => ⟨h.2, h.1⟩
      cases ds with
      | nil =>
        refine (list_few lb mb ps.length ps.length pc dc 0 0 (some ⟨b, of, none⟩) da none o w (List.length_pos_iff.2 hpn) hp.len (fun W hb => hdt W hb)).mono fun e w' h => no _ ?_ e w' h
        unfold fitR
        rw [if_pos (.inl (by simpa using List.length_pos_iff.2 hpn))]
      | cons d ds =>
        obtain ⟨g2, b', o', hg2, ha2, _, _⟩ := hd.at (by simp)
        subst ha2
        exact list_core lits B gp gd lb mb L m o ps ps (d :: ds) none b of b' o' pc dc 0 w hp hd hdc (Nat.le_refl _) ⟨fun _ _ h => h, fun _ h => (by cases h), hkd, fun _ h => (by cases h)⟩ hB hlb hL hM hlim hdt AT

/-- A LIST OF A PATTERN, HELD AGAINST DATA. -/
theorem fitlist_any (lits : List ByteArray) (B gd lb mb : Nat) (hB : B ≤ mb) (hlb : lb < mb) : ∀ (gp : Nat), AskL lits B (gp + 1) gd lb mb
  | 0 => list_all lits B 0 gd lb mb hB hlb fun p d pa da pc dc L m o w h1 h2 h3 h4 h5 h6 h7 h8 h9 h10 => thing_step lits B 0 gd lb mb L m o p d pa da pc dc w h1 h2 h3 h4 h5 h6 h7 hB h8 h9 h10 fun ps ds pa da pc dc L m o w hp hd hpc hdc hok hL hM hlim => by
    have hps : ps = [] := hp.1
    subst hps
    exact list_none lits B gd lb mb L pc dc m o ds pa da w hB hd hM
  | gp + 1 => list_all lits B (gp + 1) gd lb mb hB hlb fun p d pa da pc dc L m o w h1 h2 h3 h4 h5 h6 h7 h8 h9 h10 => thing_step lits B (gp + 1) gd lb mb L m o p d pa da pc dc w h1 h2 h3 h4 h5 h6 h7 hB h8 h9 h10 (fitlist_any lits B gd lb mb hB hlb gp)
end Go.Proofs.YtgeedaabdonjcaeGreatDoor
