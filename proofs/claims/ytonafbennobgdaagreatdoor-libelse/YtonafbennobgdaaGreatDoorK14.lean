/- Chapter 3: what stands behind import: any set. -/
import Derived.Test.YtonafbennobgdaaGreatDoorK13
namespace Go.Proofs.YtonafbennobgdaaGreatDoor
set_option linter.unusedVariables false
set_option linter.unusedSimpArgs false
open Go.RowKit

theorem okL_drop : ∀ {l : List Dat} (n : Nat), okL l → okL (l.drop n)
  | l, 0, h => by simpa using h
  | [], n + 1, h => by simp [okL]
  | x :: r, n + 1, h => by
    rw [okL] at h
    simpa using okL_drop n h.2
theorem Dc.drop2 {ok : Nat → Prop} {w : World} {f b o : Nat} {x y : Dat} {r : List Dat} (h : Dc ok w f (some ⟨b, o, none⟩) (x :: y :: r)) : Dc ok w f (some ⟨b, o + 12, none⟩) r := h.tail.tail
theorem Dc.nilAt {ok : Nat → Prop} {w : World} {f : Nat} {a : Option Addr} {ds : List Dat} (h : Dc ok w f a ds) (h0 : ds = []) (a' : Option Addr) : Dc ok w f a' ds := by
  subst h0
  cases f with
  | zero => rfl
  | succ g => exact ⟨Nat.zero_le _, Or.inl rfl⟩
theorem kind_two {l : List Dat} (ho : okL l) (h : ¬ kindF l = 1) : ∃ x y r, l = x :: y :: r ∧ x.kind = 3 ∧ y.kind = 4 ∧ (kindF l = 2 ∨ kindF l = 3 ∨ kindF l = 4 ∨ kindF l = 5) := by
  match l, ho, h with
  | [], _, h => exact absurd rfl h
  | [x], _, h => exact absurd rfl h
  | x :: y :: r, ho, h =>
    by_cases c : x.kind = 3 ∧ y.kind = 4
    · refine ⟨x, y, r, rfl, c.1, c.2, ?_⟩
      rw [kind_of r c.1 c.2 (okD_sym (okL_mem ho x (by simp)) c.1).2] at h ⊢
      by_cases a2 : x.name = bOnly
      · rw [if_pos a2]; exact Or.inl rfl
      rw [if_neg a2] at h ⊢
      by_cases a3 : x.name = bExcept
      · rw [if_pos a3]; exact Or.inr (Or.inl rfl)
      rw [if_neg a3] at h ⊢
      by_cases a4 : x.name = bPrefix
      · rw [if_pos a4]; exact Or.inr (Or.inr (Or.inl rfl))
      rw [if_neg a4] at h ⊢
      by_cases a5 : x.name = bRename
      · rw [if_pos a5]; exact Or.inr (Or.inr (Or.inr rfl))
      rw [if_neg a5] at h
      exact absurd rfl h
    · refine absurd ?_ h
      show (if x.kind = 3 ∧ y.kind = 4 then (match placeB x.name 0 setWordsB with | some i => (i : Int) | none => 1) else 1) = _
      rw [if_neg c]
set_option maxRecDepth 100000 in
set_option maxHeartbeats 3200000 in
theorem one_yes (B : Nat) (x : Dat) (b o cap xc : Nat) (xa : Option Addr) (w : World) (hB : B ≤ w.heap.size) (hA0 : DAt (fun k => k < B) w b o x xa xc) :
    Calls Tryz.prog 144 #[.slice (some ⟨b, o, none⟩) 1 cap] w fun e w' => Below w.heap.size w w' ∧ e = .returned (dv x xa xc) := by
  have HY := hidd (must_yes 2)
  have HB : Hid (Below w.heap.size w (w.alloc (.cells #[.int .i64 0, .int .i64 0, .string ⟨#[]⟩, .int .i64 0, .int .i64 0, .slice none 0 0] 26))) := (Below.refl _ _).alloc (Nat.le_refl _) _
  have hA' := hA0.below (HB.out.mono hB)
  obtain ⟨_, c0, c1, c2, c3, c4, c5, _, hlk⟩ := hA'
  clear hB hA0 hlk
  unfold dv
  generalize x.kids.length = xn at *
  go_enter Tryz.func144, Tryz.ntmps144
  go_wp2_with fail
  refine (HY.out _).mono ?_
  rintro e w1 ⟨rfl, rfl⟩
  go_wp2_with fail
  have hbe : Below w.heap.size w (w.alloc (.cells #[.int .i64 x.kind, .int .i64 x.n, .string x.name, .int .i64 x.stamp, .int .i64 x.lib, .slice xa xn xc] 26)) := (Below.refl _ _).alloc (Nat.le_refl _) _
  exact bodyPost_ret (v := .agg #[.int .i64 x.kind, .int .i64 x.n, .string x.name, .int .i64 x.stamp, .int .i64 x.lib, .slice xa xn xc]) (by simp [results, Tryz.results144, go_sem]) rfl ⟨hbe, rfl⟩
set_option maxRecDepth 100000 in
set_option maxHeartbeats 3200000 in
theorem one_not (n : Nat) (a : Option Addr) (cap : Nat) (w : World) (h1 : ¬ n = 1) : Calls Tryz.prog 144 #[.slice a n cap] w fun e w' => Below w.heap.size w w' ∧ e = .panicked (thrownL 2) := by
  have HX := hidd (must_no 2)
  have HB : Hid (Below w.heap.size w (w.alloc (.cells #[.int .i64 0, .int .i64 0, .string ⟨#[]⟩, .int .i64 0, .int .i64 0, .slice none 0 0] 26))) := (Below.refl _ _).alloc (Nat.le_refl _) _
  have c1 : ((n : Int) == 1) = false := by simp; omega
  go_enter Tryz.func144, Tryz.ntmps144
  go_wp2_with fail
  refine (HX.out _).mono ?_
  rintro e w1 ⟨rfl, rfl⟩
  go_wp2_with fail
  exact ⟨rfl, HB.out, rfl⟩
theorem oneF_len {l : List Dat} (h : ¬ l.length = 1) : oneF l = .no 2 := by
  match l, h with
  | [], _ => rfl
  | [x], h => exact absurd rfl h
  | _ :: _ :: _, _ => rfl
theorem set_any (J : JoinOk) : ∀ (n : Nat), n ≤ 12 → ∀ (B f : Nat) (d : Dat) (a : Option Addr) (cap : Nat) (w : World), B ≤ w.heap.size → 0 < B → Dc (fun k => k < B) w f a d.kids → d.kids.length ≤ cap → okD d → TabW w →
    Calls Tryz.prog 130 #[dv d a cap, .int .i64 (13 - (n : Int))] w (ToldE (setF n d) (SeT w) w)
  | 0, _, B, f, d, a, cap, w, hB, hB0, hd, hc, ho, tw => by
    unfold dv
    exact (set_deep d a d.kids.length cap _ w (by simp)).mono (fun e w' h => ⟨h.1, h.2⟩)
  | n + 1, hn, B, f, d, a, cap, w, hB, hB0, hd, hc, ho, tw => by
    have hdp0 : (0 : Int) ≤ 13 - ((n + 1 : Nat) : Int) := by omega
    have hdp : 13 - ((n + 1 : Nat) : Int) ≤ 12 := by omega
    have hT := things_any d a cap
    rw [setF]
    by_cases hk : d.kind = 4 ∧ d.kids ≠ []
    · have et : thingsF d = .ok d.kids := by unfold thingsF; rw [if_pos hk]
      rw [et]
      obtain ⟨o1, o2⟩ := okD_list ho hk.1
      have HT : ∀ W, Calls Tryz.prog 77 #[dv d a cap] W fun e w' => Below W.heap.size W w' ∧ e = .returned (.slice a d.kids.length cap) := fun W => (hT W).mono (by
        rintro e w' ⟨h1, h2⟩
        rw [et] at h2
        obtain ⟨v, rfl, rfl, _⟩ := h2
        exact ⟨h1, rfl⟩)
      have HK : ∀ W, Below w.heap.size w W → Calls Tryz.prog 143 #[.slice a d.kids.length cap] W fun e w' => e = .returned (.int .i64 (kindF d.kids)) ∧ w' = W := fun W hb => setKind_any B f d.kids a cap W (hd.below (hb.mono hB)) o2 (tw.below hb (by omega))
      show Calls _ _ _ _ (ToldE (if kindF d.kids = 1 then (calledF d).bind fun nm => .ok (Se.mk 1 nm [] [] ⟨#[]⟩ []) else (setF n (d.kids.getD 1 d)).bind fun k => if kindF d.kids = 2 ∨ kindF d.kids = 3 then (namesF (d.kids.drop 2)).bind fun ns => .ok (Se.mk (kindF d.kids) ⟨#[]⟩ ns [] ⟨#[]⟩ [k]) else if kindF d.kids = 4 then (oneF (d.kids.drop 2)).bind fun x => (nameF x).bind fun p => .ok (Se.mk 4 ⟨#[]⟩ [] [] p [k]) else if kindF d.kids = 5 then (renamesF (d.kids.drop 2)).bind fun q => .ok (Se.mk 5 ⟨#[]⟩ q.1 q.2 ⟨#[]⟩ [k]) else .ok (Se.mk (kindF d.kids) ⟨#[]⟩ [] [] ⟨#[]⟩ [k])) _ w)
      by_cases k1 : kindF d.kids = 1
      · rw [if_pos k1]
        rw [k1] at HK
        have HC : ∀ W, Below w.heap.size w W → Calls Tryz.prog 55 #[dv d a cap] W (ToldE (calledF d) (fun s v _ => v = .string s) W) := fun W hb => called_any J B f d a cap W (Nat.le_trans hB hb.size) (hd.below (hb.mono hB)) hc ho
        cases hC : calledF d with
        | no x =>
          rw [hC] at HC
          exact (set_lib_no d a d.kids.length cap _ w hdp HT HK x (fun W hb => (HC W hb).mono (fun e w' h => ⟨h.1, h.2⟩))).mono (fun e w' h => ⟨h.1, h.2⟩)
        | ok nm =>
          rw [hC] at HC
          exact (set_lib_ok d a d.kids.length cap _ w hdp HT HK nm (fun W hb => (HC W hb).mono (by rintro e w' ⟨h1, v, rfl, rfl⟩; exact ⟨h1, rfl⟩))).mono (fun e w' h => ⟨h.1, h.2⟩)
      · rw [if_neg k1]
        obtain ⟨x, y, r, hl, hx3, hy4, h5⟩ := kind_two o2 k1
        obtain ⟨g, b, o, ya, yc, hg, ha, hy, hyk⟩ := hd.at (i := 1) (d := y) (by rw [hl]; rfl)
        subst ha
        rw [Nat.one_mul] at hy
        have e1 : d.kids.getD 1 d = y := by rw [hl]; rfl
        have e2 : d.kids.drop 2 = r := by rw [hl]; rfl
        have hkn : d.kids.length = r.length + 2 := by rw [hl]; simp
        rw [e1, e2]
        have oy := okL_mem o2 y (by rw [hl]; simp)
        have or_ : okL r := by rw [← e2]; exact okL_drop 2 o2
        have HYD : ∀ W, Below w.heap.size w W → W.cell? ⟨b, o + 6, none⟩ = some (.int .i64 y.kind) ∧ W.cell? ⟨b, o + 6 + 1, none⟩ = some (.int .i64 y.n) ∧ W.cell? ⟨b, o + 6 + 2, none⟩ = some (.string y.name) ∧ W.cell? ⟨b, o + 6 + 3, none⟩ = some (.int .i64 y.stamp) ∧ W.cell? ⟨b, o + 6 + 4, none⟩ = some (.int .i64 y.lib) ∧ W.cell? ⟨b, o + 6 + 5, none⟩ = some (.slice ya y.kids.length yc) := fun W hb => by
          have := hy.below (hb.mono hB)
          exact ⟨this.c0, this.c1, this.c2, this.c3, this.c4, this.c5⟩
        have edp : (13 - ((n + 1 : Nat) : Int)) + 1 = 13 - (n : Int) := by omega
        have HS : ∀ W, Below w.heap.size w W → Calls Tryz.prog 130 #[dv y ya yc, .int .i64 ((13 - ((n + 1 : Nat) : Int)) + 1)] W (ToldE (setF n y) (SeT W) W) := fun W hb => by
          rw [edp]
          exact set_any J n (by omega) B g y ya yc W (Nat.le_trans hB hb.size) hB0 (hyk.below (hb.mono hB)) hy.lk oy (tw.below hb (by omega))
        have h2 : 2 ≤ d.kids.length := by omega
        have HSL := slice2 b o d.kids.length cap h2 hc
        have HRd : ∀ W, Below w.heap.size w W → Dc (fun k => k < B) W f (if cap = 2 then some ⟨b, o, none⟩ else some ⟨b, o + 12, none⟩) r := fun W hb => by
          have h := hd.below (hb.mono hB)
          rw [hl] at h
          by_cases hc2 : cap = 2
          · rw [if_pos hc2]
            exact h.drop2.nilAt (List.eq_nil_of_length_eq_zero (by omega)) _
          · rw [if_neg hc2]; exact h.drop2
        generalize (if cap = 2 then some (⟨b, o, none⟩ : Addr) else some ⟨b, o + 12, none⟩) = ra at HSL HRd
        have ern : d.kids.length - 2 = r.length := by omega
        cases hS : setF n y with
        | no z =>
          rw [hS] at HS
          exact (set_kid_no d y b o d.kids.length cap y.kids.length yc ya _ w _ k1 hdp0 hdp h2 HT HK HYD z (fun W hb => (HS W hb).mono (fun e w' h => ⟨h.1, h.2⟩))).mono (fun e w' h => ⟨h.1, h.2⟩)
        | ok s =>
          rw [hS] at HS
          have HS' : ∀ W, Below w.heap.size w W → Calls Tryz.prog 130 #[dv y ya yc, .int .i64 ((13 - ((n + 1 : Nat) : Int)) + 1)] W fun e w' => Below W.heap.size W w' ∧ ∃ v, e = .returned v ∧ SeT W s v w' := fun W hb => (HS W hb).mono (fun e w' h => ⟨h.1, h.2⟩)
          show Calls _ _ _ _ (ToldE (if kindF d.kids = 2 ∨ kindF d.kids = 3 then (namesF r).bind fun ns => .ok (Se.mk (kindF d.kids) ⟨#[]⟩ ns [] ⟨#[]⟩ [s]) else if kindF d.kids = 4 then (oneF r).bind fun x => (nameF x).bind fun p => .ok (Se.mk 4 ⟨#[]⟩ [] [] p [s]) else if kindF d.kids = 5 then (renamesF r).bind fun q => .ok (Se.mk 5 ⟨#[]⟩ q.1 q.2 ⟨#[]⟩ [s]) else .ok (Se.mk (kindF d.kids) ⟨#[]⟩ [] [] ⟨#[]⟩ [s])) _ w)
          have HN : ∀ W, Below w.heap.size w W → Calls Tryz.prog 80 #[.slice ra (d.kids.length - 2) (cap - 2)] W (ToldE (namesF r) (fun l v w' => StrR W.heap.size l v w') W) := fun W hb => by
            rw [ern]
            exact namesOf_any B f r ra (cap - 2) W (Nat.le_trans hB hb.size) (HRd W hb) (by omega) (by omega) (fun x hx => okD_big (okL_mem or_ x hx))
          rcases h5 with h | h | h | h
          · rw [h] at HK ⊢
            rw [if_pos (Or.inl rfl)]
            cases hN : namesF r with
            | no z => rw [hN] at HN; exact (set_names2_no d y b o d.kids.length cap y.kids.length yc ya _ w hdp0 hdp h2 HT HK HYD s HS' ra HSL z (fun W hb => (HN W hb).mono (fun e w' h => ⟨h.1, h.2⟩))).mono (fun e w' h => ⟨h.1, h.2⟩)
            | ok ns => rw [hN] at HN; exact (set_names2_ok d y b o d.kids.length cap y.kids.length yc ya _ w hdp0 hdp h2 HT HK HYD s HS' ra HSL ns (fun W hb => (HN W hb).mono (fun e w' h => ⟨h.1, h.2⟩))).mono (fun e w' h => ⟨h.1, h.2⟩)
          · rw [h] at HK ⊢
            rw [if_pos (Or.inr rfl)]
            cases hN : namesF r with
            | no z => rw [hN] at HN; exact (set_names3_no d y b o d.kids.length cap y.kids.length yc ya _ w hdp0 hdp h2 HT HK HYD s HS' ra HSL z (fun W hb => (HN W hb).mono (fun e w' h => ⟨h.1, h.2⟩))).mono (fun e w' h => ⟨h.1, h.2⟩)
            | ok ns => rw [hN] at HN; exact (set_names3_ok d y b o d.kids.length cap y.kids.length yc ya _ w hdp0 hdp h2 HT HK HYD s HS' ra HSL ns (fun W hb => (HN W hb).mono (fun e w' h => ⟨h.1, h.2⟩))).mono (fun e w' h => ⟨h.1, h.2⟩)
          · rw [h] at HK ⊢
            rw [if_neg (by decide), if_pos rfl]
            by_cases hr1 : r.length = 1
            · obtain ⟨x4, rfl⟩ : ∃ x4, r = [x4] := by
                match r, hr1 with
                | [x4], _ => exact ⟨x4, rfl⟩
              obtain ⟨g4, b4, o4, xa, xc, _, hra, hx4, _⟩ := (HRd w (Below.refl _ _)).at (i := 0) (d := x4) rfl
              subst hra
              rw [Nat.zero_mul, Nat.add_zero] at hx4
              have HO : ∀ W, Below w.heap.size w W → Calls Tryz.prog 144 #[.slice (some ⟨b4, o4, none⟩) (d.kids.length - 2) (cap - 2)] W fun e w' => Below W.heap.size W w' ∧ e = .returned (dv x4 xa xc) := fun W hb => by
                rw [ern]
                exact one_yes B x4 b4 o4 (cap - 2) xc xa W (Nat.le_trans hB hb.size) (hx4.below (hb.mono hB))
              have HM := fun W => nameOf_any x4 xa xc W (okD_big (okL_mem or_ x4 (by simp)))
              show Calls _ _ _ _ (ToldE ((nameF x4).bind fun p => .ok (Se.mk 4 ⟨#[]⟩ [] [] p [s])) _ w)
              cases hM : nameF x4 with
              | no z => rw [hM] at HM; exact (set_pre_no d y b o d.kids.length cap y.kids.length yc ya _ w hdp0 hdp h2 HT HK HYD s HS' _ HSL x4 xa x4.kids.length xc HO z (fun W => (HM W).mono (fun e w' h => ⟨h.1, h.2⟩))).mono (fun e w' h => ⟨h.1, h.2⟩)
              | ok p => rw [hM] at HM; exact (set_pre_ok d y b o d.kids.length cap y.kids.length yc ya _ w hdp0 hdp h2 HT HK HYD s HS' _ HSL x4 xa x4.kids.length xc HO p (fun W => (HM W).mono (by rintro e w' ⟨h1, v, rfl, rfl⟩; exact ⟨h1, rfl⟩))).mono (fun e w' h => ⟨h.1, h.2⟩)
            · rw [oneF_len hr1]
              exact (set_one_no d y b o d.kids.length cap y.kids.length yc ya _ w hdp0 hdp h2 HT HK HYD s HS' ra HSL 2 (fun W hb => by rw [ern]; exact one_not r.length ra (cap - 2) W hr1)).mono (fun e w' h => ⟨h.1, h.2⟩)
          · rw [h] at HK ⊢
            rw [if_neg (by decide), if_neg (by decide), if_pos rfl]
            have HR : ∀ W, Below w.heap.size w W → Calls Tryz.prog 145 #[.slice ra (d.kids.length - 2) (cap - 2)] W (ToldE (renamesF r) (fun q v w' => ∃ v1 v2, v = .tuple #[v1, v2] ∧ StrR W.heap.size q.1 v1 w' ∧ StrR W.heap.size q.2 v2 w') W) := fun W hb => by
              rw [ern]
              exact renames_any B f r ra (cap - 2) W (Nat.le_trans hB hb.size) (HRd W hb) (by omega) (by omega) or_
            cases hR : renamesF r with
            | no z => rw [hR] at HR; exact (set_ren_no d y b o d.kids.length cap y.kids.length yc ya _ w hdp0 hdp h2 HT HK HYD s HS' ra HSL z (fun W hb => (HR W hb).mono (fun e w' h => ⟨h.1, h.2⟩))).mono (fun e w' h => ⟨h.1, h.2⟩)
            | ok q => rw [hR] at HR; exact (set_ren_ok d y b o d.kids.length cap y.kids.length yc ya _ w hdp0 hdp h2 HT HK HYD s HS' ra HSL q.1 q.2 (fun W hb => (HR W hb).mono (by rintro e w' ⟨h1, v, rfl, v1, v2, rfl, h3, h4⟩; exact ⟨h1, v1, v2, rfl, h3, h4⟩))).mono (fun e w' h => ⟨h.1, h.2⟩)
    · have et : thingsF d = .no 2 := by unfold thingsF; rw [if_neg hk]
      rw [et]
      exact (set_none d a d.kids.length cap _ w hdp (fun W => (hT W).mono (by rintro e w' ⟨h1, h2⟩; rw [et] at h2; exact ⟨h1, h2⟩))).mono (fun e w' h => ⟨h.1, h.2⟩)
end Go.Proofs.YtonafbennobgdaaGreatDoor
