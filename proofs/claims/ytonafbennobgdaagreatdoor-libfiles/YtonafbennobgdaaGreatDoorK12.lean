/- Chapter 3: what a library is called; just so many names. Chapter 3: what stands alone; whether something is a word; just so many names. -/
import Derived.Test.YtonafbennobgdaaGreatDoorK11
namespace Go.Proofs.YtonafbennobgdaaGreatDoor
section
set_option linter.unusedVariables false
set_option linter.unusedSimpArgs false
open Go.RowKit

/-- What strings.Join tells of names, a blank between each two. -/
def JoinOk : Prop := ∀ (B : Nat) (l : List ByteArray) (v : Value) (w : World), StrR B l v w → B ≤ w.heap.size → l.length ≤ 2000 → (∀ x ∈ l, x.size ≤ 20) → Calls Tryz.prog 79 #[v, .string ⟨#[32]⟩] w fun e w' => e = .returned (.string (joinB l)) ∧ Below w.heap.size w w'
mutual
/-- Data whose names are no longer than may be, and whose lists no longer. -/
def okD : Dat → Prop
  | ⟨k, _, nm, _, _, ks⟩ => (k = 3 → nm.size ≤ 20 ∧ nm ≠ ⟨#[]⟩) ∧ (k = 4 → ks.length ≤ 2000 ∧ okL ks)
def okL : List Dat → Prop
  | [] => True
  | d :: r => okD d ∧ okL r
end
theorem okD_sym {d : Dat} (h : okD d) (hk : d.kind = 3) : d.name.size ≤ 20 ∧ d.name ≠ ⟨#[]⟩ := by
  cases d
  rw [okD] at h
  exact h.1 hk
theorem okD_list {d : Dat} (h : okD d) (hk : d.kind = 4) : d.kids.length ≤ 2000 ∧ okL d.kids := by
  cases d
  rw [okD] at h
  exact h.2 hk
theorem okL_mem : ∀ {l : List Dat}, okL l → ∀ d ∈ l, okD d
  | [], _, d, hd => by simp at hd
  | x :: r, h, d, hd => by
    rw [okL] at h
    rcases List.mem_cons.1 hd with rfl | hd
    · exact h.1
    · exact okL_mem h.2 d hd
theorem okD_big {d : Dat} (h : okD d) : d.kind = 3 → d.name.size ≤ 281474976710656 := fun hk => Nat.le_trans (okD_sym h hk).1 (by decide)
theorem namesF_ok : ∀ {ds : List Dat} {l : List ByteArray}, okL ds → namesF ds = .ok l → l.length = ds.length ∧ ∀ x ∈ l, x.size ≤ 20
  | [], l, _, h => by rw [namesF] at h; cases h; exact ⟨rfl, by simp⟩
  | d :: r, l, ho, h => by
    rw [namesF] at h
    rw [okL] at ho
    unfold nameF at h
    by_cases hk : d.kind = 3
    · rw [if_pos hk] at h
      simp only [Er.bind] at h
      cases hr : namesF r with
      | no e => rw [hr] at h; cases h
      | ok q =>
        rw [hr] at h
        cases h
        obtain ⟨h1, h2⟩ := namesF_ok ho.2 hr
        exact ⟨by simp [h1], fun x hx => by rcases List.mem_cons.1 hx with rfl | hx; exact (okD_sym ho.1 hk).1; exact h2 x hx⟩
    · rw [if_neg hk] at h
      cases h
set_option maxRecDepth 100000 in
set_option maxHeartbeats 3200000 in
/-- called: what a library is called. -/
theorem called_any (J : JoinOk) (B f : Nat) (d : Dat) (a : Option Addr) (cap : Nat) (w : World) (hB : B ≤ w.heap.size) (hd : Dc (fun k => k < B) w f a d.kids) (hc : d.kids.length ≤ cap) (ho : okD d) :
    Calls Tryz.prog 55 #[dv d a cap] w (ToldE (calledF d) (fun s v _ => v = .string s) w) := by
  have HB : Hid (Below w.heap.size w (w.alloc (.cells #[.int .i64 d.kind, .int .i64 d.n, .string d.name, .int .i64 d.stamp, .int .i64 d.lib, .slice a d.kids.length cap] 26))) := (Below.refl _ _).alloc (Nat.le_refl _) _
  have HT := hidd (fun w => things_any d a cap w)
  unfold calledF
  by_cases hk : d.kind = 4 ∧ d.kids ≠ []
  · have et : thingsF d = .ok d.kids := by unfold thingsF; rw [if_pos hk]
    rw [et] at HT ⊢
    unfold ToldE at HT
    simp only at HT
    obtain ⟨o1, o2⟩ := okD_list ho hk.1
    have HNM : Hid (∀ W, Below w.heap.size w W → Calls Tryz.prog 80 #[.slice a d.kids.length cap] W (ToldE (namesF d.kids) (fun l v w' => StrR W.heap.size l v w') W)) := fun W hb => namesOf_any B f d.kids a cap W (Nat.le_trans hB hb.size) (hd.below (hb.mono hB)) (by omega) hc (fun x hx => okD_big (okL_mem o2 x hx))
    have HO : Hid (∀ l, namesF d.kids = .ok l → l.length ≤ 2000 ∧ ∀ x ∈ l, x.size ≤ 20) := fun l hl => by
      obtain ⟨h1, h2⟩ := namesF_ok o2 hl
      exact ⟨by omega, h2⟩
    have HJ := hidd J
    clear J et hk o1 o2 hd hc ho hB
    show Calls _ _ _ _ (ToldE ((namesF d.kids).bind fun ns => if (joinB ns).size ≤ 60 then .ok (joinB ns) else .no 4) _ w)
    cases hN : namesF d.kids with
    | no x =>
      rw [hN] at HNM
      unfold ToldE at HNM
      simp only at HNM
      clear hN HO
      unfold dv at *
      generalize d.kids.length = n at *
      go_enter Tryz.func55, Tryz.ntmps55
      go_wp2_with fail
      refine (HT.out _).mono ?_
      rintro e w1 ⟨hb1, v, rfl, rfl, _⟩
      have HB1 : Hid (Below w.heap.size w w1) := HB.out.trans (hb1.mono HB.out.size)
      clear hb1
      go_wp2_with fail
      refine (HNM.out _ HB1.out).mono ?_
      rintro e w2 ⟨hb2, rfl⟩
      have HB2 : Hid (Below w.heap.size w w2) := HB1.out.trans (hb2.mono HB1.out.size)
      clear hb2
      go_wp2_with fail
      exact ⟨rfl, HB2.out, rfl⟩
    | ok l =>
      obtain ⟨ho1, ho2⟩ := HO.out l hN
      rw [hN] at HNM
      unfold ToldE at HNM
      simp only at HNM
      have HY := hidd (must_yes 4)
      have HX := hidd (must_no 4)
      have HO2 : Hid (l.length ≤ 2000 ∧ ∀ x ∈ l, x.size ≤ 20) := ⟨ho1, ho2⟩
      clear hN HO ho1 ho2
      unfold dv at *
      generalize d.kids.length = n at *
      show Calls _ _ _ _ (ToldE (if (joinB l).size ≤ 60 then .ok (joinB l) else .no 4) _ w)
      obtain ⟨jb, hjb⟩ : ∃ jb, jb = joinB l := ⟨_, rfl⟩
      rw [← hjb]
      have HJB := hidd hjb
      clear hjb
      by_cases hsz : jb.size ≤ 60
      · rw [if_pos hsz]
        have c1 : decide ((jb.size : Int) ≤ 60) = true := by simp; omega
        go_enter Tryz.func55, Tryz.ntmps55
        go_wp2_with fail
        refine (HT.out _).mono ?_
        rintro e w1 ⟨hb1, v, rfl, rfl, _⟩
        have HB1 : Hid (Below w.heap.size w w1) := HB.out.trans (hb1.mono HB.out.size)
        clear hb1
        go_wp2_with fail
        refine (HNM.out _ HB1.out).mono ?_
        rintro e w2 ⟨hb2, v, rfl, hv⟩
        have HB2 : Hid (Below w.heap.size w w2) := HB1.out.trans (hb2.mono HB1.out.size)
        have JJ := HJ.out _ l v w2 hv hb2.size HO2.out.1 HO2.out.2
        rw [← HJB.out] at JJ
        have HJJ := hidd JJ
        clear hb2 hv JJ
        go_wp2_with fail
        refine HJJ.out.mono ?_
        rintro e w3 ⟨rfl, hb3⟩
        have HB3 : Hid (Below w.heap.size w w3) := HB2.out.trans (hb3.mono HB2.out.size)
        clear hb3 HJJ
        go_wp2_with fail
        refine (HY.out _).mono ?_
        rintro e w4 ⟨rfl, rfl⟩
        go_wp2_with fail
        go_ret
        exact ⟨HB3.out, _, rfl, rfl⟩
      · rw [if_neg hsz]
        have c1 : decide ((jb.size : Int) ≤ 60) = false := by simp; omega
        have c2 : ¬ ((jb.size : Int) ≤ 60) := by omega
        go_enter Tryz.func55, Tryz.ntmps55
        go_wp2_with fail
        refine (HT.out _).mono ?_
        rintro e w1 ⟨hb1, v, rfl, rfl, _⟩
        have HB1 : Hid (Below w.heap.size w w1) := HB.out.trans (hb1.mono HB.out.size)
        clear hb1
        go_wp2_with fail
        refine (HNM.out _ HB1.out).mono ?_
        rintro e w2 ⟨hb2, v, rfl, hv⟩
        have HB2 : Hid (Below w.heap.size w w2) := HB1.out.trans (hb2.mono HB1.out.size)
        have JJ := HJ.out _ l v w2 hv hb2.size HO2.out.1 HO2.out.2
        rw [← HJB.out] at JJ
        have HJJ := hidd JJ
        clear hb2 hv JJ
        go_wp2_with fail
        refine HJJ.out.mono ?_
        rintro e w3 ⟨rfl, hb3⟩
        have HB3 : Hid (Below w.heap.size w w3) := HB2.out.trans (hb3.mono HB2.out.size)
        clear hb3 HJJ
        go_wp2_with fail
        refine (HX.out _).mono ?_
        rintro e w4 ⟨rfl, rfl⟩
        go_wp2_with fail
        exact ⟨rfl, HB3.out, rfl⟩
  · have et : thingsF d = .no 2 := by unfold thingsF; rw [if_neg hk]
    rw [et] at HT ⊢
    unfold ToldE at HT
    simp only at HT
    clear J et hk hd hc ho hB
    unfold dv at *
    generalize d.kids.length = n at *
    go_enter Tryz.func55, Tryz.ntmps55
    go_wp2_with fail
    refine (HT.out _).mono ?_
    rintro e w1 ⟨hb1, rfl⟩
    have HB1 : Hid (Below w.heap.size w w1) := HB.out.trans (hb1.mono HB.out.size)
    clear hb1
    go_wp2_with fail
    exact ⟨rfl, HB1.out, rfl⟩
end
section
set_option linter.unusedVariables false
set_option linter.unusedSimpArgs false
open Go.RowKit

set_option maxRecDepth 100000 in
set_option maxHeartbeats 3200000 in
theorem isWord_any (d : Dat) (a : Option Addr) (cap : Nat) (s : ByteArray) (w : World) : Calls Tryz.prog 132 #[dv d a cap, .string s] w fun e w' => e = .returned (.bool (decide (d.kind = 3 ∧ d.name = s))) ∧ Below w.heap.size w w' := by
  have HB : Hid (Below w.heap.size w (w.alloc (.cells #[.int .i64 d.kind, .int .i64 d.n, .string d.name, .int .i64 d.stamp, .int .i64 d.lib, .slice a d.kids.length cap] 26))) := (Below.refl _ _).alloc (Nat.le_refl _) _
  unfold dv
  generalize d.kids.length = n at *
  by_cases h1 : d.kind = 3
  · have c1 : (d.kind == 3) = true := by simpa using h1
    by_cases h2 : d.name = s
    · have c2 : (d.name.toList == s.toList) = true := by rw [h2]; simp
      rw [decide_eq_true ⟨h1, h2⟩]
      clear h1 h2
      go_enter Tryz.func132, Tryz.ntmps132
      go_wp2_with fail
      go_ret
      exact ⟨rfl, HB.out⟩
    · have c2 := beqS_ne h2
      rw [decide_eq_false (fun h => h2 h.2)]
      clear h1 h2
      go_enter Tryz.func132, Tryz.ntmps132
      go_wp2_with fail
      go_ret
      exact ⟨rfl, HB.out⟩
  · have c1 : (d.kind == 3) = false := by simpa using h1
    rw [decide_eq_false (fun h => h1 h.1)]
    clear h1
    go_enter Tryz.func132, Tryz.ntmps132
    go_wp2_with fail
    go_ret
    exact ⟨rfl, HB.out⟩
set_option maxRecDepth 100000 in
set_option maxHeartbeats 3200000 in
/-- justNames: just n names. -/
theorem just_any (n : Nat) (hn : n ≤ 10) (B f : Nat) (d : Dat) (a : Option Addr) (cap : Nat) (w : World) (hB : B ≤ w.heap.size) (hd : Dc (fun k => k < B) w f a d.kids) (hc : d.kids.length ≤ cap) (ho : okD d) :
    Calls Tryz.prog 141 #[dv d a cap, .int .i64 n] w (ToldE (justF d n) (fun l v w' => StrR (w.heap.size + 1) l v w') w) := by
  have HB : Hid (Below w.heap.size w (w.alloc (.cells #[.int .i64 d.kind, .int .i64 d.n, .string d.name, .int .i64 d.stamp, .int .i64 d.lib, .slice a d.kids.length cap] 26))) := (Below.refl _ _).alloc (Nat.le_refl _) _
  have HY := hidd (must_yes 2)
  have HX := hidd (must_no 2)
  unfold justF
  by_cases h1 : d.kind = 4
  · have c1 : (d.kind == 4) = true := by simpa using h1
    by_cases h2 : d.kids.length = n
    · rw [if_pos ⟨h1, h2⟩]
      obtain ⟨o1, o2⟩ := okD_list ho h1
      have HNM : Hid (∀ W, Below w.heap.size w W → Calls Tryz.prog 80 #[.slice a d.kids.length cap] W (ToldE (namesF d.kids) (fun l v w' => StrR W.heap.size l v w') W)) := fun W hb => namesOf_any B f d.kids a cap W (Nat.le_trans hB hb.size) (hd.below (hb.mono hB)) (by omega) hc (fun x hx => okD_big (okL_mem o2 x hx))
      rw [h2] at HNM
      have HS : Hid ((w.alloc (.cells #[.int .i64 d.kind, .int .i64 d.n, .string d.name, .int .i64 d.stamp, .int .i64 d.lib, .slice a d.kids.length cap] 26)).heap.size = w.heap.size + 1) := by simp [Hid]
      clear hd hc ho hB o1 o2 h1
      unfold dv
      rw [h2] at HB HS ⊢
      clear h2
      have c2 : ((n : Int) == (n : Int)) = true := by simp
      generalize namesF d.kids = R at *
      go_enter Tryz.func141, Tryz.ntmps141
      go_wp2_with fail
      refine (HY.out _).mono ?_
      rintro e w1 ⟨rfl, rfl⟩
      go_wp2_with fail
      refine (HNM.out _ HB.out).mono ?_
      rintro e w2 ⟨hb2, hr⟩
      have HB2 : Hid (Below w.heap.size w w2) := HB.out.trans (hb2.mono HB.out.size)
      cases R with
      | ok l =>
        obtain ⟨v, rfl, hv⟩ := hr
        rw [HS.out] at hv
        have HV := hidd hv
        clear hv hb2
        go_wp2_with fail
        go_ret
        exact ⟨HB2.out, _, rfl, HV.out⟩
      | no x =>
        have hr' : e = .panicked (thrownL x) := hr
        subst hr'
        clear hr hb2
        go_wp2_with fail
        exact ⟨rfl, HB2.out, rfl⟩
    · rw [if_neg (fun h => h2 h.2)]
      have c2 : ((d.kids.length : Int) == (n : Int)) = false := by simp; omega
      clear hd hc ho hB h1
      unfold dv
      generalize d.kids.length = kn at *
      go_enter Tryz.func141, Tryz.ntmps141
      go_wp2_with fail
      refine (HX.out _).mono ?_
      rintro e w1 ⟨rfl, rfl⟩
      go_wp2_with fail
      exact ⟨rfl, HB.out, rfl⟩
  · rw [if_neg (fun h => h1 h.1)]
    have c1 : (d.kind == 4) = false := by simpa using h1
    clear hd hc ho hB h1
    unfold dv
    generalize d.kids.length = kn at *
    go_enter Tryz.func141, Tryz.ntmps141
    go_wp2_with fail
    refine (HX.out _).mono ?_
    rintro e w1 ⟨rfl, rfl⟩
    go_wp2_with fail
    exact ⟨rfl, HB.out, rfl⟩
set_option maxRecDepth 100000 in
set_option maxHeartbeats 3200000 in
/-- one: what must stand there alone. -/
theorem one_any (B f : Nat) (ds : List Dat) (a : Option Addr) (cap : Nat) (w : World) (hB : B ≤ w.heap.size) (hd : Dc (fun k => k < B) w f a ds) (hl : ds.length ≤ 100000) :
    Calls Tryz.prog 144 #[.slice a ds.length cap] w (ToldE (oneF ds) (fun x v w' => ∃ xa xc g, v = dv x xa xc ∧ x.kids.length ≤ xc ∧ Dc (fun k => k < B) w' g xa x.kids) w) := by
  have HY := hidd (must_yes 2)
  have HX := hidd (must_no 2)
  have HB : Hid (Below w.heap.size w (w.alloc (.cells #[.int .i64 0, .int .i64 0, .string ⟨#[]⟩, .int .i64 0, .int .i64 0, .slice none 0 0] 26))) := (Below.refl _ _).alloc (Nat.le_refl _) _
  by_cases h1 : ds.length = 1
  · obtain ⟨x, rfl⟩ : ∃ x, ds = [x] := by
      match ds, h1 with
      | [x], _ => exact ⟨x, rfl⟩
    obtain ⟨g, b, o, xa, xc, rfl, rfl, hA, hk⟩ := hd.at (i := 0) (d := x) rfl
    have hA' := hA.below (HB.out.mono hB)
    rw [Nat.zero_mul, Nat.add_zero] at hA'
    obtain ⟨_, c0, c1, c2, c3, c4, c5, _, hlk⟩ := hA'
    have HK : Hid (x.kids.length ≤ xc ∧ ∀ W, Below w.heap.size w W → Dc (fun k => k < B) W g xa x.kids) := ⟨hlk, fun W hb => hk.below (hb.mono hB)⟩
    have HS : Hid ((w.alloc (.cells #[.int .i64 0, .int .i64 0, .string ⟨#[]⟩, .int .i64 0, .int .i64 0, .slice none 0 0] 26)).heap[w.heap.size]? = some (.cells #[.int .i64 0, .int .i64 0, .string ⟨#[]⟩, .int .i64 0, .int .i64 0, .slice none 0 0] 26 (0, 0))) := World.alloc_heap_new _ _
    clear hd hl h1 hA hk hlk hB
    show Calls _ _ _ _ (ToldE (.ok x) _ w)
    unfold dv
    obtain ⟨xn, hxn⟩ : ∃ xn, xn = x.kids.length := ⟨_, rfl⟩
    have HXN := hidd hxn
    rw [← hxn] at c5 HK
    clear hxn
    go_enter Tryz.func144, Tryz.ntmps144
    go_wp2_with fail
    refine (HY.out _).mono ?_
    rintro e w1 ⟨rfl, rfl⟩
    go_wp2_with fail
    have hbe : Below w.heap.size w (w.alloc (.cells #[.int .i64 x.kind, .int .i64 x.n, .string x.name, .int .i64 x.stamp, .int .i64 x.lib, .slice xa xn xc] 26)) := (Below.refl _ _).alloc (Nat.le_refl _) _
    refine bodyPost_ret (v := .agg #[.int .i64 x.kind, .int .i64 x.n, .string x.name, .int .i64 x.stamp, .int .i64 x.lib, .slice xa xn xc]) (by simp [results, Tryz.results144, go_sem]) rfl ⟨hbe, _, rfl, xa, xc, g, by rw [← HXN.out], by rw [← HXN.out]; exact HK.out.1, HK.out.2 _ hbe⟩
  · have e1 : oneF ds = .no 2 := by
      match ds, h1 with
      | [], _ => rfl
      | [x], h => exact absurd rfl h
      | _ :: _ :: _, _ => rfl
    rw [e1]
    have c1 : ((ds.length : Int) == 1) = false := by simp; omega
    clear hd e1 hB
    generalize ds.length = n at *
    go_enter Tryz.func144, Tryz.ntmps144
    go_wp2_with fail
    refine (HX.out _).mono ?_
    rintro e w1 ⟨rfl, rfl⟩
    go_wp2_with fail
    exact ⟨rfl, HB.out, rfl⟩
end
end Go.Proofs.YtonafbennobgdaaGreatDoor
