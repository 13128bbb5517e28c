/- The document's walk over declarations: a set that is a library's name. -/
import Derived.Test.YtonafbennobgdaaGreatDoorK35
import Derived.Test.YtonafbennobgdaaGreatDoorK36
namespace Go.Proofs.YtonafbennobgdaaGreatDoor.R3
set_option linter.unusedVariables false
set_option linter.unusedSimpArgs false
section
open Go.RowKit Go.Maps Go.WideMaps
theorem stor {w : World} {N : Nat} {t : TypeId} {c0 c1 c2 c3 c4 c5 : Value} (h : w.heap[N]? = some (.cells #[c0, c1, c2, c3, c4, c5] t (0, 0))) (v0 v1 v2 v3 v4 v5 : Value) :
 ((((((w.setCell ⟨N, 0, none⟩ v0).setCell ⟨N, 1, none⟩ v1).setCell ⟨N, 2, none⟩ v2).setCell ⟨N, 3, none⟩ v3).setCell ⟨N, 4, none⟩ v4).setCell ⟨N, 5, none⟩ v5).heap[N]? = some (.cells #[v0, v1, v2, v3, v4, v5] t (0, 0)) ∧ (∀ k, k ≠ N → ((((((w.setCell ⟨N, 0, none⟩ v0).setCell ⟨N, 1, none⟩ v1).setCell ⟨N, 2, none⟩ v2).setCell ⟨N, 3, none⟩ v3).setCell ⟨N, 4, none⟩ v4).setCell ⟨N, 5, none⟩ v5).heap[k]? = w.heap[k]?) ∧ ((((((w.setCell ⟨N, 0, none⟩ v0).setCell ⟨N, 1, none⟩ v1).setCell ⟨N, 2, none⟩ v2).setCell ⟨N, 3, none⟩ v3).setCell ⟨N, 4, none⟩ v4).setCell ⟨N, 5, none⟩ v5).heap.size = w.heap.size ∧ ∀ (B : Nat) (u : World), B ≤ N → Below B u w → Below B u ((((((w.setCell ⟨N, 0, none⟩ v0).setCell ⟨N, 1, none⟩ v1).setCell ⟨N, 2, none⟩ v2).setCell ⟨N, 3, none⟩ v3).setCell ⟨N, 4, none⟩ v4).setCell ⟨N, 5, none⟩ v5) :=
 ⟨set6 h v0 v1 v2 v3 v4 v5, fun k hk => six_far hk _ _ _ _ _ _, by simp, fun B u hB hu => (((((hu.setCell (p := ⟨N, 0, none⟩) hB _).setCell (p := ⟨N, 1, none⟩) hB _).setCell (p := ⟨N, 2, none⟩) hB _).setCell (p := ⟨N, 3, none⟩) hB _).setCell (p := ⟨N, 4, none⟩) hB _).setCell (p := ⟨N, 5, none⟩) hB _⟩
theorem ret60 {ts : Array Value} {W : World} {R : Nat} {v0 v1 v2 v3 v4 v5 : Value} (h : W.heap[R]? = some (.cells #[v0, v1, v2, v3, v4, v5] 73 (0, 0))) (h6 : ts[6]? = some (.pointer (some ⟨R, 0, none⟩))) :
 (results Tryz.f60 ts).run Tryz.prog W = .ok (.agg #[v0, v1, v2, v3, v4, v5]) W := by
 obtain ⟨q0, q1, q2, q3, q4, q5⟩ := six_at h
 simp [results, Tryz.results60, go_sem, h6, q0, q1, q2, q3, q4, q5]
def Se6 (v : Value) : Prop := ∃ (k : Int) (nm : ByteArray) (a1 : Option Addr) (n1 c1 : Nat) (a2 : Option Addr) (n2 c2 : Nat) (p : ByteArray) (a3 : Option Addr) (n3 c3 : Nat), v = .agg #[.int .i64 k, .string nm, .slice a1 n1 c1, .slice a2 n2 c2, .string p, .slice a3 n3 c3]
def TellS (rb : Nat) (r : Er Se) (w : World) (en : Ending) (w' : World) : Prop := ∃ v, en = .returned v ∧ Se6 v ∧ St rb (erE r) w w' ∧ ∀ s, r = .ok s → SeT w s v w'
def kindG (t : ByteArray) : Option Nat := if t = bRename then some 5 else if t = bPrefix then some 4 else if t = bExcept then some 3 else if t = bOnly then some 2 else none
theorem MapIs.ins {w : World} {b n : Nat} {g : ByteArray → Option Nat} (h : MapIs b n g w) (hn : n < maxLen) (s : ByteArray) (hs : s.size ≤ maxLen) (i : Nat) (hi : i ≤ 9223372036854775807) :
 ∃ w', (Instr.mapUpdate 113 (.map (some b)) (.string s) (.int .i64 (i : Int))).run Tryz.prog w = .ok () w' ∧ MapIs b (n + 1) (fun t => if t = s then some i else g t) w' ∧ w.grownBy w' (some b) := by
 obtain ⟨D, h1, h2, h3⟩ := h
 have hkey := keyOf_string_mk (P := Tryz.prog) Tryz.underlying9 hs
 have hval : plainElem (H := Unit) Tryz.prog 3 (.int .i64 (i : Int)) = _ := plainElem_int Tryz.underlying3 (WalkArith.wf_i64 (by omega))
 obtain ⟨w', hrun, hown, hgr⟩ := h1.update lawS Tryz.underlying113 hn hkey hval
 refine ⟨w', hrun, ⟨_, hown, h2.put _ _, fun t => ?_⟩, hgr⟩
 have hkl : WideAt.IsKeyLit (.string s.data.toList) := lawS.key hkey
 by_cases e : t = s
 ·subst e
  rw [has_put_same h2 hkl, atKey_put_same h2 hkl]
  simp
 have hne : (Lit.string t.data.toList) ≠ .string s.data.toList := fun h => e (ba_eq (by simpa using h))
 rw [has_put_other hne, atKey_put_other hne, (h3 t).1, (h3 t).2]
 simp [e]
theorem MapIs.run {b n : Nat} {g : ByteArray → Option Nat} {w : World} (h : MapIs b n g w) (s : ByteArray) (hs : s.size ≤ maxLen) {i : Nat} (hi : (g s).getD 0 = i) : (Instr.lookup 113 (.map (some b)) (.string s) false).run Tryz.prog w = .ok (.int .i64 (i : Int)) w := by
 obtain ⟨D, h1, h2, h3⟩ := h
 obtain ⟨c, hrun, hat, _⟩ := h1.lookup_int lawS Tryz.underlying113 Tryz.underlying3 (zeroI w) (keyOf_string_mk Tryz.underlying9 hs)
 rw [(h3 s).2] at hat
 have hc : c = ((g s).getD 0 : Nat) := by simpa using hat.symm
 rw [hrun, hc, hi]
theorem kind_map (w : World) : ∃ wa wb wc wd, (Instr.mapUpdate 113 (.map (some w.heap.size)) (.string ⟨#[111, 110, 108, 121]⟩) (.int .i64 2)).run Tryz.prog (w.alloc (.map #[] 0)) = .ok () wa ∧ (Instr.mapUpdate 113 (.map (some w.heap.size)) (.string ⟨#[101, 120, 99, 101, 112, 116]⟩) (.int .i64 3)).run Tryz.prog wa = .ok () wb ∧ (Instr.mapUpdate 113 (.map (some w.heap.size)) (.string ⟨#[112, 114, 101, 102, 105, 120]⟩) (.int .i64 4)).run Tryz.prog wb = .ok () wc ∧ (Instr.mapUpdate 113 (.map (some w.heap.size)) (.string ⟨#[114, 101, 110, 97, 109, 101]⟩) (.int .i64 5)).run Tryz.prog wc = .ok () wd ∧ Below w.heap.size w wd ∧ ∀ (s : ByteArray) (i : Nat), s.size ≤ 20 → (kindG s).getD 0 = i → (Instr.lookup 113 (.map (some w.heap.size)) (.string s) false).run Tryz.prog wd = .ok (.int .i64 (i : Int)) wd := by
 have hm : ∀ n, n ≤ 20 → n ≤ maxLen := fun n h => by unfold maxLen; omega
 obtain ⟨wa, ra, ma, ga⟩ := (MapIs.made w).ins (by unfold maxLen; omega) ⟨#[111, 110, 108, 121]⟩ (by decide) 2 (by omega)
 obtain ⟨wb, rb, mb, gb⟩ := ma.ins (by unfold maxLen; omega) ⟨#[101, 120, 99, 101, 112, 116]⟩ (by decide) 3 (by omega)
 obtain ⟨wc, rc, mc, gc⟩ := mb.ins (by unfold maxLen; omega) ⟨#[112, 114, 101, 102, 105, 120]⟩ (by decide) 4 (by omega)
 obtain ⟨wd, rd, md, gd⟩ := mc.ins (by unfold maxLen; omega) ⟨#[114, 101, 110, 97, 109, 101]⟩ (by decide) 5 (by omega)
 have h1 : Below w.heap.size w (w.alloc (.map #[] 0)) := (Below.refl _ _).alloc (Nat.le_refl _) _
 have h2 := h1.grown ga h1.size (fun k hk => by cases hk; exact Nat.le_refl _)
 have h3 := h2.grown gb h2.size (fun k hk => by cases hk; exact Nat.le_refl _)
 have h4 := h3.grown gc h3.size (fun k hk => by cases hk; exact Nat.le_refl _)
 exact ⟨wa, wb, wc, wd, ra, rb, rc, rd, h4.grown gd h4.size (fun k hk => by cases hk; exact Nat.le_refl _), fun s i hs hi => md.run s (hm _ hs) hi⟩
end
section
open Go.RowKit Go.Maps Go.WideMaps
theorem good0 (rb : Nat) (w : World) (h : E7 rb 0 w) : Calls Tryz.prog 33 #[.pointer (some ⟨rb, 0, none⟩)] w fun en w' => en = .returned (.bool true) ∧ w' = w := good_any rb 0 w h
theorem good1 (rb : Nat) (e : Int) (w : World) (h : E7 rb e w) (he : e ≠ 0) : Calls Tryz.prog 33 #[.pointer (some ⟨rb, 0, none⟩)] w fun en w' => en = .returned (.bool false) ∧ w' = w := (good_any rb e w h).mono fun en w' hh => ⟨by rw [hh.1, decide_eq_false he], hh.2⟩
theorem kindG_of {x y : Dat} (r : List Dat) (h1 : x.kind = 3) (h2 : y.kind = 4) (h0 : x.name ≠ ⟨#[]⟩) : kindF (x :: y :: r) = match kindG x.name with | some i => (i : Int) | none => 1 := by
 rw [kind_of r h1 h2 h0]
 unfold kindG
 by_cases a : x.name = bOnly
 ·rw [if_pos a, a]; rfl
 rw [if_neg a]
 by_cases b : x.name = bExcept
 ·rw [if_pos b, b]; rfl
 rw [if_neg b]
 by_cases c : x.name = bPrefix
 ·rw [if_pos c, c]; rfl
 rw [if_neg c]
 by_cases d : x.name = bRename
 ·rw [if_pos d, d]; rfl
 rw [if_neg d, if_neg d, if_neg c, if_neg b, if_neg a]
theorem erE_bind {α β : Type} (x : Er α) (k : α → β) : erE (x.bind fun a => .ok (k a)) = erE x := by cases x <;> rfl
theorem lib_end {rb : Nat} {d : Dat} {w w3 : World} {s : ByteArray} {c0 c1 c2 c3 c4 c5 : Value} (x1 : w3.heap[w.heap.size + 1]? = some (.cells #[c0, c1, c2, c3, c4, c5] 73 (0, 0))) (hs : St rb (erE (calledF d)) w w3) (hn : ∀ n, calledF d = .ok n → s = n) :
 TellS rb ((calledF d).bind fun nm => .ok (.mk 1 nm [] [] ⟨#[]⟩ [])) w (.returned (.agg #[.int .i64 1, .string s, .slice none 0 0, .slice none 0 0, .string ⟨#[]⟩, .slice none 0 0])) ((((((w3.setCell ⟨w.heap.size + 1, 0, none⟩ (.int .i64 1)).setCell ⟨w.heap.size + 1, 1, none⟩ (.string s)).setCell ⟨w.heap.size + 1, 2, none⟩ (.slice none 0 0)).setCell ⟨w.heap.size + 1, 3, none⟩ (.slice none 0 0)).setCell ⟨w.heap.size + 1, 4, none⟩ (.string ⟨#[]⟩)).setCell ⟨w.heap.size + 1, 5, none⟩ (.slice none 0 0)) := by
 refine ⟨_, rfl, ⟨1, s, none, 0, 0, none, 0, 0, _, none, 0, 0, rfl⟩, ?_, fun s' hs' => ?_⟩
 ·rw [erE_bind]
  exact (stor x1 _ _ _ _ _ _).2.2.2 _ _ (Nat.le_succ _) hs
 cases hc : calledF d with
 | no e => rw [hc] at hs'; cases hs'
 | ok n =>
  rw [hc] at hs'
  cases hs'
  rw [hn n hc]
  exact ⟨_, _, _, rfl, SV.nil _ _, SV.nil _ _, SeL.none none 0⟩
set_option maxRecDepth 100000 in
set_option maxHeartbeats 6400000 in
theorem set_lib (rb f : Nat) (d : Dat) (a : Option Addr) (cap : Nat) (dp : Int) (w : World) (h : E7 rb 0 w) (hd : DW rb w f a d.kids) (hc : d.kids.length ≤ cap) (ho : okD d) (hdp : dp ≤ 12) (hk : kindF (needD d 1) = 1) :
 Calls Tryz.prog 60 #[.pointer (some ⟨rb, 0, none⟩), dv d a cap, .int .i64 dp] w (TellS rb ((calledF d).bind fun nm => .ok (.mk 1 nm [] [] ⟨#[]⟩ [])) w) := by
 obtain ⟨W0, hW0⟩ : ∃ W0, W0 = (w.alloc (.cells #[.int .i64 d.kind, .int .i64 d.n, .string d.name, .int .i64 d.stamp, .int .i64 d.lib, .slice a d.kids.length cap] 26)).alloc (.cells #[.int .i64 0, .string ⟨#[]⟩, .slice none 0 0, .slice none 0 0, .string ⟨#[]⟩, .slice none 0 0] 73) := ⟨_, rfl⟩
 obtain ⟨g1, g2, g3, g4⟩ := set_boxes d a d.kids.length cap w
 rw [← hW0] at g1 g2 g3 g4
 have hrb := h.lt
 have HX : Hid (∀ W e, St rb e W0 W → W.heap[w.heap.size]? = some (.cells #[.int .i64 d.kind, .int .i64 d.n, .string d.name, .int .i64 d.stamp, .int .i64 d.lib, .slice a d.kids.length cap] 26 (0, 0)) ∧ W.heap[w.heap.size + 1]? = some (.cells #[.int .i64 0, .string ⟨#[]⟩, .slice none 0 0, .slice none 0 0, .string ⟨#[]⟩, .slice none 0 0] 73 (0, 0))) := fun W e hb => ⟨(hb.far (by omega) (by omega)).trans g2, (hb.far (by omega) (by omega)).trans g3⟩
 have E0 := hidd (h.below g1)
 have D0 := hidd (hd.below g1)
 have HB0 : Hid (St rb 0 w W0 ∧ W0.heap.size = w.heap.size + 2) := ⟨St.of h g1, g4⟩
 have HG := hidd (good0 rb W0 E0.out)
 have HN := hidd (need_any rb f 0 d a cap W0 1 E0.out (Or.inl rfl) D0.out hc)
 have HM : Hid (∀ W x, St rb x W0 W → Calls Tryz.prog 34 #[.pointer (some ⟨rb, 0, none⟩), dv d a cap] W fun en w' => ∃ s, en = .returned (.string s) ∧ St rb (fst1 x (erE (calledF d))) W w' ∧ ∀ n, calledF d = .ok n → s = n) := fun W x hs => Name_any rb f x d a cap W (E0.out.st hs) (D0.out.st hs) hc ho
 have hne : needE d 1 = 0 ∨ (needE d 1 = 2 ∧ calledF d = .no 2) := by
  unfold needE calledF thingsF
  by_cases hq : d.kind = 4 ∧ 1 ≤ d.kids.length
  ·rw [if_pos hq]; exact Or.inl rfl
  rw [if_neg hq, if_neg (fun hh => hq ⟨hh.1, List.length_pos_iff.2 hh.2⟩)]; exact Or.inr ⟨rfl, rfl⟩
 have HE : Hid (fst1 (fst1 0 (needE d 1)) (erE (calledF d)) = erE (calledF d)) := by
  show _ = _
  rcases hne with e | ⟨e, e2⟩
  ·rw [e]; rfl
  rw [e, e2]; rfl
 have hok := needD_ok ho 1 (Or.inl rfl)
 obtain ⟨ds, hds⟩ : ∃ ds, ds = needD d 1 := ⟨_, rfl⟩
 have hdne : ds ≠ [] := by
  rw [hds]
  unfold needD
  split
  ·rename_i hh
   intro e
   rw [e] at hh
   simp at hh
  simp
 rw [← hds] at HN hk hok
 have y0 := six_at g2
 have hw0 := hW0.symm
 obtain ⟨y0, y1, y2, y3, y4, y5⟩ := y0
 clear hne hds hW0 g1 g2 g3 g4 h hd ho
 unfold dv at HN HM ⊢
 generalize d.kids.length = kn at *
 have HI := hidd hc
 have k1 : decide ((12 : Int) < dp) = false := by simp; omega
 have k2 : ¬ (12 : Int) < dp := by omega
 clear hc hdp
 match ds, hdne, HN, hk, hok with
 | x :: r, _, HN, hk, hok =>
 go_enter Tryz.func60, Tryz.ntmps60
 go_wp2_with fail
 refine HG.out.mono ?_
 rintro en wm ⟨rfl, hwm⟩
 rw [hwm]
 clear hwm
 go_wp2_with fail
 refine HN.out.mono ?_
 rintro en w1 ⟨a1, c1, f1, rfl, hc1, hd1, hs1⟩
 have S1 := hidd hs1
 have D1 := hidd hd1
 obtain ⟨g, b, o, xa, xc, _, rfl, hA, _⟩ := hd1.at (i := 0) rfl
 rw [Nat.zero_mul, Nat.add_zero] at hA
 obtain ⟨hbo, c0, c1', c2', c3, c4, c5, _, _⟩ := hA
 obtain ⟨q, hq⟩ : ∃ q, q = fst1 0 (needE d 1) := ⟨_, rfl⟩
 rw [← hq] at hs1 HE
 have S1 := hidd hs1
 have HXX := HX.out w1 q hs1
 obtain ⟨z0, z1, z2, z3, z4, z5⟩ := six_at HXX.1
 have KEY : Hid (∀ (W : World), Below w1.heap.size w1 W → St rb q W0 W) := fun W hb => S1.out.and hb
 have FIN : Hid (∀ (W : World) (en : Ending) (w3 : World), Below w1.heap.size w1 W → (∃ s, en = .returned (.string s) ∧ St rb (fst1 q (erE (calledF d))) W w3 ∧ ∀ n, calledF d = .ok n → s = n) → ∃ s, en = .returned (.string s) ∧ w3.heap[w.heap.size + 1]? = some (.cells #[.int .i64 0, .string ⟨#[]⟩, .slice none 0 0, .slice none 0 0, .string ⟨#[]⟩, .slice none 0 0] 73 (0, 0)) ∧ St rb (erE (calledF d)) w w3 ∧ ∀ n, calledF d = .ok n → s = n) := by
  rintro W en w3 hb ⟨s, h1, h2, h3⟩
  rw [HE.out] at h2
  have h4 := (S1.out.and hb).trans h2
  exact ⟨s, h1, (HX.out w3 _ h4).2, HB0.out.1.trans h4, h3⟩
 clear hs1 hd1 HXX hq y0 y1 y2 y3 y4 y5 HN HG
 have i1 : (0 : Int) < ((r.length : Int) + 1) := by omega
 by_cases k3 : x.kind = 3
 rotate_left
 ·have k31 : (x.kind == 3) = false := by simpa using k3
  have k32 : decide (x.kind = 3) = false := by simpa using k3
  clear k3 hk
  go_wp2_with fail
  refine (HM.out _ q (KEY.out _ (Below.refl _ _))).mono ?_
  intro en w3 hh
  obtain ⟨s, rfl, x1, hs3, hnm⟩ := FIN.out _ en w3 (Below.refl _ _) hh
  obtain ⟨r0, r1, r2, r3, r4, r5⟩ := six_at x1
  obtain ⟨s0, s1, s2, s3, s4, s5⟩ := six_fz x1
  have H3 := hidd (And.intro x1 (And.intro hs3 hnm))
  clear hh x1 hs3 hnm
  go_wp2_with fail
  refine bodyPost_ret (ret60 (stor H3.out.1 _ _ _ _ _ _).1 rfl) rfl ?_
  exact lib_end H3.out.1 H3.out.2.1 H3.out.2.2
 have k31 : (x.kind == 3) = true := by simpa using k3
 have k32 : decide (x.kind = 3) = true := by simpa using k3
 cases r with
 | nil =>
  clear hk
  go_wp2_with fail
  refine (HM.out _ q (KEY.out _ (Below.refl _ _))).mono ?_
  intro en w3 hh
  obtain ⟨s, rfl, x1, hs3, hnm⟩ := FIN.out _ en w3 (Below.refl _ _) hh
  obtain ⟨r0, r1, r2, r3, r4, r5⟩ := six_at x1
  obtain ⟨s0, s1, s2, s3, s4, s5⟩ := six_fz x1
  have H3 := hidd (And.intro x1 (And.intro hs3 hnm))
  clear hh x1 hs3 hnm
  go_wp2_with fail
  refine bodyPost_ret (ret60 (stor H3.out.1 _ _ _ _ _ _).1 rfl) rfl ?_
  exact lib_end H3.out.1 H3.out.2.1 H3.out.2.2
 | cons y r =>
  have i2 : (1 : Int) < ((y :: r).length : Int) + 1 := by simp; omega
  have i3 : decide ((2 : Int) ≤ ((y :: r).length : Int) + 1) = true := by simp; omega
  have i4 : (2 : Int) ≤ ((y :: r).length : Int) + 1 := by simp; omega
  obtain ⟨_, _, _, ya, yc, _, hbq, hA, _⟩ := D1.out.at (i := 1) (d := y) rfl
  cases hbq
  rw [Nat.one_mul] at hA
  obtain ⟨_, e0, e1, e2, e3, e4, e5, _, _⟩ := hA
  by_cases k4 : y.kind = 4
  ·have k41 : (y.kind == 4) = true := by simpa using k4
   have k42 : decide (y.kind = 4) = true := by simpa using k4
   have hg : kindG x.name = none := by
    have := (kindG_of r k3 k4 (okD_sym hok.1.1 k3).2).symm.trans hk
    cases hx : kindG x.name with
    | none => rfl
    | some i =>
     rw [hx] at this
     unfold kindG at hx
     repeat' split at hx
     all_goals first | (cases hx; simp at this) | cases hx
   have hnm := (okD_sym hok.1.1 k3).1
   have HG := hidd (And.intro hg hnm)
   obtain ⟨wa, wb, wc, wd, ra, rb', rc, rd, hbd, rlk⟩ := kind_map w1
   have rl := rlk x.name 0 hnm (by rw [hg]; rfl)
   have HBD := hidd hbd
   have c2d := (hbd.cell (p := ⟨b, o + 2, none⟩) hbo.1).trans c2'
   obtain ⟨z0', z1', z2', z3', z4', z5'⟩ := six_at (HX.out wd q (S1.out.and hbd)).1
   have hmm := @run_makeMap Tryz.prog
   clear hk hg hnm rlk hbd
   go_wp2_with fail
   refine (HM.out _ q (KEY.out _ HBD.out)).mono ?_
   intro en w3 hh
   obtain ⟨s, rfl, x1, hs3, hnm⟩ := FIN.out _ en w3 HBD.out hh
   obtain ⟨r0, r1, r2, r3, r4, r5⟩ := six_at x1
   obtain ⟨s0, s1, s2, s3, s4, s5⟩ := six_fz x1
   have H3 := hidd (And.intro x1 (And.intro hs3 hnm))
   clear hh x1 hs3 hnm
   go_wp2_with fail
   refine bodyPost_ret (ret60 (stor H3.out.1 _ _ _ _ _ _).1 rfl) rfl ?_
   exact lib_end H3.out.1 H3.out.2.1 H3.out.2.2
  have k41 : (y.kind == 4) = false := by simpa using k4
  have k42 : decide (y.kind = 4) = false := by simpa using k4
  clear hk
  go_wp2_with fail
  refine (HM.out _ q (KEY.out _ (Below.refl _ _))).mono ?_
  intro en w3 hh
  obtain ⟨s, rfl, x1, hs3, hnm⟩ := FIN.out _ en w3 (Below.refl _ _) hh
  obtain ⟨r0, r1, r2, r3, r4, r5⟩ := six_at x1
  obtain ⟨s0, s1, s2, s3, s4, s5⟩ := six_fz x1
  have H3 := hidd (And.intro x1 (And.intro hs3 hnm))
  clear hh x1 hs3 hnm
  go_wp2_with fail
  refine bodyPost_ret (ret60 (stor H3.out.1 _ _ _ _ _ _).1 rfl) rfl ?_
  exact lib_end H3.out.1 H3.out.2.1 H3.out.2.2
end
section
open Go.RowKit Go.Maps Go.WideMaps
def pairE (d : Dat) : Int := fst1 (fst1 (needE d 2) (wordsE (needD d 2))) (if (needD d 2).length = 2 then 0 else 2)
def renE : List Dat → Int
 | [] => 0
 | d :: r => fst1 (pairE d) (renE r)
theorem renE_snoc (d : Dat) : ∀ (l : List Dat), renE (l ++ [d]) = fst1 (renE l) (pairE d)
 | [] => by
  show fst1 (pairE d) 0 = fst1 0 (pairE d)
  rw [fst1_none, fst1_zero]
 | x :: r => by rw [List.cons_append, renE, renE, renE_snoc d r, fst1_fst1]
theorem renE_append (m : List Dat) : ∀ (l : List Dat), renE (l ++ m) = fst1 (renE l) (renE m)
 | [] => by
  show renE m = fst1 0 (renE m)
  rw [fst1_zero]
 | x :: r => by rw [List.cons_append, renE, renE, renE_append m r, fst1_fst1]
def n1 (d : Dat) : ByteArray := ((needD d 2).map wdS).getD 0 ⟨#[]⟩
def n2 (d : Dat) : ByteArray := ((needD d 2).map wdS).getD 1 ⟨#[]⟩
theorem fst1_eq0 {a b : Int} (h : fst1 a b = 0) : a = 0 ∧ b = 0 := by
 unfold fst1 at h
 split at h
 ·exact ⟨‹_›, h⟩
 exact absurd h ‹_›
theorem pairE_ok {d : Dat} (h : pairE d = 0) : justF d 2 = .ok [n1 d, n2 d] ∧ (needD d 2).map wdS = [n1 d, n2 d] := by
 obtain ⟨h12, h3⟩ := fst1_eq0 h
 obtain ⟨h1, h2⟩ := fst1_eq0 h12
 have hl : (needD d 2).length = 2 := by
  split at h3
  ·assumption
  exact absurd h3 (by decide)
 have hk : d.kind = 4 ∧ 2 ≤ d.kids.length := by
  unfold needE at h1
  split at h1
  ·assumption
  exact absurd h1 (by decide)
 have hn : needD d 2 = d.kids := if_pos hk
 have e : (needD d 2).map wdS = [n1 d, n2 d] := by
  unfold n1 n2
  match hq : needD d 2, hl with
  | [a, b], _ => rfl
 refine ⟨?_, e⟩
 unfold justF
 rw [if_pos ⟨hk.1, by rw [← hn]; exact hl⟩, ← hn, wordsE_ok h2, e]
theorem wordsE_two (l : List Dat) : wordsE l = 0 ∨ wordsE l = 2 := by
 by_cases h : wordsE l = 0
 ·exact Or.inl h
 exact Or.inr (wordsE_no h).2
theorem needE_two (d : Dat) (l : Nat) : needE d l = 0 ∨ needE d l = 2 := by
 unfold needE
 split
 ·exact Or.inl rfl
 exact Or.inr rfl
theorem pairE_no {d : Dat} (h : pairE d ≠ 0) : justF d 2 = .no 2 ∧ pairE d = 2 := by
 constructor
 ·unfold justF
  by_cases c : d.kind = 4 ∧ d.kids.length = 2
  ·rw [if_pos c]
   have hn : needD d 2 = d.kids := if_pos ⟨c.1, by omega⟩
   by_cases hw : wordsE d.kids = 0
   ·refine absurd ?_ h
    unfold pairE
    rw [hn, show needE d 2 = 0 from if_pos ⟨c.1, by omega⟩, hw, if_pos c.2]
    rfl
   exact (wordsE_no hw).1
  rw [if_neg c]
 unfold pairE at h ⊢
 rcases needE_two d 2 with a | a <;> rcases wordsE_two (needD d 2) with b | b <;> rw [a, b] at h ⊢ <;> split <;> simp_all [fst1]
theorem ren_ok : ∀ {l : List Dat}, renE l = 0 → renamesF l = .ok (l.map n1, l.map n2)
 | [], _ => rfl
 | d :: r, h => by
  obtain ⟨h1, h2⟩ := fst1_eq0 h
  rw [renamesF, (pairE_ok h1).1, ren_ok h2]
  rfl
theorem ren_no : ∀ {l : List Dat}, renE l ≠ 0 → renamesF l = .no 2 ∧ renE l = 2
 | [], h => absurd rfl h
 | d :: r, h => by
  rw [renamesF]
  unfold renE at h ⊢
  by_cases h1 : pairE d = 0
  ·rw [h1, fst1_zero] at h ⊢
   rw [(pairE_ok h1).1, (ren_no h).1]
   exact ⟨rfl, (ren_no h).2⟩
  rw [(pairE_no h1).1, fst1_no h1]
  exact ⟨rfl, (pairE_no h1).2⟩
def restF (k : Int) (r : List Dat) : Er (List ByteArray × List ByteArray × ByteArray) :=
 if k = 2 ∨ k = 3 then (namesF r).bind fun ns => .ok (ns, [], ⟨#[]⟩)
 else if k = 4 then (oneF r).bind fun x => (nameF x).bind fun p => .ok ([], [], p)
 else (renamesF r).bind fun q => .ok (q.1, q.2, ⟨#[]⟩)
theorem set_rest {n : Nat} {d y : Dat} {r : List Dat} {x : Dat} (hk : d.kind = 4) (hl : d.kids = x :: y :: r) (h5 : kindF d.kids = 2 ∨ kindF d.kids = 3 ∨ kindF d.kids = 4 ∨ kindF d.kids = 5) :
 setF (n + 1) d = (setF n y).bind fun s => (restF (kindF d.kids) r).bind fun t => .ok (.mk (kindF d.kids) ⟨#[]⟩ t.1 t.2.1 t.2.2 [s]) := by
 have et : thingsF d = .ok d.kids := by unfold thingsF; rw [if_pos ⟨hk, by rw [hl]; simp⟩]
 rw [setF, et]
 simp only [Er.bind]
 rw [if_neg (by omega), show d.kids.getD 1 d = y from by rw [hl]; rfl, show d.kids.drop 2 = r from by rw [hl]; rfl]
 cases setF n y with
 | no e => rfl
 | ok s =>
  simp only
  unfold restF
  rcases h5 with h | h | h | h <;> rw [h]
  ·rw [if_pos (Or.inl rfl), if_pos (Or.inl rfl)]
   cases namesF r <;> rfl
  ·rw [if_pos (Or.inr rfl), if_pos (Or.inr rfl)]
   cases namesF r <;> rfl
  ·rw [if_neg (show ¬ ((4 : Int) = 2 ∨ (4 : Int) = 3) by decide), if_neg (show ¬ ((4 : Int) = 2 ∨ (4 : Int) = 3) by decide), if_pos rfl, if_pos rfl]
   cases oneF r with
   | no e => rfl
   | ok z =>
    show (nameF z).bind _ = Er.bind ((nameF z).bind _) _
    cases nameF z <;> rfl
  rw [if_neg (show ¬ ((5 : Int) = 2 ∨ (5 : Int) = 3) by decide), if_neg (show ¬ ((5 : Int) = 2 ∨ (5 : Int) = 3) by decide), if_neg (show ¬ ((5 : Int) = 4) by decide), if_neg (show ¬ ((5 : Int) = 4) by decide), if_pos rfl]
  cases renamesF r <;> rfl
theorem erE_two {α β γ : Type} (a : Er α) (b : Er β) (k : α → β → γ) (ha : ∀ e, a = .no e → e ≠ 0) : erE (a.bind fun s => b.bind fun t => .ok (k s t)) = fst1 (erE a) (erE b) := by
 cases a with
 | ok s =>
  show _ = fst1 0 _
  rw [fst1_zero]
  cases b <;> rfl
 | no e =>
  show e = fst1 e _
  rw [fst1_no (ha e rfl)]
theorem set_end {rb : Nat} {w W : World} {R : Er Se} {X : Er (List ByteArray × List ByteArray × ByteArray)} {e k : Int} {a1 a2 a3 : Option Addr} {m1 m2 m3 u1 u2 u3 : Nat} {p : ByteArray} {c0 c1 c2 c3 c4 c5 : Value} (x1 : W.heap[w.heap.size + 1]? = some (.cells #[c0, c1, c2, c3, c4, c5] 73 (0, 0))) (hs : St rb e w W)
 (he : e = erE (R.bind fun s => X.bind fun t => .ok (Se.mk k ⟨#[]⟩ t.1 t.2.1 t.2.2 [s])))
 (hok : ∀ s t, R = .ok s → X = .ok t → SV (fun j => w.heap.size ≤ j ∧ j < W.heap.size ∧ j ≠ w.heap.size + 1) t.1 (.slice a1 m1 u1) W ∧ SV (fun j => w.heap.size ≤ j ∧ j < W.heap.size ∧ j ≠ w.heap.size + 1) t.2.1 (.slice a2 m2 u2) W ∧ t.2.2 = p ∧ SeL (fun j => w.heap.size ≤ j ∧ j < W.heap.size ∧ j ≠ w.heap.size + 1) W [s] (.slice a3 m3 u3)) :
 TellS rb (R.bind fun s => X.bind fun t => .ok (Se.mk k ⟨#[]⟩ t.1 t.2.1 t.2.2 [s])) w (.returned (.agg #[.int .i64 k, .string ⟨#[]⟩, .slice a1 m1 u1, .slice a2 m2 u2, .string p, .slice a3 m3 u3])) ((((((W.setCell ⟨w.heap.size + 1, 0, none⟩ (.int .i64 k)).setCell ⟨w.heap.size + 1, 1, none⟩ (.string ⟨#[]⟩)).setCell ⟨w.heap.size + 1, 2, none⟩ (.slice a1 m1 u1)).setCell ⟨w.heap.size + 1, 3, none⟩ (.slice a2 m2 u2)).setCell ⟨w.heap.size + 1, 4, none⟩ (.string p)).setCell ⟨w.heap.size + 1, 5, none⟩ (.slice a3 m3 u3)) := by
 obtain ⟨t1, t2, t3, t4⟩ := stor x1 (.int .i64 k) (.string ⟨#[]⟩) (.slice a1 m1 u1) (.slice a2 m2 u2) (.string p) (.slice a3 m3 u3)
 refine ⟨_, rfl, ⟨k, _, a1, m1, u1, a2, m2, u2, p, a3, m3, u3, rfl⟩, ?_, fun s' hs' => ?_⟩
 ·rw [← he]
  exact t4 _ _ (Nat.le_succ _) hs
 cases hR : R with
 | no e => rw [hR] at hs'; cases hs'
 | ok s =>
  cases hX : X with
  | no e => rw [hR, hX] at hs'; cases hs'
  | ok t =>
   rw [hR, hX] at hs'
   cases hs'
   obtain ⟨h1, h2, rfl, h3⟩ := hok s t hR hX
   exact ⟨_, _, _, rfl, h1.stay (fun j hj => t2 j hj.2.2) (fun j hj => ⟨hj.1, by rw [t3]; exact hj.2.1⟩), h2.stay (fun j hj => t2 j hj.2.2) (fun j hj => ⟨hj.1, by rw [t3]; exact hj.2.1⟩), h3.stay (fun j hj => t2 j hj.2.2) (fun j hj => ⟨hj.1, by rw [t3]; exact hj.2.1⟩)⟩
end
section
open Go.RowKit
def RP (rb SB B g : Nat) (W4 : World) (kn kv : Value) (x y : ByteArray) (l m : List ByteArray) (v2 v3 : Value) (W : World) : Prop :=
 (St rb 0 W4 W ∧ W.heap[SB]? = some (.cells #[kn, .string ⟨#[]⟩, v2, v3, .string ⟨#[]⟩, kv] 73 (0, 0)) ∧ StrR B l v2 W ∧ StrR B m v3 W ∧ (∀ q, v2.ownBlock = some q → v3.ownBlock ≠ some q)) ∧
 (W.cell? ⟨g, 0, none⟩ = some (.string x) ∧ W.cell? ⟨g, 1, none⟩ = some (.string y) ∧ g < W.heap.size ∧ (∀ q, v2.ownBlock = some q → q ≠ g) ∧ (∀ q, v3.ownBlock = some q → q ≠ g)) ∧ B ≤ W.heap.size ∧ SB < B ∧ W4.heap.size ≤ SB ∧ g ≠ SB
theorem RP.below {rb SB B g : Nat} {W4 : World} {kn kv : Value} {x y : ByteArray} {l m : List ByteArray} {v2 v3 : Value} {W W' : World} (h : RP rb SB B g W4 kn kv x y l m v2 v3 W) (hb : Below W.heap.size W W') : RP rb SB B g W4 kn kv x y l m v2 v3 W' := by
 obtain ⟨⟨h1, h2, h3, h4, h5⟩, ⟨h6, h7, h8, h9, h10⟩, h11, h12⟩ := h
 exact ⟨⟨h1.and hb, upH h2 hb, own_below h3 hb, own_below h4 hb, h5⟩, ⟨(hb.cell (p := ⟨g, 0, none⟩) h8).trans h6, (hb.cell (p := ⟨g, 1, none⟩) h8).trans h7, Nat.lt_of_lt_of_le h8 hb.size, h9, h10⟩, Nat.le_trans h11 hb.size, h12⟩
theorem own_slice_block {g n c : Nat} {q : Nat} (h : (Value.slice (some ⟨g, 0, none⟩) n c).ownBlock = some q) : q = g := by
 cases h
 rfl
theorem cutJ {P : Program} {md : Region.Mode} {ops : Array Oper} {Q : Exit → Act → World → Prop} {S : World → Prop} {fuel : Nat} {listed : Array Bool} {a : Act} {w : World} {G : Nat → Nat → World → Prop} (C : Nat → Nat → World → Prop) (h : Hid (∀ g cp w, C g cp w → G g cp w) → wpAnyH P md ops Q S fuel listed a w) (t : ∀ g cp w, C g cp w → G g cp w) : wpAnyH P md ops Q S fuel listed a w := h (hidd t)
theorem RP.put2 {rb SB B g : Nat} {W4 : World} {kn kv : Value} {x y : ByteArray} {l m : List ByteArray} {v2 v3 : Value} {W w4 : World} {g1 n1 c1 : Nat} (h : RP rb SB B g W4 kn kv x y l m v2 v3 W) (hown : w4.ownsRow B 9 1 (.slice (some ⟨g1, 0, none⟩) n1 c1) n1 (l.map Value.string ++ [.string x])) (hn : n1 = (l ++ [x]).length) (hgrow : W.grownBy w4 v2.ownBlock) (hat : v2.ownBlock = some g1 ∨ g1 = W.heap.size) :
 w4.heap[SB]? = some (.cells #[kn, .string ⟨#[]⟩, v2, v3, .string ⟨#[]⟩, kv] 73 (0, 0)) ∧ w4.cell? ⟨g, 0, none⟩ = some (.string x) ∧ (w4.setCell ⟨SB, 2, none⟩ (.slice (some ⟨g1, 0, none⟩) n1 c1)).cell? ⟨g, 0, none⟩ = some (.string x) ∧ RP rb SB B g W4 kn kv x y (l ++ [x]) m (.slice (some ⟨g1, 0, none⟩) n1 c1) v3 (w4.setCell ⟨SB, 2, none⟩ (.slice (some ⟨g1, 0, none⟩) n1 c1)) := by
 obtain ⟨⟨h1, h2, h3, h4, h5⟩, ⟨h6, h7, h8, h9, h10⟩, h11, h12, h13, h14⟩ := h
 have hb : Below B W w4 := grown_below hgrow h11 (fun q hq => (own_typeL h3 q hq).1)
 have key : ∀ k, k < W.heap.size → v2.ownBlock ≠ some k → w4.heap[k]? = W.heap[k]? := fun k hk hne => hgrow.block k hk (fun e => hne e.symm)
 have hg : w4.heap[g]? = W.heap[g]? := key g h8 (fun e => h9 g e rfl)
 have k2 : w4.heap[SB]? = W.heap[SB]? := hb.block SB h12
 have g1b := own_typeL hown g1 rfl
 have ne1 : ∀ q, v3.ownBlock = some q → q ≠ g1 := fun q hq e => by
  subst e
  rcases hat with a | a
  ·exact h5 q a hq
  have := (own_typeL h4 q hq).2.1; omega
 have ne2 : g1 ≠ g := by
  rcases hat with a | a
  ·exact h9 g1 a
  omega
 have c0 : w4.cell? ⟨g, 0, none⟩ = some (.string x) := (World.cell?_of_block (a := ⟨g, 0, none⟩) hg).trans h6
 have far : ∀ k, k ≠ SB → (w4.setCell ⟨SB, 2, none⟩ (.slice (some ⟨g1, 0, none⟩) n1 c1)).heap[k]? = w4.heap[k]? := fun k hk => Below.heap_setCell _ _ _ _ hk
 have c0' := (World.cell?_of_block (a := ⟨g, 0, none⟩) (far g h14)).trans c0
 refine ⟨k2.trans h2, c0, c0', ⟨?_, cell_setL (k2.trans h2) _, ?_, ?_, ?_⟩, ⟨c0', ?_, ?_, ?_, h10⟩, ?_, h12, h13, h14⟩
 ·have h1' : Below W4.heap.size (W4.setCell ⟨rb, 7, none⟩ (.int .i64 0)) w4 := by
   have := h1
   unfold St at this
   exact this.trans (hb.mono (by omega))
  exact Below.setCell (p := ⟨SB, 2, none⟩) h1' h13 _
 ·subst hn
  have e : (l ++ [x]).map Value.string = l.map Value.string ++ [.string x] := by simp
  unfold StrR
  rw [e]
  exact own_keepL hown (fun q hq => far q (by have := own_slice_block hq; omega))
 ·exact own_keepL h4 (fun q hq => (far q (by have := (own_typeL h4 q hq).1; omega)).trans (key q (own_typeL h4 q hq).2.1 (fun e => h5 q e hq)))
 ·intro q hq e
  have := own_slice_block hq
  subst this
  exact ne1 q e rfl
 ·exact (World.cell?_of_block (a := ⟨g, 1, none⟩) ((far g h14).trans hg)).trans h7
 ·have := hb.size
  simp; omega
 ·intro q hq e
  have := own_slice_block hq
  omega
 have := hb.size
 simp; omega
theorem RP.put3 {rb SB B g : Nat} {W4 : World} {kn kv : Value} {x y : ByteArray} {l m : List ByteArray} {v2 v3 : Value} {W w4 : World} {g1 n1 c1 : Nat} (h : RP rb SB B g W4 kn kv x y l m v2 v3 W) (hown : w4.ownsRow B 9 1 (.slice (some ⟨g1, 0, none⟩) n1 c1) n1 (m.map Value.string ++ [.string y])) (hn : n1 = (m ++ [y]).length) (hgrow : W.grownBy w4 v3.ownBlock) (hat : v3.ownBlock = some g1 ∨ g1 = W.heap.size) :
 w4.heap[SB]? = some (.cells #[kn, .string ⟨#[]⟩, v2, v3, .string ⟨#[]⟩, kv] 73 (0, 0)) ∧ w4.cell? ⟨g, 1, none⟩ = some (.string y) ∧ (w4.setCell ⟨SB, 3, none⟩ (.slice (some ⟨g1, 0, none⟩) n1 c1)).cell? ⟨g, 1, none⟩ = some (.string y) ∧ RP rb SB B g W4 kn kv x y l (m ++ [y]) v2 (.slice (some ⟨g1, 0, none⟩) n1 c1) (w4.setCell ⟨SB, 3, none⟩ (.slice (some ⟨g1, 0, none⟩) n1 c1)) := by
 obtain ⟨⟨h1, h2, h3, h4, h5⟩, ⟨h6, h7, h8, h9, h10⟩, h11, h12, h13, h14⟩ := h
 have hb : Below B W w4 := grown_below hgrow h11 (fun q hq => (own_typeL h4 q hq).1)
 have key : ∀ k, k < W.heap.size → v3.ownBlock ≠ some k → w4.heap[k]? = W.heap[k]? := fun k hk hne => hgrow.block k hk (fun e => hne e.symm)
 have hg : w4.heap[g]? = W.heap[g]? := key g h8 (fun e => h10 g e rfl)
 have k2 : w4.heap[SB]? = W.heap[SB]? := hb.block SB h12
 have g1b := own_typeL hown g1 rfl
 have ne1 : ∀ q, v2.ownBlock = some q → q ≠ g1 := fun q hq e => by
  subst e
  rcases hat with a | a
  ·exact h5 q hq a
  have := (own_typeL h3 q hq).2.1; omega
 have ne2 : g1 ≠ g := by
  rcases hat with a | a
  ·exact h10 g1 a
  omega
 have c0 : w4.cell? ⟨g, 1, none⟩ = some (.string y) := (World.cell?_of_block (a := ⟨g, 1, none⟩) hg).trans h7
 have far : ∀ k, k ≠ SB → (w4.setCell ⟨SB, 3, none⟩ (.slice (some ⟨g1, 0, none⟩) n1 c1)).heap[k]? = w4.heap[k]? := fun k hk => Below.heap_setCell _ _ _ _ hk
 have c0' := (World.cell?_of_block (a := ⟨g, 1, none⟩) (far g h14)).trans c0
 refine ⟨k2.trans h2, c0, c0', ⟨?_, cell_setL (k2.trans h2) _, ?_, ?_, ?_⟩, ⟨?_, c0', ?_, h9, ?_⟩, ?_, h12, h13, h14⟩
 ·have h1' : Below W4.heap.size (W4.setCell ⟨rb, 7, none⟩ (.int .i64 0)) w4 := by
   have := h1
   unfold St at this
   exact this.trans (hb.mono (by omega))
  exact Below.setCell (p := ⟨SB, 3, none⟩) h1' h13 _
 ·exact own_keepL h3 (fun q hq => (far q (by have := (own_typeL h3 q hq).1; omega)).trans (key q (own_typeL h3 q hq).2.1 (fun e => h5 q hq e)))
 ·subst hn
  have e : (m ++ [y]).map Value.string = m.map Value.string ++ [.string y] := by simp
  unfold StrR
  rw [e]
  exact own_keepL hown (fun q hq => far q (by have := own_slice_block hq; omega))
 ·intro q hq e
  have := own_slice_block e
  exact ne1 q hq this
 ·exact (World.cell?_of_block (a := ⟨g, 0, none⟩) ((far g h14).trans hg)).trans h6
 ·have := hb.size
  simp; omega
 ·intro q hq e
  have := own_slice_block hq
  omega
 have := hb.size
 simp; omega
end
end Go.Proofs.YtonafbennobgdaaGreatDoor.R3
