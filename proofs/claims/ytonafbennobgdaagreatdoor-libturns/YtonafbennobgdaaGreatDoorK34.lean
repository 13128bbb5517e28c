/- Chapter 3: WHAT Parse TELLS. -/
import Derived.Test.YtonafbennobgdaaGreatDoorK33
namespace Go.Proofs.YtonafbennobgdaaGreatDoor
set_option linter.unusedVariables false
set_option linter.unusedSimpArgs false
open Go.RowKit

theorem chkL_len (g : Dat → Nat → Int × Nat) (hg : ∀ d n, n + 1 ≤ (g d n).2) : ∀ (l : List Dat) (n : Nat), (chkL g l n).1 = 0 → n + l.length ≤ (chkL g l n).2
 | [], n, _ => by simp [chkL]
 | d :: r, n, h => by
  unfold chkL at h ⊢
  have := hg d n
  by_cases h0 : (g d n).1 = 0
  ·rw [if_pos h0] at h ⊢
   have := chkL_len g hg r _ h
   simp
   omega
  ·rw [if_neg h0] at h
   exact absurd h h0
theorem chk_more : ∀ (f : Nat) (d : Dat) (n : Nat), n + 1 ≤ (chk f d n).2
 | 0, d, n => Nat.le_refl _
 | f + 1, d, n => by
  unfold chk
  split
  ·exact Nat.le_refl _
  ·split
   ·split
    ·have aux : ∀ (l : List Dat) (m : Nat), m ≤ (chkL (chk f) l m).2 := by
      intro l
      induction l with
      | nil => intro m; exact Nat.le_refl _
      | cons x r ih =>
       intro m
       unfold chkL
       have := chk_more f x m
       split
       ·have := ih (chk f x m).2
        omega
       ·omega
     exact aux _ _
    ·exact Nat.le_refl _
   ·exact Nat.le_refl _
theorem named_ok {s : ByteArray} (h : namedB s = true) : s.size ≤ 20 ∧ s ≠ ⟨#[]⟩ := by
 unfold namedB at h
 simp only [Bool.and_eq_true, decide_eq_true_eq] at h
 refine ⟨h.1.1.2, fun e => ?_⟩
 rw [e] at h
 exact absurd h.1.1.1 (by decide)
theorem okD_chk : ∀ (f : Nat) (d : Dat) (n : Nat), n ≤ 2000 → (chk f d n).1 = 0 → okD d
 | 0, d, n, _, h => by simp [chk] at h
 | f + 1, ⟨k, m, nm, st, lb, ks⟩, n, hn, h => by
  unfold chk at h
  by_cases c1 : 2000 < n + 1
  ·rw [if_pos c1] at h; simp at h
  rw [if_neg c1] at h
  by_cases c2 : alone ⟨k, m, nm, st, lb, ks⟩ = 0
  case neg => rw [if_neg c2] at h; exact absurd h c2
  rw [if_pos c2] at h
  rw [okD]
  refine ⟨fun h3 => ?_, fun h4 => ?_⟩
  ·subst h3
   unfold alone at c2
   simp at c2
   by_cases hb : namedB nm = true
   ·exact named_ok hb
   ·rw [if_neg hb] at c2; exact absurd c2 (by decide)
  ·rw [if_pos h4] at h
   have hle := chkL_le (chk f) (chk_le f) ks (n + 1) (by omega) h
   have hlen := chkL_len (chk f) (chk_more f) ks (n + 1) h
   refine ⟨by show ks.length ≤ 2000; have : (chkL (chk f) ks (n + 1)).2 ≤ 2000 := hle; have : n + 1 + ks.length ≤ (chkL (chk f) ks (n + 1)).2 := hlen; omega, ?_⟩
   have aux : ∀ (l : List Dat) (m : Nat), m ≤ 2000 → (chkL (chk f) l m).1 = 0 → okL l := by
    intro l
    induction l with
    | nil => intro m _ _; rw [okL]; trivial
    | cons x r ih =>
     intro m hm hx
     unfold chkL at hx
     by_cases h0 : (chk f x m).1 = 0
     ·rw [if_pos h0] at hx
      rw [okL]
      exact ⟨okD_chk f x m hm h0, ih _ (chk_le f x m hm h0) hx⟩
     ·rw [if_neg h0] at hx; exact absurd hx h0
   exact aux ks (n + 1) (by omega) h
theorem wrong_first (d : Dat) : (wrong [d]).1 = (chk 40 d 0).1 := by
 unfold wrong wrongFrom
 by_cases h : (chk 40 d 0).1 = 0
 ·rw [if_pos h, h]; rfl
 ·rw [if_neg h]
structure EnvW (A : Nat) (E : Env) (f1 f2 f3 : Value) (w : World) : Prop where
 fl : FL (fun k => k < A) E.files f1 w
 fe : SV (fun k => k < A) E.features f2 w
 li : SV (fun k => k < A) E.libs f3 w
 flL : E.files.length ≤ 9223372036854775807
 feL : E.features.length ≤ 9223372036854775807
 liL : E.libs.length ≤ 9223372036854775807
theorem EnvW.below {A : Nat} {E : Env} {f1 f2 f3 : Value} {w w' : World} (h : EnvW A E f1 f2 f3 w) (hb : Below A w w') : EnvW A E f1 f2 f3 w' :=
 ⟨h.fl.stay (fun k hk => hb.block k hk) (fun _ h => h), h.fe.stay (fun k hk => hb.block k hk) (fun _ h => h), h.li.stay (fun k hk => hb.block k hk) (fun _ h => h), h.flL, h.feL, h.liL⟩
def ToldA (r : Er LibS) (w : World) (e : Ending) (w' : World) : Prop := Below w.heap.size w w' ∧ match r with
 | .ok s => ∃ ev iv bv, e = .returned (.tuple #[.agg #[.string s.name, ev, iv, bv], .int .i64 0]) ∧ LibM (fun k => w.heap.size ≤ k ∧ k < w'.heap.size) s ev iv bv w'
 | .no x => e = .returned (.tuple #[.agg #[.string ⟨#[]⟩, .slice none 0 0, .slice none 0 0, .slice none 0 0], .int .i64 x])
set_option maxRecDepth 100000 in
set_option maxHeartbeats 12800000 in
theorem Parse_any (A f : Nat) (E : Env) (f1 f2 f3 : Value) (d : Dat) (a : Option Addr) (cap : Nat) (w : World) (hA : A ≤ w.heap.size) (h0 : 0 < A) (henv : EnvW A E f1 f2 f3 w) (htab : TabW w) (hd : Dc (fun k => k < A) w f a d.kids) (hc : d.kids.length ≤ cap) (hnm : d.name.size ≤ maxLen) :
  Calls Tryz.prog 9 #[f1, f2, f3, dv d a cap] w (ToldA (parseF E d) w) := by
 obtain ⟨a1, c1, hf1, _⟩ := id henv.fl
 obtain ⟨a2, c2, hf2, _, _⟩ := id henv.fe
 obtain ⟨a3, c3, hf3, _, _⟩ := id henv.li
 subst hf1 hf2 hf3
 obtain ⟨n1, hn1⟩ : ∃ n1, n1 = E.files.length := ⟨_, rfl⟩
 obtain ⟨n2, hn2⟩ : ∃ n2, n2 = E.features.length := ⟨_, rfl⟩
 obtain ⟨n3, hn3⟩ : ∃ n3, n3 = E.libs.length := ⟨_, rfl⟩
 obtain ⟨kn, hkn⟩ : ∃ kn, kn = d.kids.length := ⟨_, rfl⟩
 unfold dv
 rw [← hn1, ← hn2, ← hn3, ← hkn]
 rw [← hn1, ← hn2, ← hn3] at henv
 obtain ⟨W5, hW5⟩ : ∃ W5, W5 = (((((w.alloc (.cells #[(.slice a1 n1 c1)] 22)).alloc (.cells #[(.slice a2 n2 c2)] 23)).alloc (.cells #[(.slice a3 n3 c3)] 23)).alloc (.cells #[.int .i64 d.kind, .int .i64 d.n, .string d.name, .int .i64 d.stamp, .int .i64 d.lib, .slice a kn cap] 26)).alloc (.cells #[.string ⟨#[]⟩, .slice none 0 0, .slice none 0 0, .slice none 0 0] 30)) := ⟨_, rfl⟩
 have g1 : Below w.heap.size w W5 := by
  rw [hW5]
  exact (((((Below.refl _ _).alloc (Nat.le_refl _) _).alloc (by simp) _).alloc (by simp <;> omega) _).alloc (by simp <;> omega) _).alloc (by simp <;> omega) _
 have gs : W5.heap.size = w.heap.size + 5 := by rw [hW5]; simp
 have b0 : W5.heap[w.heap.size]? = some (.cells #[(.slice a1 n1 c1)] 22 (0, 0)) := by
  rw [hW5, Below.heap_alloc _ _ _ (by simp <;> omega), Below.heap_alloc _ _ _ (by simp <;> omega), Below.heap_alloc _ _ _ (by simp <;> omega), Below.heap_alloc _ _ _ (by simp)]; exact World.alloc_heap_new w _
 have b1 : W5.heap[w.heap.size + 1]? = some (.cells #[(.slice a2 n2 c2)] 23 (0, 0)) := by
  rw [hW5, Below.heap_alloc _ _ _ (by simp <;> omega), Below.heap_alloc _ _ _ (by simp <;> omega), Below.heap_alloc _ _ _ (by simp)]
  have := World.alloc_heap_new (w.alloc (.cells #[(.slice a1 n1 c1)] 22)) (.cells #[(.slice a2 n2 c2)] 23)
  simpa using this
 have b2 : W5.heap[w.heap.size + 2]? = some (.cells #[(.slice a3 n3 c3)] 23 (0, 0)) := by
  rw [hW5, Below.heap_alloc _ _ _ (by simp <;> omega), Below.heap_alloc _ _ _ (by simp)]
  have := World.alloc_heap_new ((w.alloc (.cells #[(.slice a1 n1 c1)] 22)).alloc (.cells #[(.slice a2 n2 c2)] 23)) (.cells #[(.slice a3 n3 c3)] 23)
  simpa using this
 have b3 : W5.heap[w.heap.size + 3]? = some (.cells #[.int .i64 d.kind, .int .i64 d.n, .string d.name, .int .i64 d.stamp, .int .i64 d.lib, .slice a kn cap] 26 (0, 0)) := by
  rw [hW5, Below.heap_alloc _ _ _ (by simp)]
  have := World.alloc_heap_new (((w.alloc (.cells #[(.slice a1 n1 c1)] 22)).alloc (.cells #[(.slice a2 n2 c2)] 23)).alloc (.cells #[(.slice a3 n3 c3)] 23)) (.cells #[.int .i64 d.kind, .int .i64 d.n, .string d.name, .int .i64 d.stamp, .int .i64 d.lib, .slice a kn cap] 26)
  simpa using this
 have b4 : W5.heap[w.heap.size + 4]? = some (.cells #[.string ⟨#[]⟩, .slice none 0 0, .slice none 0 0, .slice none 0 0] 30 (0, 0)) := by
  rw [hW5]
  have := World.alloc_heap_new ((((w.alloc (.cells #[(.slice a1 n1 c1)] 22)).alloc (.cells #[(.slice a2 n2 c2)] 23)).alloc (.cells #[(.slice a3 n3 c3)] 23)).alloc (.cells #[.int .i64 d.kind, .int .i64 d.n, .string d.name, .int .i64 d.stamp, .int .i64 d.lib, .slice a kn cap] 26)) (.cells #[.string ⟨#[]⟩, .slice none 0 0, .slice none 0 0, .slice none 0 0] 30)
  simpa using this
 have y0 : W5.cell? ⟨w.heap.size + 3, 0, none⟩ = some (.int .i64 d.kind) := (cellO b3).trans rfl
 have y1 : W5.cell? ⟨w.heap.size + 3, 1, none⟩ = some (.int .i64 d.n) := (cellO b3).trans rfl
 have y2 : W5.cell? ⟨w.heap.size + 3, 2, none⟩ = some (.string d.name) := (cellO b3).trans rfl
 have y3 : W5.cell? ⟨w.heap.size + 3, 3, none⟩ = some (.int .i64 d.stamp) := (cellO b3).trans rfl
 have y4 : W5.cell? ⟨w.heap.size + 3, 4, none⟩ = some (.int .i64 d.lib) := (cellO b3).trans rfl
 have y5 : W5.cell? ⟨w.heap.size + 3, 5, none⟩ = some (.slice a kn cap) := (cellO b3).trans rfl
 have g6 : Below W5.heap.size W5 (W5.alloc (.cells #[.int .i64 d.kind, .int .i64 d.n, .string d.name, .int .i64 d.stamp, .int .i64 d.lib, .slice a kn cap] 26)) := (Below.refl _ _).alloc (Nat.le_refl _) _
 have b6 : (W5.alloc (.cells #[.int .i64 d.kind, .int .i64 d.n, .string d.name, .int .i64 d.stamp, .int .i64 d.lib, .slice a kn cap] 26)).heap[W5.heap.size]? = some (.cells #[.int .i64 d.kind, .int .i64 d.n, .string d.name, .int .i64 d.stamp, .int .i64 d.lib, .slice a kn cap] 26 (0, 0)) := World.alloc_heap_new W5 _
 have WR := hidd (Wrong_any (W5.heap.size + 1) (f + 1) [d] (some ⟨W5.heap.size, 0, none⟩) 1 (W5.alloc (.cells #[.int .i64 d.kind, .int .i64 d.n, .string d.name, .int .i64 d.stamp, .int .i64 d.lib, .slice a kn cap] 26)) ⟨by simp, Or.inr ⟨W5.heap.size, 0, rfl, Nat.lt_succ_self _, fun i d' hi => by
  match i, hi with
  | 0, hi =>
   simp at hi
   subst hi
   refine ⟨a, cap, (cellO b6).trans rfl, (cellO b6).trans rfl, (cellO b6).trans rfl, (cellO b6).trans rfl, (cellO b6).trans rfl, (by rw [← hkn]; exact (cellO b6).trans rfl), hnm, ?_⟩
   exact Dc.lies (fun k hk => by omega) f a d.kids (hd.below ((g1.mono hA).trans (g6.mono (by omega))))
  | i + 1, hi => simp at hi⟩⟩ (by simp))
 have HB5 := hidd g1
 have HB6 : Hid (Below w.heap.size w (W5.alloc (.cells #[.int .i64 d.kind, .int .i64 d.n, .string d.name, .int .i64 d.stamp, .int .i64 d.lib, .slice a kn cap] 26))) := g1.trans (g6.mono g1.size)
 have HBL : Hid (∀ W, Below W5.heap.size W5 W → W.heap[w.heap.size]? = some (.cells #[(.slice a1 n1 c1)] 22 (0, 0)) ∧ W.heap[w.heap.size + 1]? = some (.cells #[(.slice a2 n2 c2)] 23 (0, 0)) ∧ W.heap[w.heap.size + 2]? = some (.cells #[(.slice a3 n3 c3)] 23 (0, 0)) ∧ W.heap[w.heap.size + 3]? = some (.cells #[.int .i64 d.kind, .int .i64 d.n, .string d.name, .int .i64 d.stamp, .int .i64 d.lib, .slice a kn cap] 26 (0, 0)) ∧ W.heap[w.heap.size + 4]? = some (.cells #[.string ⟨#[]⟩, .slice none 0 0, .slice none 0 0, .slice none 0 0] 30 (0, 0))) := fun W hb => ⟨(hb.block _ (by omega)).trans b0, (hb.block _ (by omega)).trans b1, (hb.block _ (by omega)).trans b2, (hb.block _ (by omega)).trans b3, (hb.block _ (by omega)).trans b4⟩
 have HG6 := hidd g6
 have HEN : Hid (A ≤ w.heap.size ∧ 0 < A ∧ EnvW A E (.slice a1 n1 c1) (.slice a2 n2 c2) (.slice a3 n3 c3) w ∧ TabW w ∧ Dc (fun k => k < A) w f a d.kids ∧ d.kids.length ≤ cap) := ⟨hA, h0, henv, htab, hd, hc⟩
 have HN : Hid (n1 = E.files.length ∧ kn = d.kids.length ∧ W5.heap.size = w.heap.size + 5) := ⟨hn1, hkn, gs⟩
 have HW := hidd hW5.symm
 have HPF : Hid (parseF E d = if (wrong [d]).1 = 0 then (if E.files.length ≤ 30 then allF E d else .no 5) else .no (wrong [d]).1) := rfl
 have HOK : Hid ((wrong [d]).1 = 0 → okD d) := fun h => okD_chk 40 d 0 (by decide) (by rw [← wrong_first]; exact h)
 clear g1 gs b0 b1 b2 b3 b4 g6 b6 hA h0 henv htab hd hc hnm hn1 hn2 hn3 hkn hW5
 simp only [List.length_cons, List.length_nil] at WR
 generalize parseF E d = pr at HPF ⊢
 generalize wrong [d] = x at WR HPF HOK
 obtain ⟨x1, x2⟩ := x
 unfold fv at WR
 simp only at WR HPF HOK
 go_enter Tryz.func9, Tryz.ntmps9
 go_upto_region 1 with fail
 rw [HW.out]
 clear HW
 go_wp2_with fail
 refine WR.out.mono ?_
 rintro e w1 ⟨rfl, hb1⟩
 have HB1 : Hid (Below w.heap.size w (w1.alloc (.cells #[.int .i64 x1, .int .i64 x2] 40)) ∧ Below W5.heap.size W5 (w1.alloc (.cells #[.int .i64 x1, .int .i64 x2] 40))) := ⟨(HB6.out.trans (hb1.mono HB6.out.size)).alloc (Nat.le_trans HB6.out.size hb1.size) _, (HG6.out.trans (hb1.mono HG6.out.size)).alloc (Nat.le_trans HG6.out.size hb1.size) _⟩
 obtain ⟨e0, e1, e2, e3, e4⟩ := HBL.out _ HB1.out.2
 have HE4 := hidd e4
 have q0 : (w1.alloc (.cells #[.int .i64 x1, .int .i64 x2] 40)).cell? ⟨w.heap.size, 0, none⟩ = some (.slice a1 n1 c1) := (cellO e0).trans rfl
 have r0 : (w1.alloc (.cells #[.int .i64 x1, .int .i64 x2] 40)).cell? ⟨w.heap.size + 4, 0, none⟩ = some (.string ⟨#[]⟩) := (cellO e4).trans rfl
 have r1 : (w1.alloc (.cells #[.int .i64 x1, .int .i64 x2] 40)).cell? ⟨w.heap.size + 4, 1, none⟩ = some (.slice none 0 0) := (cellO e4).trans rfl
 have r2 : (w1.alloc (.cells #[.int .i64 x1, .int .i64 x2] 40)).cell? ⟨w.heap.size + 4, 2, none⟩ = some (.slice none 0 0) := (cellO e4).trans rfl
 have r3 : (w1.alloc (.cells #[.int .i64 x1, .int .i64 x2] 40)).cell? ⟨w.heap.size + 4, 3, none⟩ = some (.slice none 0 0) := (cellO e4).trans rfl
 have s0 := looseO (q := 0) e4
 have s1 := looseO (q := 1) e4
 have s2 := looseO (q := 2) e4
 have s3 := looseO (q := 3) e4
 have HS1 : Hid (w1.heap.size ≠ w.heap.size + 4) := by
  have q1 := hb1.size
  have q2 := HG6.out.size
  have q3 := HN.out.2.2
  show _ ≠ _
  omega
 clear hb1 WR y0 y1 y2 y3 y4 y5 e0 e1 e2 e3 e4
 have qe : (w1.alloc (.cells #[.int .i64 x1, .int .i64 x2] 40)).cell? ⟨w1.heap.size, 0, none⟩ = some (.int .i64 x1) := (cellO (World.alloc_heap_new w1 (.cells #[.int .i64 x1, .int .i64 x2] 40))).trans rfl
 by_cases hx : x1 = 0
 case neg =>
  have k1 : (x1 != 0) = true := by simpa using hx
  have HR : Hid (pr = .no x1) := by show _ = _; rw [HPF.out, if_neg hx]
  clear HPF HOK hx q0
  go_upto_region 3 with fail
  generalize (w1.alloc (.cells #[.int .i64 x1, .int .i64 x2] 40)) = W2 at *
  have ne1 : ¬ w1.heap.size = w.heap.size + 1 + 1 + 1 + 1 := HS1.out
  have ne2 : ¬ w.heap.size + 1 + 1 + 1 + 1 = w1.heap.size := fun e => HS1.out e.symm
  go_region
  all_goals
   go_wp2_with fail
   first
    | refine bodyPost_ret (v := .tuple #[.agg #[.string ⟨#[]⟩, .slice none 0 0, .slice none 0 0, .slice none 0 0], .int .i64 x1]) (by simp [results, Tryz.results9, go_sem, r0, r1, r2, r3]) rfl ⟨?_, ?_⟩
    | refine bodyPost_ret (v := .tuple #[.agg #[.string ⟨#[]⟩, .slice none 0 0, .slice none 0 0, .slice none 0 0], .int .i64 x1]) (by simp [results, Tryz.results9, go_sem]) rfl ⟨?_, ?_⟩
   ·first
     | exact (((HB1.out.1.setCell (p := ⟨w.heap.size + 4, 0, none⟩) (Nat.le_add_right _ _) _).setCell (p := ⟨w.heap.size + 4, 1, none⟩) (Nat.le_add_right _ _) _).setCell (p := ⟨w.heap.size + 4, 2, none⟩) (Nat.le_add_right _ _) _).setCell (p := ⟨w.heap.size + 4, 3, none⟩) (Nat.le_add_right _ _) _
     | exact ((((HB1.out.1.drew).setCell (p := ⟨w.heap.size + 4, 0, none⟩) (Nat.le_add_right _ _) _).setCell (p := ⟨w.heap.size + 4, 1, none⟩) (Nat.le_add_right _ _) _).setCell (p := ⟨w.heap.size + 4, 2, none⟩) (Nat.le_add_right _ _) _).setCell (p := ⟨w.heap.size + 4, 3, none⟩) (Nat.le_add_right _ _) _
     | exact ((((HB1.out.1.setCell (p := ⟨w.heap.size + 4, 0, none⟩) (Nat.le_add_right _ _) _).setCell (p := ⟨w.heap.size + 4, 1, none⟩) (Nat.le_add_right _ _) _).setCell (p := ⟨w.heap.size + 4, 2, none⟩) (Nat.le_add_right _ _) _).setCell (p := ⟨w.heap.size + 4, 3, none⟩) (Nat.le_add_right _ _) _).drew
   ·rw [HR.out]
 case pos =>
  subst hx
  have k1 : ((0 : Int) != 0) = false := rfl
  have HOK' := hidd (HOK.out rfl)
  by_cases hfl : E.files.length ≤ 30
  case neg =>
   have HR : Hid (pr = .no 5) := by show _ = _; rw [HPF.out, if_pos rfl, if_neg hfl]
   have k2 : decide ((30 : Int) < (n1 : Int)) = true := by have := HN.out.1; simp; omega
   have k3 : (30 : Int) < (n1 : Int) := by have := HN.out.1; omega
   clear HPF HOK HOK' hfl
   go_upto_region 4 with fail
   generalize (w1.alloc (.cells #[.int .i64 0, .int .i64 x2] 40)) = W2 at *
   go_wp2_with fail
   first
    | refine bodyPost_ret (v := .tuple #[.agg #[.string ⟨#[]⟩, .slice none 0 0, .slice none 0 0, .slice none 0 0], .int .i64 5]) (by simp [results, Tryz.results9, go_sem, r0, r1, r2, r3]) rfl ⟨?_, ?_⟩
    | refine bodyPost_ret (v := .tuple #[.agg #[.string ⟨#[]⟩, .slice none 0 0, .slice none 0 0, .slice none 0 0], .int .i64 5]) (by simp [results, Tryz.results9, go_sem]) rfl ⟨?_, ?_⟩
   ·first
     | exact (((HB1.out.1.setCell (p := ⟨w.heap.size + 4, 0, none⟩) (Nat.le_add_right _ _) _).setCell (p := ⟨w.heap.size + 4, 1, none⟩) (Nat.le_add_right _ _) _).setCell (p := ⟨w.heap.size + 4, 2, none⟩) (Nat.le_add_right _ _) _).setCell (p := ⟨w.heap.size + 4, 3, none⟩) (Nat.le_add_right _ _) _
     | exact ((((HB1.out.1.drew).setCell (p := ⟨w.heap.size + 4, 0, none⟩) (Nat.le_add_right _ _) _).setCell (p := ⟨w.heap.size + 4, 1, none⟩) (Nat.le_add_right _ _) _).setCell (p := ⟨w.heap.size + 4, 2, none⟩) (Nat.le_add_right _ _) _).setCell (p := ⟨w.heap.size + 4, 3, none⟩) (Nat.le_add_right _ _) _
     | exact ((((HB1.out.1.setCell (p := ⟨w.heap.size + 4, 0, none⟩) (Nat.le_add_right _ _) _).setCell (p := ⟨w.heap.size + 4, 1, none⟩) (Nat.le_add_right _ _) _).setCell (p := ⟨w.heap.size + 4, 2, none⟩) (Nat.le_add_right _ _) _).setCell (p := ⟨w.heap.size + 4, 3, none⟩) (Nat.le_add_right _ _) _).drew
   ·rw [HR.out]
  case pos =>
   have HR : Hid (pr = allF E d) := by show _ = _; rw [HPF.out, if_pos rfl, if_pos hfl]
   have k2 : decide ((30 : Int) < (n1 : Int)) = false := by have := HN.out.1; simp; omega
   have k3 : ¬ (30 : Int) < (n1 : Int) := by have := HN.out.1; omega
   have HFL := hidd hfl
   clear HPF HOK hfl
   go_upto_region 4 with fail
   generalize (w1.alloc (.cells #[.int .i64 0, .int .i64 x2] 40)) = W2 at *
   have hl4 : w.heap.size + 4 < W2.heap.size := (Array.getElem?_eq_some_iff.1 HE4.out).1
   have AT := hidd (attempt_28 w.heap.size (w.heap.size + 1) (w.heap.size + 2) (w.heap.size + 3) (w.heap.size + 4) (allF E d) W2 hl4 (fun W hb hlt => by
    obtain ⟨e0, e1, e2, e3, e4⟩ := HBL.out W (HB1.out.2.trans (hb.mono HB1.out.2.size))
    have hbw : Below w.heap.size w W := HB1.out.1.trans (hb.mono HB1.out.1.size)
    obtain ⟨h1, h2, h3, h4, h5, h6⟩ := HEN.out
    have hw := h3.below (hbw.mono h1)
    refine parse1_any A f E (.slice a1 n1 c1) (.slice a2 n2 c2) (.slice a3 n3 c3) d a cap _ _ _ _ _ W (Nat.le_trans h1 hbw.size) h2 ⟨hw.fl, hw.fe, hw.li, HFL.out, hw.feL, hw.liL⟩ (h4.below hbw (by omega)) (h5.below (hbw.mono h1)) h6 HOK'.out ((cellO e0).trans rfl) ((cellO e1).trans rfl) ((cellO e2).trans rfl) ?_ e4
    rw [← HN.out.2.1]
    exact e3))
   clear hl4 HEN HBL
   generalize allF E d = ar at *
   go_wp2_with fail
   refine AT.out.mono ?_
   rintro e w3 ⟨hk, hr⟩
   have HK := hidd hk
   cases ar with
   | no z =>
    obtain ⟨rfl, hb3⟩ := hr
    have HB3 : Hid (Below w.heap.size w w3 ∧ True) := ⟨HB1.out.1.trans (hb3.mono HB1.out.1.size), trivial⟩
    have e4 := (hb3.block _ (Array.getElem?_eq_some_iff.1 HE4.out).1).trans HE4.out
    have r0 : w3.cell? ⟨w.heap.size + 4, 0, none⟩ = some (.string ⟨#[]⟩) := (cellO e4).trans rfl
    have r1 : w3.cell? ⟨w.heap.size + 4, 1, none⟩ = some (.slice none 0 0) := (cellO e4).trans rfl
    have r2 : w3.cell? ⟨w.heap.size + 4, 2, none⟩ = some (.slice none 0 0) := (cellO e4).trans rfl
    have r3 : w3.cell? ⟨w.heap.size + 4, 3, none⟩ = some (.slice none 0 0) := (cellO e4).trans rfl
    have s0 := looseO (q := 0) e4
    have s1 := looseO (q := 1) e4
    have s2 := looseO (q := 2) e4
    have s3 := looseO (q := 3) e4
    clear e4 hk hb3
    go_wp2_with fail
    first
     | refine bodyPost_ret (v := .tuple #[.agg #[.string ⟨#[]⟩, .slice none 0 0, .slice none 0 0, .slice none 0 0], .int .i64 z]) (by simp [results, Tryz.results9, go_sem, r0, r1, r2, r3]) rfl ⟨?_, ?_⟩
     | refine bodyPost_ret (v := .tuple #[.agg #[.string ⟨#[]⟩, .slice none 0 0, .slice none 0 0, .slice none 0 0], .int .i64 z]) (by simp [results, Tryz.results9, go_sem]) rfl ⟨?_, ?_⟩
    ·first
      | exact (((HB3.out.1.setCell (p := ⟨w.heap.size + 4, 0, none⟩) (Nat.le_add_right _ _) _).setCell (p := ⟨w.heap.size + 4, 1, none⟩) (Nat.le_add_right _ _) _).setCell (p := ⟨w.heap.size + 4, 2, none⟩) (Nat.le_add_right _ _) _).setCell (p := ⟨w.heap.size + 4, 3, none⟩) (Nat.le_add_right _ _) _
      | exact ((((HB3.out.1.drew).setCell (p := ⟨w.heap.size + 4, 0, none⟩) (Nat.le_add_right _ _) _).setCell (p := ⟨w.heap.size + 4, 1, none⟩) (Nat.le_add_right _ _) _).setCell (p := ⟨w.heap.size + 4, 2, none⟩) (Nat.le_add_right _ _) _).setCell (p := ⟨w.heap.size + 4, 3, none⟩) (Nat.le_add_right _ _) _
      | exact ((((HB3.out.1.setCell (p := ⟨w.heap.size + 4, 0, none⟩) (Nat.le_add_right _ _) _).setCell (p := ⟨w.heap.size + 4, 1, none⟩) (Nat.le_add_right _ _) _).setCell (p := ⟨w.heap.size + 4, 2, none⟩) (Nat.le_add_right _ _) _).setCell (p := ⟨w.heap.size + 4, 3, none⟩) (Nat.le_add_right _ _) _).drew
    ·rw [HR.out]
   | ok s =>
    obtain ⟨rfl, ev, iv, bv, e4, hlm⟩ := hr
    obtain ⟨ea, ec, hev, _, _⟩ := id hlm.ex
    obtain ⟨ba, bc, bf, hbv, _, _⟩ := id hlm.bo
    obtain ⟨ia, in_, ic, hiv⟩ := SeL.slice hlm.im
    subst hev hbv hiv
    have HLM := hidd hlm
    have HE5 := hidd e4
    have r0 : w3.cell? ⟨w.heap.size + 4, 0, none⟩ = some (.string s.name) := (cellO e4).trans rfl
    have r1 : w3.cell? ⟨w.heap.size + 4, 1, none⟩ = some (.slice ea s.exports.length ec) := (cellO e4).trans rfl
    have r2 : w3.cell? ⟨w.heap.size + 4, 2, none⟩ = some (.slice ia in_ ic) := (cellO e4).trans rfl
    have r3 : w3.cell? ⟨w.heap.size + 4, 3, none⟩ = some (.slice ba s.body.length bc) := (cellO e4).trans rfl
    have s0 := looseO (q := 0) e4
    have s1 := looseO (q := 1) e4
    have s2 := looseO (q := 2) e4
    have s3 := looseO (q := 3) e4
    clear e4 hk hlm
    go_wp2_with fail
    have hk := set4 HE5.out (.string s.name) (.slice ea s.exports.length ec) (.slice ia in_ ic) (.slice ba s.body.length bc)
    have far : ∀ k, k ≠ w.heap.size + 4 → ((((w3.setCell ⟨w.heap.size + 4, 0, none⟩ (.string s.name)).setCell ⟨w.heap.size + 4, 1, none⟩ (.slice ea s.exports.length ec)).setCell ⟨w.heap.size + 4, 2, none⟩ (.slice ia in_ ic)).setCell ⟨w.heap.size + 4, 3, none⟩ (.slice ba s.body.length bc)).heap[k]? = w3.heap[k]? := fun k hk => by
     rw [Below.heap_setCell _ _ _ _ (show k ≠ w.heap.size + 4 from hk), Below.heap_setCell _ _ _ _ (show k ≠ w.heap.size + 4 from hk), Below.heap_setCell _ _ _ _ (show k ≠ w.heap.size + 4 from hk), Below.heap_setCell _ _ _ _ (show k ≠ w.heap.size + 4 from hk)]
    have hsz : ((((w3.setCell ⟨w.heap.size + 4, 0, none⟩ (.string s.name)).setCell ⟨w.heap.size + 4, 1, none⟩ (.slice ea s.exports.length ec)).setCell ⟨w.heap.size + 4, 2, none⟩ (.slice ia in_ ic)).setCell ⟨w.heap.size + 4, 3, none⟩ (.slice ba s.body.length bc)).heap.size = w3.heap.size := by simp
    have hbk : Below w.heap.size w ((((w3.setCell ⟨w.heap.size + 4, 0, none⟩ (.string s.name)).setCell ⟨w.heap.size + 4, 1, none⟩ (.slice ea s.exports.length ec)).setCell ⟨w.heap.size + 4, 2, none⟩ (.slice ia in_ ic)).setCell ⟨w.heap.size + 4, 3, none⟩ (.slice ba s.body.length bc)) := by
     have k0 : Below w.heap.size w w3 := HB1.out.1.trans (HK.out.toBelow (by omega) HB1.out.1.size)
     exact (((k0.setCell (p := ⟨w.heap.size + 4, 0, none⟩) (Nat.le_add_right _ _) _).setCell (p := ⟨w.heap.size + 4, 1, none⟩) (Nat.le_add_right _ _) _).setCell (p := ⟨w.heap.size + 4, 2, none⟩) (Nat.le_add_right _ _) _).setCell (p := ⟨w.heap.size + 4, 3, none⟩) (Nat.le_add_right _ _) _
    have hfin := HLM.out.stay (ok' := fun k => w.heap.size ≤ k ∧ k < ((((w3.setCell ⟨w.heap.size + 4, 0, none⟩ (.string s.name)).setCell ⟨w.heap.size + 4, 1, none⟩ (.slice ea s.exports.length ec)).setCell ⟨w.heap.size + 4, 2, none⟩ (.slice ia in_ ic)).setCell ⟨w.heap.size + 4, 3, none⟩ (.slice ba s.body.length bc)).heap.size) (fun k hk => far k (by have := (Array.getElem?_eq_some_iff.1 HE4.out).1; omega)) (fun k hk => ⟨Nat.le_trans HB1.out.1.size hk.1, by rw [hsz]; exact hk.2⟩)
    generalize ((((w3.setCell ⟨w.heap.size + 4, 0, none⟩ (.string s.name)).setCell ⟨w.heap.size + 4, 1, none⟩ (.slice ea s.exports.length ec)).setCell ⟨w.heap.size + 4, 2, none⟩ (.slice ia in_ ic)).setCell ⟨w.heap.size + 4, 3, none⟩ (.slice ba s.body.length bc)) = Wf at hk hbk hfin ⊢
    have k0 : Wf.cell? ⟨w.heap.size + 4, 0, none⟩ = some (.string s.name) := (cellO hk).trans rfl
    have k1 : Wf.cell? ⟨w.heap.size + 4, 1, none⟩ = some (.slice ea s.exports.length ec) := (cellO hk).trans rfl
    have k2 : Wf.cell? ⟨w.heap.size + 4, 2, none⟩ = some (.slice ia in_ ic) := (cellO hk).trans rfl
    have k3 : Wf.cell? ⟨w.heap.size + 4, 3, none⟩ = some (.slice ba s.body.length bc) := (cellO hk).trans rfl
    refine bodyPost_ret (v := .tuple #[.agg #[.string s.name, .slice ea s.exports.length ec, .slice ia in_ ic, .slice ba s.body.length bc], .int .i64 0]) (by simp [results, Tryz.results9, go_sem, k0, k1, k2, k3]) rfl ⟨hbk, ?_⟩
    rw [HR.out]
    exact ⟨_, _, _, rfl, hfin⟩
end Go.Proofs.YtonafbennobgdaaGreatDoor
