/- Chapter 3: a library, or a program; what it is in memory. -/
import Derived.Defers
import Derived.Recover
import Derived.Test.YtonafbennobgdaaGreatDoorK28
namespace Go.Proofs.YtonafbennobgdaaGreatDoor
set_option linter.unusedVariables false
set_option linter.unusedSimpArgs false
open Go.RowKit
set_option maxRecDepth 100000
set_option maxHeartbeats 6400000
theorem allF_of {E : Env} {d x : Dat} {r : List Dat} (h : formF d = (nameF x).bind fun n => .ok (n, r)) (hn : nameF x = .ok x.name) : allF E d = if x.name = bLibrary then (match (generalizing := false) r with | [] => .no 2 | y :: t => (calledF y).bind fun n => declL E t { lib0 with name := n }) else if x.name = bProgram then declL E r lib0 else .no 2 := by
 unfold allF
 rw [h, hn]
 rfl
theorem all_any (A B pb f : Nat) (E : Env) (f1 f2 f3 : Value) (d : Dat) (a : Option Addr) (cap : Nat) (w : World) (hpb : w.heap.size = pb + 1) (hB0 : B ≤ pb) (hA : A ≤ B) (h0 : 0 < A) (henv : EnvM A E f1 f2 f3 w) (htab : TabW w)
 (hp : ∀ W, Below w.heap.size w W → pb + 2 < W.heap.size → PS B pb f1 f2 f3 lib0 W) (hd : Dc (fun k => k < A) w f a d.kids) (hc : d.kids.length ≤ cap) (ho : okD d) (DS : DecsA E (fun x => x ∈ d.kids)) :
 Calls Tryz.prog 29 #[.pointer (some ⟨pb, 0, none⟩), dv d a cap] w (ToldL B pb f1 f2 f3 (allF E d) w) := by
 have hAw : A ≤ w.heap.size := by omega
 have hi0 : Inv lib0 := ⟨Nat.zero_le _, Nat.zero_le _, Nat.zero_le _⟩
 have GO : ∀ s W, BT B w W → PS B pb f1 f2 f3 s W → Inv s → GoS A B pb E f1 f2 f3 s W := fun s W hb hps hi => ⟨hps, henv.below (hb.toBelow.mono hA), htab.below hb.toBelow (by omega), hA, h0, hi⟩
 show Calls Tryz.prog 29 #[.pointer (some ⟨pb, 0, none⟩), .agg #[.int .i64 d.kind, .int .i64 d.n, .string d.name, .int .i64 d.stamp, .int .i64 d.lib, .slice a d.kids.length cap]] w _
 by_cases hk : d.kind = 4 ∧ d.kids ≠ []
 case neg =>
  have e : allF E d = .no 2 := by
   unfold allF formF thingsF
   rw [if_neg hk]
   rfl
  exact all_form_no B pb f1 f2 f3 _ d a d.kids.length cap w hpb hB0 hp e (form_no (z := 0) hk)
 case pos =>
 obtain ⟨x, r, hl⟩ := List.exists_cons_of_ne_nil hk.2
 have eF : formF d = (nameF x).bind fun n => .ok (n, r) := by
  unfold formF thingsF
  rw [if_pos hk, hl]
  rfl
 obtain ⟨o1, o2⟩ := okD_list ho hk.1
 rw [hl] at o1 o2
 obtain ⟨g, b, o, xa, xc, hgf, ha, hx, hxk⟩ := hd.at (i := 0) (d := x) (by rw [hl]; rfl)
 subst ha
 rw [Nat.zero_mul, Nat.add_zero] at hx
 have ox := okL_mem o2 x (by simp)
 have or_ : okL r := by rw [okL] at o2; exact o2.2
 have hln : d.kids.length = r.length + 1 := by rw [hl]; simp
 have hrl : r.length ≤ 2000 := by simp at o1; omega
 have hrc : r.length ≤ cap - 1 := by omega
 have FS : ∀ W, Below w.heap.size w W → Calls Tryz.prog 53 #[dv d (some ⟨b, o, none⟩) cap] W (ToldE (nameF x) (fun s v _ => v = .tuple #[.string s, .slice (some ⟨b, if cap = 1 then o else o + 6, none⟩) r.length (cap - 1)]) W) := fun W hb => form_some A d x r b o cap xc xa W (Nat.le_trans hAw hb.size) hk.1 hl (hx.below (hb.mono hAw)) hc (okD_big ox)
 by_cases hx3 : x.kind = 3
 case neg =>
  have en : nameF x = .no 2 := by unfold nameF; rw [if_neg hx3]
  have e : allF E d = .no 2 := by
   unfold allF
   rw [eF, en]
   rfl
  rw [en] at FS
  exact all_form_no B pb f1 f2 f3 _ d _ d.kids.length cap w hpb hB0 hp e (fun W hb => (FS W hb).mono (fun e w' h => ⟨h.1, h.2⟩))
 case pos =>
 have en : nameF x = .ok x.name := by unfold nameF; rw [if_pos hx3]
 rw [en] at FS
 have HF : ∀ W, Below w.heap.size w W → Calls Tryz.prog 53 #[.agg #[.int .i64 d.kind, .int .i64 d.n, .string d.name, .int .i64 d.stamp, .int .i64 d.lib, .slice (some ⟨b, o, none⟩) d.kids.length cap]] W fun e w' => Below W.heap.size W w' ∧ e = .returned (.tuple #[.string x.name, .slice (some ⟨b, if cap = 1 then o else o + 6, none⟩) r.length (cap - 1)]) := fun W hb => (FS W hb).mono (by rintro e w' ⟨h1, v, rfl, rfl⟩; exact ⟨h1, rfl⟩)
 have HR : ∀ W, Below A w W → Dc (fun k => k < A) W f (some ⟨b, if cap = 1 then o else o + 6, none⟩) r := fun W hb => by
  have h := hd.below hb
  rw [hl] at h
  exact rest_at h (by omega)
 rw [allF_of eF en]
 by_cases n0 : x.name = bLibrary
 ·rw [if_pos n0]
  cases r with
  | nil => exact all_lib_none B pb f1 f2 f3 _ d _ d.kids.length cap w hpb hB0 hp rfl x.name _ _ (cap - 1) HF n0 rfl
  | cons y t =>
   have hcap : ¬ cap = 1 := by simp at hrc; omega
   rw [if_neg hcap] at HF HR
   have hr0 := HR w (Below.refl _ _)
   obtain ⟨g2, b2, q2, ya, yc, hg2, ha2, hy, hyk⟩ := hr0.at (i := 0) (d := y) rfl
   cases ha2
   rw [Nat.zero_mul, Nat.add_zero] at hy
   have oy := okL_mem o2 y (by simp)
   have ot : okL t := by rw [okL] at or_; exact or_.2
   have HY : ∀ W, Below w.heap.size w W → W.cell? ⟨b, o + 6, none⟩ = some (.int .i64 y.kind) ∧ W.cell? ⟨b, o + 6 + 1, none⟩ = some (.int .i64 y.n) ∧ W.cell? ⟨b, o + 6 + 2, none⟩ = some (.string y.name) ∧ W.cell? ⟨b, o + 6 + 3, none⟩ = some (.int .i64 y.stamp) ∧ W.cell? ⟨b, o + 6 + 4, none⟩ = some (.int .i64 y.lib) ∧ W.cell? ⟨b, o + 6 + 5, none⟩ = some (.slice ya y.kids.length yc) := fun W hb => by
    have := hy.below (hb.mono hAw)
    exact ⟨this.c0, this.c1, this.c2, this.c3, this.c4, this.c5⟩
   have HD : ∀ W, Below w.heap.size w W → Calls Tryz.prog 55 #[dv y ya yc] W (ToldE (calledF y) (fun s v _ => v = .string s) W) := fun W hb => called_any joinOk A g2 y ya yc W (Nat.le_trans hAw hb.size) (hyk.below (hb.mono hAw)) hy.lk oy
   show Calls _ _ _ _ (ToldL B pb f1 f2 f3 ((calledF y).bind fun n => declL E t { lib0 with name := n }) w)
   cases hC : calledF y with
   | no z =>
    rw [hC] at HD
    exact all_lib_no B pb f1 f2 f3 _ d _ d.kids.length cap w hpb hB0 hp z rfl x.name _ _ (cap - 1) HF n0 b (o + 6) y ya y.kids.length yc rfl (by simp) hrc HY (fun W hb => (HD W hb).mono (fun e w' h => ⟨h.1, h.2⟩))
   | ok n =>
    rw [hC] at HD
    have HD' : ∀ W, Below w.heap.size w W → Calls Tryz.prog 55 #[.agg #[.int .i64 y.kind, .int .i64 y.n, .string y.name, .int .i64 y.stamp, .int .i64 y.lib, .slice ya y.kids.length yc]] W fun e w' => Below W.heap.size W w' ∧ e = .returned (.string n) := fun W hb => (HD W hb).mono (by rintro e w' ⟨h1, v, rfl, rfl⟩; exact ⟨h1, rfl⟩)
    have hi1 : Inv { lib0 with name := n } := ⟨Nat.zero_le _, Nat.zero_le _, Nat.zero_le _⟩
    by_cases hc1 : cap - 1 = 1
    ·have ht0 : t = [] := List.length_eq_zero_iff.1 (by simp at hrc; omega)
     subst ht0
     exact all_lib_one B pb f1 f2 f3 _ d _ d.kids.length cap w hpb hB0 hp x.name _ _ (cap - 1) HF n0 b (o + 6) y ya y.kids.length yc rfl (by simp) hrc HY hc1 n HD' (fun W hb hps => DS A B pb f1 f2 f3 0 [] _ 0 _ W (by simp) (GO _ W hb hps hi1) rfl (Nat.zero_le _) (Nat.le_refl _) (by rw [okL]; trivial))
    have hTr : ∀ W, Below A w W → Dc (fun k => k < A) W f (some ⟨b, o + 6 + 6, none⟩) t := fun W hb => (HR W hb).tail
    refine all_lib_more B pb f1 f2 f3 _ d _ d.kids.length cap w hpb hB0 hp x.name _ _ (cap - 1) HF n0 b (o + 6) y ya y.kids.length yc rfl (by simp) hrc HY hc1 n HD' (fun W hb hps => ?_)
    have := DS A B pb f1 f2 f3 f t (some ⟨b, o + 6 + 6, none⟩) (cap - 1 - 1) _ W (fun z hz => by rw [hl]; exact List.mem_cons_of_mem _ (List.mem_cons_of_mem _ hz)) (GO _ W hb hps hi1) (hTr W (hb.toBelow.mono hA)) (by simp at hrl; omega) (by simp at hrc; omega) ot
    exact this
 rw [if_neg n0]
 by_cases n1 : x.name = bProgram
 ·rw [if_pos n1]
  exact all_prog B pb f1 f2 f3 _ d _ d.kids.length cap w hpb hB0 hp x.name _ _ (cap - 1) HF n0 n1 (fun W hb hps => DS A B pb f1 f2 f3 f r _ (cap - 1) lib0 W (fun z hz => by rw [hl]; exact List.mem_cons_of_mem _ hz) (GO _ W hb hps hi0) (HR W (hb.toBelow.mono hA)) hrl hrc or_)
 rw [if_neg n1]
 exact all_else B pb f1 f2 f3 _ d _ d.kids.length cap w hpb hB0 hp rfl x.name _ _ (cap - 1) HF n0 n1
def PrM (ok : Nat → Prop) (l : List (ByteArray × ByteArray)) (v : Value) (w : World) : Prop := ∃ a c, v = .slice a l.length c ∧ l.length ≤ c ∧ (l = [] ∨ ∃ b o, a = some ⟨b, o, none⟩ ∧ ok b ∧ ∀ j p, l[j]? = some p → w.cell? ⟨b, o + j * 2, none⟩ = some (.string p.1) ∧ w.cell? ⟨b, o + j * 2 + 1, none⟩ = some (.string p.2))
theorem PrM.stay {ok ok' : Nat → Prop} {w w' : World} {l : List (ByteArray × ByteArray)} {v : Value} (h : PrM ok l v w) (hw : ∀ k, ok k → w'.heap[k]? = w.heap[k]?) (ho : ∀ k, ok k → ok' k) : PrM ok' l v w' := by
 obtain ⟨a, c, h1, h2, h3⟩ := h
 refine ⟨a, c, h1, h2, ?_⟩
 rcases h3 with h3 | ⟨b, o, h4, h5, h6⟩
 ·exact Or.inl h3
 exact Or.inr ⟨b, o, h4, ho b h5, fun j p hj => ⟨(World.cell?_of_block (a := ⟨b, o + j * 2, none⟩) (hw b h5)).trans (h6 j p hj).1, (World.cell?_of_block (a := ⟨b, o + j * 2 + 1, none⟩) (hw b h5)).trans (h6 j p hj).2⟩⟩
def DaM (ok : Nat → Prop) (l : List Dat) (v : Value) (w : World) : Prop := ∃ a c f, v = .slice a l.length c ∧ l.length ≤ c ∧ Dc ok w f a l
theorem DaM.stay {ok ok' : Nat → Prop} {w w' : World} {l : List Dat} {v : Value} (h : DaM ok l v w) (hw : ∀ k, ok k → w'.heap[k]? = w.heap[k]?) (ho : ∀ k, ok k → ok' k) : DaM ok' l v w' := by
 obtain ⟨a, c, f, h1, h2, h3⟩ := h
 exact ⟨a, c, f, h1, h2, Dc.stay hw ho f a l h3⟩
structure LibM (ok : Nat → Prop) (s : LibS) (ev iv bv : Value) (w : World) : Prop where
 ex : PrM ok s.exports ev w
 im : SeL ok w s.imports iv
 bo : DaM ok s.body bv w
theorem LibM.stay {ok ok' : Nat → Prop} {w w' : World} {s : LibS} {ev iv bv : Value} (h : LibM ok s ev iv bv w) (hw : ∀ k, ok k → w'.heap[k]? = w.heap[k]?) (ho : ∀ k, ok k → ok' k) : LibM ok' s ev iv bv w' :=
 ⟨h.ex.stay hw ho, h.im.stay hw ho, h.bo.stay hw ho⟩
theorem flatI_at : ∀ {is : List IE} {j : Nat} {e : IE}, is[j]? = some e → ∀ q, q < 6 → (flatI is)[j * 6 + q]? = e.cells[q]?
 | [], j, e, h, q, hq => by simp at h
 | x :: r, 0, e, h, q, hq => by
  simp at h
  subst h
  have e1 : flatI (x :: r) = x.cells ++ flatI r := by simp [flatI]
  have e2 : x.cells.length = 6 := by
   obtain ⟨s, nv, av, kv⟩ := x
   cases s
   rfl
  rw [e1, List.getElem?_append_left (by omega)]
  simp
 | x :: r, j + 1, e, h, q, hq => by
  have e1 : flatI (x :: r) = x.cells ++ flatI r := by simp [flatI]
  have e2 : x.cells.length = 6 := by
   obtain ⟨s, nv, av, kv⟩ := x
   cases s
   rfl
  have := flatI_at (is := r) (j := j) (e := e) (by simpa using h) q hq
  rw [e1, List.getElem?_append_right (by omega), ← this]
  congr 1
  omega
theorem LibV.lib {B pb : Nat} {f1 f2 f3 : Value} {s : LibS} {v : Value} {w : World} (h : LibV B pb f1 f2 f3 s v w) : ∃ ev iv bv, v = .agg #[.string s.name, ev, iv, bv] ∧ LibM (fun k => B ≤ k ∧ k < w.heap.size) s ev iv bv w := by
 obtain ⟨is, es, ev, iv, bv, hv, h1, h2, h3⟩ := h
 refine ⟨ev, iv, bv, hv, ?_, ?_, ?_⟩
 ·by_cases h0 : s.exports = []
  ·obtain ⟨a, c, he, hc⟩ := own_sliceL h1.eo
   exact ⟨a, c, he, hc, Or.inl h0⟩
  obtain ⟨a, c, he, hc⟩ := own_sliceL h1.eo
  subst he
  obtain ⟨g, cap, he, _, hgl⟩ := World.ownsRow.form h1.eo (List.length_pos_iff.2 h0)
  cases he
  have hlt := World.ownsRow.lt h1.eo g rfl
  refine ⟨_, _, rfl, hc, Or.inr ⟨g, 0, rfl, hlt, fun j p hj => ?_⟩⟩
  have q := flatE_at hj
  have c0 := World.ownsRow.cells h1.eo (g := g) rfl _ _ q.1
  have c1 := World.ownsRow.cells h1.eo (g := g) rfl _ _ q.2
  rw [addr_add] at c0 c1
  rw [Nat.zero_add]
  exact ⟨c0, c1⟩
 ·rw [← h2]
  by_cases h0 : is = []
  ·subst h0
   obtain ⟨a, c, he, hc⟩ := own_sliceL h1.io
   rw [he]
   exact SeL.none a c
  obtain ⟨a, c, he, hc⟩ := own_sliceL h1.io
  subst he
  obtain ⟨g, cap, he, _, hgl⟩ := World.ownsRow.form h1.io (List.length_pos_iff.2 h0)
  cases he
  have hlt := World.ownsRow.lt h1.io g rfl
  have hn : (is.map IE.s).length = is.length := by simp
  have hs := SeL.some (ok := fun k => B ≤ k ∧ k < w.heap.size) (w := w) (is.map IE.s) g 0 c (fun j => (is[j]?.map IE.nv).getD (.slice none 0 0)) (fun j => (is[j]?.map IE.av).getD (.slice none 0 0)) (fun j => (is[j]?.map IE.kv).getD (.slice none 0 0)) hlt (by rw [hn]; exact hc) ?_ ?_
  ·rw [hn] at hs; exact hs
  ·intro j k nm ns as_ p ks hj
   obtain ⟨e, hej, hes⟩ : ∃ e, is[j]? = some e ∧ e.s = .mk k nm ns as_ p ks := by
    rw [List.getElem?_map] at hj
    cases hi : is[j]? with
    | none => rw [hi] at hj; cases hj
    | some e => rw [hi] at hj; exact ⟨e, rfl, by simpa using hj⟩
   have hcell : ∀ q u, q < 6 → e.cells[q]? = some u → w.cell? ⟨g, j * 6 + q, none⟩ = some u := fun q u hq hu => by
    have := World.ownsRow.cells h1.io (g := g) rfl (j * 6 + q) u ((flatI_at hej q hq).trans hu)
    rwa [addr_add] at this
   have hik := h1.ik e (List.mem_of_getElem? hej)
   obtain ⟨es, nv, av, kv⟩ := e
   simp only at hes
   subst hes
   obtain ⟨i1, i2, i3⟩ := hik
   rw [hej]
   simp only [Nat.zero_add, Option.map_some, Option.getD_some]
   refine ⟨?_, hcell 1 _ (by decide) rfl, hcell 2 _ (by decide) rfl, hcell 3 _ (by decide) rfl, hcell 4 _ (by decide) rfl, hcell 5 _ (by decide) rfl, ?_, ?_⟩
   ·have := hcell 0 _ (by decide) rfl
    simpa using this
   ·exact i1.stay (fun _ _ => rfl) (fun k hk => ⟨hk.1.1, hk.2.1⟩)
   exact i2.stay (fun _ _ => rfl) (fun k hk => ⟨hk.1.1, hk.2.1⟩)
  intro j k nm ns as_ p ks hj
  obtain ⟨e, hej, hes⟩ : ∃ e, is[j]? = some e ∧ e.s = .mk k nm ns as_ p ks := by
   rw [List.getElem?_map] at hj
   cases hi : is[j]? with
   | none => rw [hi] at hj; cases hj
   | some e => rw [hi] at hj; exact ⟨e, rfl, by simpa using hj⟩
  have hik := h1.ik e (List.mem_of_getElem? hej)
  obtain ⟨es, nv, av, kv⟩ := e
  simp only at hes
  subst hes
  obtain ⟨i1, i2, i3⟩ := hik
  rw [hej]
  exact i3.stay (fun _ _ => rfl) (fun k hk => ⟨hk.1.1, hk.2.1⟩)
 rw [← h3]
 have hro : RowC B bv es w := ⟨h1.bo, fun e he => by
  obtain ⟨a1, a2, f, a3⟩ := h1.bk e he
  exact ⟨a1, a2, f, Dc.stay (fun _ _ => rfl) (fun k hk => ⟨hk.1.1, hk.2.1, hk.2.2.2.2.2⟩) f _ _ a3⟩⟩
 by_cases hl : es.length ≤ 9223372036854775807
 ·obtain ⟨a, c, f, hv', hlc, hdc⟩ := hro.lie hl
  exact ⟨a, c, f, by rw [hv'], hlc, Dc.stay (fun _ _ => rfl) (fun k hk => hk) f _ _ hdc⟩
 exfalso
 obtain ⟨a, c, he, hc⟩ := own_sliceL h1.bo
 rcases h1.bo.2 with ⟨_, h0⟩ | ⟨g, cap, cur, hv', hbg, hg, hnc, hcm, _⟩
 ·omega
 have : maxLen = 9223372036854775807 := rfl
 omega
theorem assert_thrownL (v : Value) (w : World) : (Instr.typeAssert (.iface 90 v) 20 90 true).run Tryz.prog w = .ok (.tuple #[v, .bool true]) w := by
 simp [Instr.typeAssert, run_underlying Tryz.underlying90]
theorem caughtL_any (how : Int) (w : World) :
 Calls Tryz.prog 52 #[.iface 90 (.agg #[.int .i64 how])] w fun e w' => e = .returned (.int .i64 how) ∧ Below w.heap.size w w' := by
 have hta := assert_thrownL (.agg #[.int .i64 how])
 go_enter Tryz.func52, Tryz.ntmps52
 go_wp2_with fail
 go_ret
 exact ⟨rfl, (Below.refl _ _).alloc (Nat.le_refl _) _⟩
theorem catchL_thrown (N : Nat) (how y : Int) (w : World) (hN : N < w.heap.size) (q0 : w.cell? ⟨N, 0, none⟩ = some (.int .i64 y)) (z0 : w.frozen? ⟨N, 0, none⟩ = false) :
 CallsD Tryz.prog 51 #[.pointer (some ⟨N, 0, none⟩)] (.panicking (thrownL how)) w fun e u' w' =>
  e = .returned (.tuple #[]) ∧ u' = .panicking [{ v := .iface 90 (.agg #[.int .i64 how]), recovered := true }] ∧ ∃ w1, Below w.heap.size w w1 ∧ w' = w1.setCell ⟨N, 0, none⟩ (.int .i64 how) := by
 unfold thrownL
 refine callsD_of_wpS Tryz.func51 rfl fun c₀ cs hu => ?_
 apply wpS_seq
 apply wpS_region
 simp [wpOpsS, go_sem, recoverD, hu, Tryz.ntmps51, Exit.thenS]
 refine wpS_of_wp ?_
 have harr : #[Value.pointer (some { block := N, off := 0 })] ++ ((Array.replicate 6 undef).setIfInBounds 1 (Value.iface 90 (Value.agg #[Value.int IntKind.i64 how]))).setIfInBounds 0 (Value.iface 90 (Value.agg #[Value.int IntKind.i64 how])) = #[Value.pointer (some { block := N, off := 0 }), Value.iface 90 (Value.agg #[Value.int IntKind.i64 how]), Value.iface 90 (Value.agg #[Value.int IntKind.i64 how]), undef, undef, undef, undef] := rfl
 rw [harr]
 have CA : Hid (∀ w, Calls Tryz.prog 52 #[.iface 90 (.agg #[.int .i64 how])] w fun e w' => e = .returned (.int .i64 how) ∧ Below w.heap.size w w') := fun w => caughtL_any how w
 clear harr
 go_wp2_with fail
 refine (CA.out _).mono ?_
 rintro e w1 ⟨rfl, hb⟩
 have p0 := (hb.cell (p := ⟨N, 0, none⟩) hN).trans q0
 have f0 := (hb.frozen (p := ⟨N, 0, none⟩) hN).trans z0
 have HB : Hid (Below w.heap.size w w1) := hb
 clear hb q0 z0 CA
 go_wp2_with fail
 simp [bodyPostS, results, Tryz.results51]
 exact ⟨w1, HB.out, rfl⟩
theorem catchL_idle (N : Nat) (w : World) :
 CallsD Tryz.prog 51 #[.pointer (some ⟨N, 0, none⟩)] .returning w fun e u' w' => e = .returned (.tuple #[]) ∧ u' = .returning ∧ w' = w := by
 refine callsD_of_wpS Tryz.func51 rfl fun c₀ cs hu => ?_
 apply wpS_seq
 apply wpS_region
 simp [wpOpsS, go_sem, recoverD, hu, Tryz.ntmps51, Exit.thenS]
 refine wpS_of_wp ?_
 have harr : #[Value.pointer (some { block := N, off := 0 })] ++ ((Array.replicate 6 undef).setIfInBounds 1 Value.nilIface).setIfInBounds 0 Value.nilIface = #[Value.pointer (some { block := N, off := 0 }), Value.nilIface, Value.nilIface, undef, undef, undef, undef] := rfl
 rw [harr]
 clear harr
 go_wp2_with fail
 cases c₀
 simp_all [bodyPostS, results, Tryz.results51]
def ParR (p4 lo : Nat) (s : LibS) (w : World) : Prop := ∃ ev iv bv, w.heap[p4]? = some (.cells #[.string s.name, ev, iv, bv] 30 (0, 0)) ∧ LibM (fun k => lo ≤ k ∧ k < w.heap.size) s ev iv bv w
def In28 (p4 : Nat) (r : Er LibS) (W : World) (e : Ending) (w' : World) : Prop := Keep p4 W w' ∧ match r with
 | .ok s => e = .returned (.tuple #[]) ∧ ParR p4 W.heap.size s w'
 | .no x => e = .panicked (thrownL x) ∧ Below W.heap.size W w'
def Out27 (p4 : Nat) (r : Er LibS) (w : World) (e : Ending) (w' : World) : Prop := Keep p4 w w' ∧ match r with
 | .ok s => e = .returned (.int .i64 0) ∧ ParR p4 w.heap.size s w'
 | .no x => e = .returned (.int .i64 x) ∧ Below w.heap.size w w'
theorem parse1_any (A f : Nat) (E : Env) (f1 f2 f3 : Value) (d : Dat) (a : Option Addr) (cap p0 p1 p2 p3 p4 : Nat) (w : World) (hA : A ≤ w.heap.size) (h0 : 0 < A) (henv : EnvM A E f1 f2 f3 w) (htab : TabW w) (hd : Dc (fun k => k < A) w f a d.kids) (hc : d.kids.length ≤ cap) (ho : okD d) (DS : DecsA E (fun x => x ∈ d.kids))
 (hp0 : w.cell? ⟨p0, 0, none⟩ = some f1) (hp1 : w.cell? ⟨p1, 0, none⟩ = some f2) (hp2 : w.cell? ⟨p2, 0, none⟩ = some f3) (hp3 : w.heap[p3]? = some (.cells #[.int .i64 d.kind, .int .i64 d.n, .string d.name, .int .i64 d.stamp, .int .i64 d.lib, .slice a d.kids.length cap] 26 (0, 0))) (hp4 : w.heap[p4]? = some (.cells #[.string ⟨#[]⟩, .slice none 0 0, .slice none 0 0, .slice none 0 0] 30 (0, 0))) :
 Calls Tryz.prog 28 #[.pointer (some ⟨p0, 0, none⟩), .pointer (some ⟨p1, 0, none⟩), .pointer (some ⟨p2, 0, none⟩), .pointer (some ⟨p3, 0, none⟩), .pointer (some ⟨p4, 0, none⟩)] w (In28 p4 (allF E d) w) := by
 have HEN := hidd henv
 obtain ⟨a1, c1, hf1, _⟩ := henv.fl
 obtain ⟨a2, c2, hf2, _, _⟩ := henv.fe
 obtain ⟨a3, c3, hf3, _, _⟩ := henv.li
 have HF : Hid (f1 = .slice a1 E.files.length c1 ∧ f2 = .slice a2 E.features.length c2 ∧ f3 = .slice a3 E.libs.length c3) := ⟨hf1, hf2, hf3⟩
 rw [hf1] at hp0
 rw [hf2] at hp1
 rw [hf3] at hp2
 obtain ⟨W1, hW1⟩ : ∃ W1, W1 = w.alloc (.cells #[f1, f2, f3, .string ⟨#[]⟩, .slice none 0 0, .slice none 0 0, .slice none 0 0] 57) := ⟨_, rfl⟩
 have g1 : Below w.heap.size w W1 := by rw [hW1]; exact (Below.refl _ _).alloc (Nat.le_refl _) _
 have g2 : W1.heap[w.heap.size]? = some (.cells #[f1, f2, f3, .string ⟨#[]⟩, .slice none 0 0, .slice none 0 0, .slice none 0 0] 57 (0, 0)) := by rw [hW1]; exact World.alloc_heap_new w _
 have g3 : W1.heap.size = w.heap.size + 1 := by rw [hW1]; simp
 have l3 := (Array.getElem?_eq_some_iff.1 hp3).1
 have l4 := (Array.getElem?_eq_some_iff.1 hp4).1
 have d3 := (g1.block p3 l3).trans hp3
 have y0 : W1.cell? ⟨p3, 0, none⟩ = some (.int .i64 d.kind) := (cellO d3).trans rfl
 have y1 : W1.cell? ⟨p3, 1, none⟩ = some (.int .i64 d.n) := (cellO d3).trans rfl
 have y2 : W1.cell? ⟨p3, 2, none⟩ = some (.string d.name) := (cellO d3).trans rfl
 have y3 : W1.cell? ⟨p3, 3, none⟩ = some (.int .i64 d.stamp) := (cellO d3).trans rfl
 have y4 : W1.cell? ⟨p3, 4, none⟩ = some (.int .i64 d.lib) := (cellO d3).trans rfl
 have y5 : W1.cell? ⟨p3, 5, none⟩ = some (.slice a d.kids.length cap) := (cellO d3).trans rfl
 have AL0 := all_any A w.heap.size w.heap.size f E f1 f2 f3 d a cap W1 g3 (Nat.le_refl _) hA h0 (henv.below (g1.mono hA)) (htab.below g1 (by omega)) (fun W hb hl => ⟨[], [], .slice none 0 0, .slice none 0 0, .slice none 0 0, ⟨Nat.le_refl _, hl, (hb.block _ (by omega)).trans g2, World.ownsRow_nil _ _ _ _, World.ownsRow_nil _ _ _ _, World.ownsRow_nil _ _ _ _, by simp, by simp⟩, rfl, rfl⟩) (hd.below (g1.mono hA)) hc ho DS
 have HB1 := hidd g1
 have HP4 : Hid (∀ W, BT w.heap.size W1 W → W.heap[p4]? = some (.cells #[.string ⟨#[]⟩, .slice none 0 0, .slice none 0 0, .slice none 0 0] 30 (0, 0))) := fun W hb => (hb.toBelow.block p4 l4).trans ((g1.block p4 l4).trans hp4)
 have HL4 : Hid (p4 < w.heap.size) := l4
 unfold dv at AL0
 rw [hf1, hf2, hf3] at hW1
 have HW := hidd hW1.symm
 clear g1 g2 g3 d3 l3 l4 hp3 hp4 henv htab hd hc ho hA h0 hW1 hf1 hf2 hf3
 generalize d.kids.length = kn at *
 have AL := hidd AL0
 clear AL0
 generalize allF E d = r at *
 go_enter Tryz.func28, Tryz.ntmps28
 go_upto_region 1 with fail
 rw [HW.out]
 clear HW
 go_wp2_with fail
 refine AL.out.mono ?_
 rintro e w2 ⟨hb2, hr⟩
 have HB2 : Hid (BT w.heap.size W1 w2) := hb2
 clear hb2 AL
 cases r with
 | no x =>
  have hr' : e = .panicked (thrownL x) := hr
  subst hr'
  clear hr
  go_wp2_with fail
  have hbf : Below w.heap.size w w2 := HB1.out.trans HB2.out.toBelow
  exact ⟨rfl, ⟨hbf.os, hbf.tape, hbf.output, hbf.size, fun k hk _ => hbf.block k hk⟩, rfl, hbf⟩
 | ok s =>
  obtain ⟨v, rfl, hlv⟩ : ∃ v, e = .returned v ∧ LibV w.heap.size w.heap.size f1 f2 f3 s v w2 := hr
  obtain ⟨ev, iv, bv, rfl, hlm⟩ := hlv.lib
  obtain ⟨ea, ec, hev, _, _⟩ := hlm.ex
  obtain ⟨ba, bc, bf, hbv, _, _⟩ := hlm.bo
  obtain ⟨ia, in_, ic, hiv⟩ := SeL.slice hlm.im
  have HLM := hidd hlm
  have b4 := HP4.out w2 HB2.out
  have r0 : w2.cell? ⟨p4, 0, none⟩ = some (.string ⟨#[]⟩) := (cellO b4).trans rfl
  have r1 : w2.cell? ⟨p4, 1, none⟩ = some (.slice none 0 0) := (cellO b4).trans rfl
  have r2 : w2.cell? ⟨p4, 2, none⟩ = some (.slice none 0 0) := (cellO b4).trans rfl
  have r3 : w2.cell? ⟨p4, 3, none⟩ = some (.slice none 0 0) := (cellO b4).trans rfl
  have s0 := looseO (q := 0) b4
  have s1 := looseO (q := 1) b4
  have s2 := looseO (q := 2) b4
  have s3 := looseO (q := 3) b4
  have HB4 := hidd b4
  subst hev
  subst hbv
  subst hiv
  clear hlv hlm b4
  go_wp2_with fail
  have hk := set4 HB4.out (.string s.name) (.slice ea s.exports.length ec) (.slice ia in_ ic) (.slice ba s.body.length bc)
  have hke : Keep p4 w ((((w2.setCell ⟨p4, 0, none⟩ (.string s.name)).setCell ⟨p4, 1, none⟩ (.slice ea s.exports.length ec)).setCell ⟨p4, 2, none⟩ (.slice ia in_ ic)).setCell ⟨p4, 3, none⟩ (.slice ba s.body.length bc)) := by
   have hbf : Below w.heap.size w w2 := HB1.out.trans HB2.out.toBelow
   have k0 : Keep p4 w w2 := ⟨hbf.os, hbf.tape, hbf.output, hbf.size, fun k hk _ => hbf.block k hk⟩
   exact (((k0.setCell _ rfl _).setCell _ rfl _).setCell _ rfl _).setCell _ rfl _
  have far : ∀ k, k ≠ p4 → ((((w2.setCell ⟨p4, 0, none⟩ (.string s.name)).setCell ⟨p4, 1, none⟩ (.slice ea s.exports.length ec)).setCell ⟨p4, 2, none⟩ (.slice ia in_ ic)).setCell ⟨p4, 3, none⟩ (.slice ba s.body.length bc)).heap[k]? = w2.heap[k]? := fun k hk => by
   rw [Below.heap_setCell _ _ _ _ (show k ≠ p4 from hk), Below.heap_setCell _ _ _ _ (show k ≠ p4 from hk), Below.heap_setCell _ _ _ _ (show k ≠ p4 from hk), Below.heap_setCell _ _ _ _ (show k ≠ p4 from hk)]
  have hsz : ((((w2.setCell ⟨p4, 0, none⟩ (.string s.name)).setCell ⟨p4, 1, none⟩ (.slice ea s.exports.length ec)).setCell ⟨p4, 2, none⟩ (.slice ia in_ ic)).setCell ⟨p4, 3, none⟩ (.slice ba s.body.length bc)).heap.size = w2.heap.size := by simp
  go_end0
  have hl4 := HL4.out
  exact ⟨hke, rfl, _, _, _, hk, HLM.out.stay (fun k hk => far k (by omega)) (fun k hk => by rw [hsz]; exact hk)⟩
theorem ParR.far {p4 lo lo' c : Nat} {s : LibS} {w w' : World} (h : ParR p4 lo s w) (hw : ∀ k, k ≠ c → w'.heap[k]? = w.heap[k]?) (hc : c < lo) (hc4 : p4 ≠ c) (hs : w'.heap.size = w.heap.size) (hl : lo' ≤ lo) : ParR p4 lo' s w' := by
 obtain ⟨ev, iv, bv, h1, h2⟩ := h
 exact ⟨ev, iv, bv, (hw p4 hc4).trans h1, h2.stay (fun k hk => hw k (by omega)) (fun k hk => ⟨Nat.le_trans hl hk.1, by rw [hs]; exact hk.2⟩)⟩
theorem attempt_28 (p0 p1 p2 p3 p4 : Nat) (r : Er LibS) (w : World) (hl4 : p4 < w.heap.size) (HC0 : ∀ W, Below w.heap.size w W → w.heap.size < W.heap.size → Calls Tryz.prog 28 #[.pointer (some ⟨p0, 0, none⟩), .pointer (some ⟨p1, 0, none⟩), .pointer (some ⟨p2, 0, none⟩), .pointer (some ⟨p3, 0, none⟩), .pointer (some ⟨p4, 0, none⟩)] W (In28 p4 r W)) :
 Calls Tryz.prog 27 #[.func (.func 28) #[] #[.pointer (some ⟨p0, 0, none⟩), .pointer (some ⟨p1, 0, none⟩), .pointer (some ⟨p2, 0, none⟩), .pointer (some ⟨p3, 0, none⟩), .pointer (some ⟨p4, 0, none⟩)]] w (Out27 p4 r w) := by
 have hmf : ∀ (fn : Fn) (first cap : Array Value) (w : World), (Instr.makeFunc fn first cap).run Tryz.prog w = .ok (.func fn first cap) w := fun _ _ _ _ => rfl
 have BB : Below w.heap.size w (w.alloc (.cells #[.int .i64 0] 31)) := (Below.refl _ _).alloc (Nat.le_refl _) _
 have SZ : (w.alloc (.cells #[.int .i64 0] 31)).heap.size = w.heap.size + 1 := by simp
 have hA := hidd (HC0 _ BB (by rw [SZ]; omega))
 have h0 : (w.alloc (.cells #[.int .i64 0] 31)).cell? ⟨w.heap.size, 0, none⟩ = some (.int .i64 0) := by simp [go_sem]
 have z0 : (w.alloc (.cells #[.int .i64 0] 31)).frozen? ⟨w.heap.size, 0, none⟩ = false := by simp [go_sem]
 have HH0 := hidd h0
 have HZ0 := hidd z0
 have HBB := hidd BB
 have HSZ := hidd SZ
 have HL4 := hidd hl4
 clear BB SZ HC0 h0 z0 hl4
 go_enter_defers Tryz.func27, Tryz.ntmps27
 go_wp2_with fail
 refine hA.out.mono ?_
 generalize (w.alloc (.cells #[.int .i64 0] 31)) = W at *
 rintro e w1 ⟨hk, ho⟩
 have h0 := HH0.out
 have z0 := HZ0.out
 have hlt : w.heap.size < W.heap.size := by have := HSZ.out; omega
 have hne : w.heap.size ≠ p4 := by have := HL4.out; omega
 have g0 := (hk.cell (p := ⟨w.heap.size, 0, none⟩) hlt hne).trans h0
 have y0 := (hk.frozen (p := ⟨w.heap.size, 0, none⟩) hlt hne).trans z0
 have hN : w.heap.size < w1.heap.size := Nat.lt_of_lt_of_le hlt hk.size
 have hkw : Keep p4 w w1 := ⟨hk.os.trans HBB.out.os, hk.tape.trans HBB.out.tape, hk.output.trans HBB.out.output, Nat.le_trans HBB.out.size hk.size, fun k h1 h2 => (hk.block k (Nat.lt_of_lt_of_le h1 HBB.out.size) h2).trans (HBB.out.block k h1)⟩
 cases r with
 | no x =>
  obtain ⟨rfl, hbw⟩ := ho
  show bodyPostD _ _ _ _ _ _
  refine leaves_cons (f := 51) (args := #[.pointer (some ⟨w.heap.size, 0, none⟩)]) (by simp) (by simp [go_sem]) ?_
  refine (catchL_thrown w.heap.size x 0 w1 hN g0 y0).mono ?_
  rintro e u' w'' ⟨rfl, rfl, w2, hb2, rfl⟩
  have k0 := (hb2.cell (p := ⟨w.heap.size, 0, none⟩) hN).trans g0
  have HB : Below w.heap.size w (w2.setCell ⟨w.heap.size, 0, none⟩ (.int .i64 x)) := ((HBB.out.trans (hbw.mono HBB.out.size)).trans (hb2.mono (Nat.le_of_lt hN))).setCell (Nat.le_refl _) _
  have HK : Keep p4 w (w2.setCell ⟨w.heap.size, 0, none⟩ (.int .i64 x)) := ⟨HB.os, HB.tape, HB.output, HB.size, fun k hk _ => HB.block k hk⟩
  clear hk hkw hbw h0 z0 hb2 g0 y0
  simp [Leaves, settle, results, Tryz.results27, go_sem, k0]
  exact ⟨HK, rfl, HB⟩
 | ok s =>
  obtain ⟨rfl, hp⟩ := ho
  have HPR := hidd hp
  have HKW := hidd hkw
  clear hk hp hkw h0 z0
  go_wp2_with fail
  refine leaves_cons (f := 51) (args := #[.pointer (some ⟨w.heap.size, 0, none⟩)]) (by simp) (by simp [go_sem]) ?_
  refine (catchL_idle w.heap.size _).mono ?_
  rintro e u' w'' ⟨rfl, rfl, rfl⟩
  have hsz : (w1.setCell ⟨w.heap.size, 0, none⟩ (.int .i64 0)).heap.size = w1.heap.size := by simp
  have HP2 : ParR p4 w.heap.size s (w1.setCell ⟨w.heap.size, 0, none⟩ (.int .i64 0)) := HPR.out.far (c := w.heap.size) (fun k hk => Below.heap_setCell _ _ _ _ hk) (by have := HSZ.out; omega) (fun e => hne e.symm) hsz (by have := HSZ.out; omega)
  have HK2 : Keep p4 w (w1.setCell ⟨w.heap.size, 0, none⟩ (.int .i64 0)) := HKW.out.setNew _ (Nat.le_refl _) _
  clear HPR HKW
  simp [Leaves, settle, results, Tryz.results27, go_sem, g0]
  exact ⟨HK2, rfl, HP2⟩
theorem chkL_len (g : Dat → Nat → Int × Nat) (hg : ∀ d n, n + 1 ≤ (g d n).2) : ∀ (l : List Dat) (n : Nat), (chkL g l n).1 = 0 → n + l.length ≤ (chkL g l n).2
 | [], n, _ => by simp [chkL]
 | d :: r, n, h => by
  unfold chkL at h ⊢
  have := hg d n
  by_cases h0 : (g d n).1 = 0
  ·rw [if_pos h0] at h ⊢
   have := chkL_len g hg r _ h
   simp
   omega
  rw [if_neg h0] at h
  exact absurd h h0
theorem chk_more : ∀ (f : Nat) (d : Dat) (n : Nat), n + 1 ≤ (chk f d n).2
 | 0, d, n => Nat.le_refl _
 | f + 1, d, n => by
  unfold chk
  split
  ·exact Nat.le_refl _
  split
  ·split
   ·have aux : ∀ (l : List Dat) (m : Nat), m ≤ (chkL (chk f) l m).2 := by
     intro l
     induction l with
     | nil => intro m; exact Nat.le_refl _
     | cons x r ih =>
      intro m
      unfold chkL
      have := chk_more f x m
      split
      ·have := ih (chk f x m).2
       omega
      omega
    exact aux _ _
   exact Nat.le_refl _
  exact Nat.le_refl _
theorem named_ok {s : ByteArray} (h : namedB s = true) : s.size ≤ 20 ∧ s ≠ ⟨#[]⟩ := by
 unfold namedB at h
 simp only [Bool.and_eq_true, decide_eq_true_eq] at h
 refine ⟨h.1.1.2, fun e => ?_⟩
 rw [e] at h
 exact absurd h.1.1.1 (by decide)
theorem okD_chk : ∀ (f : Nat) (d : Dat) (n : Nat), n ≤ 2000 → (chk f d n).1 = 0 → okD d
 | 0, d, n, _, h => by simp [chk] at h
 | f + 1, ⟨k, m, nm, st, lb, ks⟩, n, hn, h => by
  unfold chk at h
  by_cases c1 : 2000 < n + 1
  ·rw [if_pos c1] at h; simp at h
  rw [if_neg c1] at h
  by_cases c2 : alone ⟨k, m, nm, st, lb, ks⟩ = 0
  case neg => rw [if_neg c2] at h; exact absurd h c2
  rw [if_pos c2] at h
  rw [okD]
  refine ⟨fun h3 => ?_, fun h4 => ?_⟩
  ·subst h3
   unfold alone at c2
   simp at c2
   by_cases hb : namedB nm = true
   ·exact named_ok hb
   rw [if_neg hb] at c2; exact absurd c2 (by decide)
  rw [if_pos h4] at h
  have hle := chkL_le (chk f) (chk_le f) ks (n + 1) (by omega) h
  have hlen := chkL_len (chk f) (chk_more f) ks (n + 1) h
  refine ⟨by show ks.length ≤ 2000; have : (chkL (chk f) ks (n + 1)).2 ≤ 2000 := hle; have : n + 1 + ks.length ≤ (chkL (chk f) ks (n + 1)).2 := hlen; omega, ?_⟩
  have aux : ∀ (l : List Dat) (m : Nat), m ≤ 2000 → (chkL (chk f) l m).1 = 0 → okL l := by
   intro l
   induction l with
   | nil => intro m _ _; rw [okL]; trivial
   | cons x r ih =>
    intro m hm hx
    unfold chkL at hx
    by_cases h0 : (chk f x m).1 = 0
    ·rw [if_pos h0] at hx
     rw [okL]
     exact ⟨okD_chk f x m hm h0, ih _ (chk_le f x m hm h0) hx⟩
    rw [if_neg h0] at hx; exact absurd hx h0
  exact aux ks (n + 1) (by omega) h
theorem wrong_first (d : Dat) : (wrong [d]).1 = (chk 40 d 0).1 := by
 unfold wrong wrongFrom
 by_cases h : (chk 40 d 0).1 = 0
 ·rw [if_pos h, h]; rfl
 rw [if_neg h]
structure EnvW (A : Nat) (E : Env) (f1 f2 f3 : Value) (w : World) : Prop where
 fl : FL (fun k => k < A) E.files f1 w
 fe : SV (fun k => k < A) E.features f2 w
 li : SV (fun k => k < A) E.libs f3 w
 flL : E.files.length ≤ 9223372036854775807
 feL : E.features.length ≤ 9223372036854775807
 liL : E.libs.length ≤ 9223372036854775807
theorem EnvW.below {A : Nat} {E : Env} {f1 f2 f3 : Value} {w w' : World} (h : EnvW A E f1 f2 f3 w) (hb : Below A w w') : EnvW A E f1 f2 f3 w' :=
 ⟨h.fl.stay (fun k hk => hb.block k hk) (fun _ h => h), h.fe.stay (fun k hk => hb.block k hk) (fun _ h => h), h.li.stay (fun k hk => hb.block k hk) (fun _ h => h), h.flL, h.feL, h.liL⟩
def ToldA (r : Er LibS) (w : World) (e : Ending) (w' : World) : Prop := Below w.heap.size w w' ∧ match r with
 | .ok s => ∃ ev iv bv, e = .returned (.tuple #[.agg #[.string s.name, ev, iv, bv], .int .i64 0]) ∧ LibM (fun k => w.heap.size ≤ k ∧ k < w'.heap.size) s ev iv bv w'
 | .no x => e = .returned (.tuple #[.agg #[.string ⟨#[]⟩, .slice none 0 0, .slice none 0 0, .slice none 0 0], .int .i64 x])
set_option maxRecDepth 100000 in
set_option maxHeartbeats 12800000 in
theorem Parse_over (A f : Nat) (E : Env) (f1 f2 f3 : Value) (d : Dat) (a : Option Addr) (cap : Nat) (w : World) (hA : A ≤ w.heap.size) (h0 : 0 < A) (henv : EnvW A E f1 f2 f3 w) (htab : TabW w) (hd : Dc (fun k => k < A) w f a d.kids) (hc : d.kids.length ≤ cap) (hnm : d.name.size ≤ maxLen) (DS : DecsA E (fun x => x ∈ d.kids)) :
 Calls Tryz.prog 9 #[f1, f2, f3, dv d a cap] w (ToldA (parseF E d) w) := by
 obtain ⟨a1, c1, hf1, _⟩ := id henv.fl
 obtain ⟨a2, c2, hf2, _, _⟩ := id henv.fe
 obtain ⟨a3, c3, hf3, _, _⟩ := id henv.li
 subst hf1 hf2 hf3
 obtain ⟨n1, hn1⟩ : ∃ n1, n1 = E.files.length := ⟨_, rfl⟩
 obtain ⟨n2, hn2⟩ : ∃ n2, n2 = E.features.length := ⟨_, rfl⟩
 obtain ⟨n3, hn3⟩ : ∃ n3, n3 = E.libs.length := ⟨_, rfl⟩
 obtain ⟨kn, hkn⟩ : ∃ kn, kn = d.kids.length := ⟨_, rfl⟩
 unfold dv
 rw [← hn1, ← hn2, ← hn3, ← hkn]
 rw [← hn1, ← hn2, ← hn3] at henv
 obtain ⟨W5, hW5⟩ : ∃ W5, W5 = (((((w.alloc (.cells #[(.slice a1 n1 c1)] 22)).alloc (.cells #[(.slice a2 n2 c2)] 23)).alloc (.cells #[(.slice a3 n3 c3)] 23)).alloc (.cells #[.int .i64 d.kind, .int .i64 d.n, .string d.name, .int .i64 d.stamp, .int .i64 d.lib, .slice a kn cap] 26)).alloc (.cells #[.string ⟨#[]⟩, .slice none 0 0, .slice none 0 0, .slice none 0 0] 30)) := ⟨_, rfl⟩
 have g1 : Below w.heap.size w W5 := by
  rw [hW5]
  exact (((((Below.refl _ _).alloc (Nat.le_refl _) _).alloc (by simp) _).alloc (by simp <;> omega) _).alloc (by simp <;> omega) _).alloc (by simp <;> omega) _
 have gs : W5.heap.size = w.heap.size + 5 := by rw [hW5]; simp
 have b0 : W5.heap[w.heap.size]? = some (.cells #[(.slice a1 n1 c1)] 22 (0, 0)) := by
  rw [hW5, Below.heap_alloc _ _ _ (by simp <;> omega), Below.heap_alloc _ _ _ (by simp <;> omega), Below.heap_alloc _ _ _ (by simp <;> omega), Below.heap_alloc _ _ _ (by simp)]; exact World.alloc_heap_new w _
 have b1 : W5.heap[w.heap.size + 1]? = some (.cells #[(.slice a2 n2 c2)] 23 (0, 0)) := by
  rw [hW5, Below.heap_alloc _ _ _ (by simp <;> omega), Below.heap_alloc _ _ _ (by simp <;> omega), Below.heap_alloc _ _ _ (by simp)]
  have := World.alloc_heap_new (w.alloc (.cells #[(.slice a1 n1 c1)] 22)) (.cells #[(.slice a2 n2 c2)] 23)
  simpa using this
 have b2 : W5.heap[w.heap.size + 2]? = some (.cells #[(.slice a3 n3 c3)] 23 (0, 0)) := by
  rw [hW5, Below.heap_alloc _ _ _ (by simp <;> omega), Below.heap_alloc _ _ _ (by simp)]
  have := World.alloc_heap_new ((w.alloc (.cells #[(.slice a1 n1 c1)] 22)).alloc (.cells #[(.slice a2 n2 c2)] 23)) (.cells #[(.slice a3 n3 c3)] 23)
  simpa using this
 have b3 : W5.heap[w.heap.size + 3]? = some (.cells #[.int .i64 d.kind, .int .i64 d.n, .string d.name, .int .i64 d.stamp, .int .i64 d.lib, .slice a kn cap] 26 (0, 0)) := by
  rw [hW5, Below.heap_alloc _ _ _ (by simp)]
  have := World.alloc_heap_new (((w.alloc (.cells #[(.slice a1 n1 c1)] 22)).alloc (.cells #[(.slice a2 n2 c2)] 23)).alloc (.cells #[(.slice a3 n3 c3)] 23)) (.cells #[.int .i64 d.kind, .int .i64 d.n, .string d.name, .int .i64 d.stamp, .int .i64 d.lib, .slice a kn cap] 26)
  simpa using this
 have b4 : W5.heap[w.heap.size + 4]? = some (.cells #[.string ⟨#[]⟩, .slice none 0 0, .slice none 0 0, .slice none 0 0] 30 (0, 0)) := by
  rw [hW5]
  have := World.alloc_heap_new ((((w.alloc (.cells #[(.slice a1 n1 c1)] 22)).alloc (.cells #[(.slice a2 n2 c2)] 23)).alloc (.cells #[(.slice a3 n3 c3)] 23)).alloc (.cells #[.int .i64 d.kind, .int .i64 d.n, .string d.name, .int .i64 d.stamp, .int .i64 d.lib, .slice a kn cap] 26)) (.cells #[.string ⟨#[]⟩, .slice none 0 0, .slice none 0 0, .slice none 0 0] 30)
  simpa using this
 have y0 : W5.cell? ⟨w.heap.size + 3, 0, none⟩ = some (.int .i64 d.kind) := (cellO b3).trans rfl
 have y1 : W5.cell? ⟨w.heap.size + 3, 1, none⟩ = some (.int .i64 d.n) := (cellO b3).trans rfl
 have y2 : W5.cell? ⟨w.heap.size + 3, 2, none⟩ = some (.string d.name) := (cellO b3).trans rfl
 have y3 : W5.cell? ⟨w.heap.size + 3, 3, none⟩ = some (.int .i64 d.stamp) := (cellO b3).trans rfl
 have y4 : W5.cell? ⟨w.heap.size + 3, 4, none⟩ = some (.int .i64 d.lib) := (cellO b3).trans rfl
 have y5 : W5.cell? ⟨w.heap.size + 3, 5, none⟩ = some (.slice a kn cap) := (cellO b3).trans rfl
 have g6 : Below W5.heap.size W5 (W5.alloc (.cells #[.int .i64 d.kind, .int .i64 d.n, .string d.name, .int .i64 d.stamp, .int .i64 d.lib, .slice a kn cap] 26)) := (Below.refl _ _).alloc (Nat.le_refl _) _
 have b6 : (W5.alloc (.cells #[.int .i64 d.kind, .int .i64 d.n, .string d.name, .int .i64 d.stamp, .int .i64 d.lib, .slice a kn cap] 26)).heap[W5.heap.size]? = some (.cells #[.int .i64 d.kind, .int .i64 d.n, .string d.name, .int .i64 d.stamp, .int .i64 d.lib, .slice a kn cap] 26 (0, 0)) := World.alloc_heap_new W5 _
 have WR := hidd (Wrong_any (W5.heap.size + 1) (f + 1) [d] (some ⟨W5.heap.size, 0, none⟩) 1 (W5.alloc (.cells #[.int .i64 d.kind, .int .i64 d.n, .string d.name, .int .i64 d.stamp, .int .i64 d.lib, .slice a kn cap] 26)) ⟨by simp, Or.inr ⟨W5.heap.size, 0, rfl, Nat.lt_succ_self _, fun i d' hi => by
  match i, hi with
  | 0, hi =>
   simp at hi
   subst hi
   refine ⟨a, cap, (cellO b6).trans rfl, (cellO b6).trans rfl, (cellO b6).trans rfl, (cellO b6).trans rfl, (cellO b6).trans rfl, (by rw [← hkn]; exact (cellO b6).trans rfl), hnm, ?_⟩
   exact Dc.lies (fun k hk => by omega) f a d.kids (hd.below ((g1.mono hA).trans (g6.mono (by omega))))
  | i + 1, hi => simp at hi⟩⟩ (by simp))
 have HB5 := hidd g1
 have HB6 : Hid (Below w.heap.size w (W5.alloc (.cells #[.int .i64 d.kind, .int .i64 d.n, .string d.name, .int .i64 d.stamp, .int .i64 d.lib, .slice a kn cap] 26))) := g1.trans (g6.mono g1.size)
 have HBL : Hid (∀ W, Below W5.heap.size W5 W → W.heap[w.heap.size]? = some (.cells #[(.slice a1 n1 c1)] 22 (0, 0)) ∧ W.heap[w.heap.size + 1]? = some (.cells #[(.slice a2 n2 c2)] 23 (0, 0)) ∧ W.heap[w.heap.size + 2]? = some (.cells #[(.slice a3 n3 c3)] 23 (0, 0)) ∧ W.heap[w.heap.size + 3]? = some (.cells #[.int .i64 d.kind, .int .i64 d.n, .string d.name, .int .i64 d.stamp, .int .i64 d.lib, .slice a kn cap] 26 (0, 0)) ∧ W.heap[w.heap.size + 4]? = some (.cells #[.string ⟨#[]⟩, .slice none 0 0, .slice none 0 0, .slice none 0 0] 30 (0, 0))) := fun W hb => ⟨(hb.block _ (by omega)).trans b0, (hb.block _ (by omega)).trans b1, (hb.block _ (by omega)).trans b2, (hb.block _ (by omega)).trans b3, (hb.block _ (by omega)).trans b4⟩
 have HG6 := hidd g6
 have HEN : Hid (A ≤ w.heap.size ∧ 0 < A ∧ EnvW A E (.slice a1 n1 c1) (.slice a2 n2 c2) (.slice a3 n3 c3) w ∧ TabW w ∧ Dc (fun k => k < A) w f a d.kids ∧ d.kids.length ≤ cap) := ⟨hA, h0, henv, htab, hd, hc⟩
 have HN : Hid (n1 = E.files.length ∧ kn = d.kids.length ∧ W5.heap.size = w.heap.size + 5) := ⟨hn1, hkn, gs⟩
 have HW := hidd hW5.symm
 have HPF : Hid (parseF E d = if (wrong [d]).1 = 0 then (if E.files.length ≤ 30 then allF E d else .no 5) else .no (wrong [d]).1) := rfl
 have HOK : Hid ((wrong [d]).1 = 0 → okD d) := fun h => okD_chk 40 d 0 (by decide) (by rw [← wrong_first]; exact h)
 clear g1 gs b0 b1 b2 b3 b4 g6 b6 hA h0 henv htab hd hc hnm hn1 hn2 hn3 hkn hW5
 simp only [List.length_cons, List.length_nil] at WR
 generalize parseF E d = pr at HPF ⊢
 generalize wrong [d] = x at WR HPF HOK
 obtain ⟨x1, x2⟩ := x
 unfold fv at WR
 simp only at WR HPF HOK
 go_enter Tryz.func9, Tryz.ntmps9
 go_upto_region 1 with fail
 rw [HW.out]
 clear HW
 go_wp2_with fail
 refine WR.out.mono ?_
 rintro e w1 ⟨rfl, hb1⟩
 have HB1 : Hid (Below w.heap.size w (w1.alloc (.cells #[.int .i64 x1, .int .i64 x2] 40)) ∧ Below W5.heap.size W5 (w1.alloc (.cells #[.int .i64 x1, .int .i64 x2] 40))) := ⟨(HB6.out.trans (hb1.mono HB6.out.size)).alloc (Nat.le_trans HB6.out.size hb1.size) _, (HG6.out.trans (hb1.mono HG6.out.size)).alloc (Nat.le_trans HG6.out.size hb1.size) _⟩
 obtain ⟨e0, e1, e2, e3, e4⟩ := HBL.out _ HB1.out.2
 have HE4 := hidd e4
 have q0 : (w1.alloc (.cells #[.int .i64 x1, .int .i64 x2] 40)).cell? ⟨w.heap.size, 0, none⟩ = some (.slice a1 n1 c1) := (cellO e0).trans rfl
 have r0 : (w1.alloc (.cells #[.int .i64 x1, .int .i64 x2] 40)).cell? ⟨w.heap.size + 4, 0, none⟩ = some (.string ⟨#[]⟩) := (cellO e4).trans rfl
 have r1 : (w1.alloc (.cells #[.int .i64 x1, .int .i64 x2] 40)).cell? ⟨w.heap.size + 4, 1, none⟩ = some (.slice none 0 0) := (cellO e4).trans rfl
 have r2 : (w1.alloc (.cells #[.int .i64 x1, .int .i64 x2] 40)).cell? ⟨w.heap.size + 4, 2, none⟩ = some (.slice none 0 0) := (cellO e4).trans rfl
 have r3 : (w1.alloc (.cells #[.int .i64 x1, .int .i64 x2] 40)).cell? ⟨w.heap.size + 4, 3, none⟩ = some (.slice none 0 0) := (cellO e4).trans rfl
 have s0 := looseO (q := 0) e4
 have s1 := looseO (q := 1) e4
 have s2 := looseO (q := 2) e4
 have s3 := looseO (q := 3) e4
 have HS1 : Hid (w1.heap.size ≠ w.heap.size + 4) := by
  have q1 := hb1.size
  have q2 := HG6.out.size
  have q3 := HN.out.2.2
  show _ ≠ _
  omega
 clear hb1 WR y0 y1 y2 y3 y4 y5 e0 e1 e2 e3 e4
 have qe : (w1.alloc (.cells #[.int .i64 x1, .int .i64 x2] 40)).cell? ⟨w1.heap.size, 0, none⟩ = some (.int .i64 x1) := (cellO (World.alloc_heap_new w1 (.cells #[.int .i64 x1, .int .i64 x2] 40))).trans rfl
 by_cases hx : x1 = 0
 case neg =>
  have k1 : (x1 != 0) = true := by simpa using hx
  have HR : Hid (pr = .no x1) := by show _ = _; rw [HPF.out, if_neg hx]
  clear HPF HOK hx q0
  go_upto_region 3 with fail
  generalize (w1.alloc (.cells #[.int .i64 x1, .int .i64 x2] 40)) = W2 at *
  have ne1 : ¬ w1.heap.size = w.heap.size + 1 + 1 + 1 + 1 := HS1.out
  have ne2 : ¬ w.heap.size + 1 + 1 + 1 + 1 = w1.heap.size := fun e => HS1.out e.symm
  go_region
  all_goals
   go_wp2_with fail
   first
    | refine bodyPost_ret (v := .tuple #[.agg #[.string ⟨#[]⟩, .slice none 0 0, .slice none 0 0, .slice none 0 0], .int .i64 x1]) (by simp [results, Tryz.results9, go_sem, r0, r1, r2, r3]) rfl ⟨?_, ?_⟩
    | refine bodyPost_ret (v := .tuple #[.agg #[.string ⟨#[]⟩, .slice none 0 0, .slice none 0 0, .slice none 0 0], .int .i64 x1]) (by simp [results, Tryz.results9, go_sem]) rfl ⟨?_, ?_⟩
   ·first
     | exact (((HB1.out.1.setCell (p := ⟨w.heap.size + 4, 0, none⟩) (Nat.le_add_right _ _) _).setCell (p := ⟨w.heap.size + 4, 1, none⟩) (Nat.le_add_right _ _) _).setCell (p := ⟨w.heap.size + 4, 2, none⟩) (Nat.le_add_right _ _) _).setCell (p := ⟨w.heap.size + 4, 3, none⟩) (Nat.le_add_right _ _) _
     | exact ((((HB1.out.1.drew).setCell (p := ⟨w.heap.size + 4, 0, none⟩) (Nat.le_add_right _ _) _).setCell (p := ⟨w.heap.size + 4, 1, none⟩) (Nat.le_add_right _ _) _).setCell (p := ⟨w.heap.size + 4, 2, none⟩) (Nat.le_add_right _ _) _).setCell (p := ⟨w.heap.size + 4, 3, none⟩) (Nat.le_add_right _ _) _
     | exact ((((HB1.out.1.setCell (p := ⟨w.heap.size + 4, 0, none⟩) (Nat.le_add_right _ _) _).setCell (p := ⟨w.heap.size + 4, 1, none⟩) (Nat.le_add_right _ _) _).setCell (p := ⟨w.heap.size + 4, 2, none⟩) (Nat.le_add_right _ _) _).setCell (p := ⟨w.heap.size + 4, 3, none⟩) (Nat.le_add_right _ _) _).drew
   rw [HR.out]
 case pos =>
  subst hx
  have k1 : ((0 : Int) != 0) = false := rfl
  have HOK' := hidd (HOK.out rfl)
  by_cases hfl : E.files.length ≤ 30
  case neg =>
   have HR : Hid (pr = .no 5) := by show _ = _; rw [HPF.out, if_pos rfl, if_neg hfl]
   have k2 : decide ((30 : Int) < (n1 : Int)) = true := by have := HN.out.1; simp; omega
   have k3 : (30 : Int) < (n1 : Int) := by have := HN.out.1; omega
   clear HPF HOK HOK' hfl
   go_upto_region 4 with fail
   generalize (w1.alloc (.cells #[.int .i64 0, .int .i64 x2] 40)) = W2 at *
   go_wp2_with fail
   first
    | refine bodyPost_ret (v := .tuple #[.agg #[.string ⟨#[]⟩, .slice none 0 0, .slice none 0 0, .slice none 0 0], .int .i64 5]) (by simp [results, Tryz.results9, go_sem, r0, r1, r2, r3]) rfl ⟨?_, ?_⟩
    | refine bodyPost_ret (v := .tuple #[.agg #[.string ⟨#[]⟩, .slice none 0 0, .slice none 0 0, .slice none 0 0], .int .i64 5]) (by simp [results, Tryz.results9, go_sem]) rfl ⟨?_, ?_⟩
   ·first
     | exact (((HB1.out.1.setCell (p := ⟨w.heap.size + 4, 0, none⟩) (Nat.le_add_right _ _) _).setCell (p := ⟨w.heap.size + 4, 1, none⟩) (Nat.le_add_right _ _) _).setCell (p := ⟨w.heap.size + 4, 2, none⟩) (Nat.le_add_right _ _) _).setCell (p := ⟨w.heap.size + 4, 3, none⟩) (Nat.le_add_right _ _) _
     | exact ((((HB1.out.1.drew).setCell (p := ⟨w.heap.size + 4, 0, none⟩) (Nat.le_add_right _ _) _).setCell (p := ⟨w.heap.size + 4, 1, none⟩) (Nat.le_add_right _ _) _).setCell (p := ⟨w.heap.size + 4, 2, none⟩) (Nat.le_add_right _ _) _).setCell (p := ⟨w.heap.size + 4, 3, none⟩) (Nat.le_add_right _ _) _
     | exact ((((HB1.out.1.setCell (p := ⟨w.heap.size + 4, 0, none⟩) (Nat.le_add_right _ _) _).setCell (p := ⟨w.heap.size + 4, 1, none⟩) (Nat.le_add_right _ _) _).setCell (p := ⟨w.heap.size + 4, 2, none⟩) (Nat.le_add_right _ _) _).setCell (p := ⟨w.heap.size + 4, 3, none⟩) (Nat.le_add_right _ _) _).drew
   rw [HR.out]
  case pos =>
   have HR : Hid (pr = allF E d) := by show _ = _; rw [HPF.out, if_pos rfl, if_pos hfl]
   have k2 : decide ((30 : Int) < (n1 : Int)) = false := by have := HN.out.1; simp; omega
   have k3 : ¬ (30 : Int) < (n1 : Int) := by have := HN.out.1; omega
   have HFL := hidd hfl
   clear HPF HOK hfl
   go_upto_region 4 with fail
   generalize (w1.alloc (.cells #[.int .i64 0, .int .i64 x2] 40)) = W2 at *
   have hl4 : w.heap.size + 4 < W2.heap.size := (Array.getElem?_eq_some_iff.1 HE4.out).1
   have AT := hidd (attempt_28 w.heap.size (w.heap.size + 1) (w.heap.size + 2) (w.heap.size + 3) (w.heap.size + 4) (allF E d) W2 hl4 (fun W hb hlt => by
    obtain ⟨e0, e1, e2, e3, e4⟩ := HBL.out W (HB1.out.2.trans (hb.mono HB1.out.2.size))
    have hbw : Below w.heap.size w W := HB1.out.1.trans (hb.mono HB1.out.1.size)
    obtain ⟨h1, h2, h3, h4, h5, h6⟩ := HEN.out
    have hw := h3.below (hbw.mono h1)
    refine parse1_any A f E (.slice a1 n1 c1) (.slice a2 n2 c2) (.slice a3 n3 c3) d a cap _ _ _ _ _ W (Nat.le_trans h1 hbw.size) h2 ⟨hw.fl, hw.fe, hw.li, HFL.out, hw.feL, hw.liL⟩ (h4.below hbw (by omega)) (h5.below (hbw.mono h1)) h6 HOK'.out DS ((cellO e0).trans rfl) ((cellO e1).trans rfl) ((cellO e2).trans rfl) ?_ e4
    rw [← HN.out.2.1]
    exact e3))
   clear hl4 HEN HBL
   generalize allF E d = ar at *
   go_wp2_with fail
   refine AT.out.mono ?_
   rintro e w3 ⟨hk, hr⟩
   have HK := hidd hk
   cases ar with
   | no z =>
    obtain ⟨rfl, hb3⟩ := hr
    have HB3 : Hid (Below w.heap.size w w3 ∧ True) := ⟨HB1.out.1.trans (hb3.mono HB1.out.1.size), trivial⟩
    have e4 := (hb3.block _ (Array.getElem?_eq_some_iff.1 HE4.out).1).trans HE4.out
    have r0 : w3.cell? ⟨w.heap.size + 4, 0, none⟩ = some (.string ⟨#[]⟩) := (cellO e4).trans rfl
    have r1 : w3.cell? ⟨w.heap.size + 4, 1, none⟩ = some (.slice none 0 0) := (cellO e4).trans rfl
    have r2 : w3.cell? ⟨w.heap.size + 4, 2, none⟩ = some (.slice none 0 0) := (cellO e4).trans rfl
    have r3 : w3.cell? ⟨w.heap.size + 4, 3, none⟩ = some (.slice none 0 0) := (cellO e4).trans rfl
    have s0 := looseO (q := 0) e4
    have s1 := looseO (q := 1) e4
    have s2 := looseO (q := 2) e4
    have s3 := looseO (q := 3) e4
    clear e4 hk hb3
    go_wp2_with fail
    first
     | refine bodyPost_ret (v := .tuple #[.agg #[.string ⟨#[]⟩, .slice none 0 0, .slice none 0 0, .slice none 0 0], .int .i64 z]) (by simp [results, Tryz.results9, go_sem, r0, r1, r2, r3]) rfl ⟨?_, ?_⟩
     | refine bodyPost_ret (v := .tuple #[.agg #[.string ⟨#[]⟩, .slice none 0 0, .slice none 0 0, .slice none 0 0], .int .i64 z]) (by simp [results, Tryz.results9, go_sem]) rfl ⟨?_, ?_⟩
    ·first
      | exact (((HB3.out.1.setCell (p := ⟨w.heap.size + 4, 0, none⟩) (Nat.le_add_right _ _) _).setCell (p := ⟨w.heap.size + 4, 1, none⟩) (Nat.le_add_right _ _) _).setCell (p := ⟨w.heap.size + 4, 2, none⟩) (Nat.le_add_right _ _) _).setCell (p := ⟨w.heap.size + 4, 3, none⟩) (Nat.le_add_right _ _) _
      | exact ((((HB3.out.1.drew).setCell (p := ⟨w.heap.size + 4, 0, none⟩) (Nat.le_add_right _ _) _).setCell (p := ⟨w.heap.size + 4, 1, none⟩) (Nat.le_add_right _ _) _).setCell (p := ⟨w.heap.size + 4, 2, none⟩) (Nat.le_add_right _ _) _).setCell (p := ⟨w.heap.size + 4, 3, none⟩) (Nat.le_add_right _ _) _
      | exact ((((HB3.out.1.setCell (p := ⟨w.heap.size + 4, 0, none⟩) (Nat.le_add_right _ _) _).setCell (p := ⟨w.heap.size + 4, 1, none⟩) (Nat.le_add_right _ _) _).setCell (p := ⟨w.heap.size + 4, 2, none⟩) (Nat.le_add_right _ _) _).setCell (p := ⟨w.heap.size + 4, 3, none⟩) (Nat.le_add_right _ _) _).drew
    rw [HR.out]
   | ok s =>
    obtain ⟨rfl, ev, iv, bv, e4, hlm⟩ := hr
    obtain ⟨ea, ec, hev, _, _⟩ := id hlm.ex
    obtain ⟨ba, bc, bf, hbv, _, _⟩ := id hlm.bo
    obtain ⟨ia, in_, ic, hiv⟩ := SeL.slice hlm.im
    subst hev hbv hiv
    have HLM := hidd hlm
    have HE5 := hidd e4
    have r0 : w3.cell? ⟨w.heap.size + 4, 0, none⟩ = some (.string s.name) := (cellO e4).trans rfl
    have r1 : w3.cell? ⟨w.heap.size + 4, 1, none⟩ = some (.slice ea s.exports.length ec) := (cellO e4).trans rfl
    have r2 : w3.cell? ⟨w.heap.size + 4, 2, none⟩ = some (.slice ia in_ ic) := (cellO e4).trans rfl
    have r3 : w3.cell? ⟨w.heap.size + 4, 3, none⟩ = some (.slice ba s.body.length bc) := (cellO e4).trans rfl
    have s0 := looseO (q := 0) e4
    have s1 := looseO (q := 1) e4
    have s2 := looseO (q := 2) e4
    have s3 := looseO (q := 3) e4
    clear e4 hk hlm
    go_wp2_with fail
    have hk := set4 HE5.out (.string s.name) (.slice ea s.exports.length ec) (.slice ia in_ ic) (.slice ba s.body.length bc)
    have far : ∀ k, k ≠ w.heap.size + 4 → ((((w3.setCell ⟨w.heap.size + 4, 0, none⟩ (.string s.name)).setCell ⟨w.heap.size + 4, 1, none⟩ (.slice ea s.exports.length ec)).setCell ⟨w.heap.size + 4, 2, none⟩ (.slice ia in_ ic)).setCell ⟨w.heap.size + 4, 3, none⟩ (.slice ba s.body.length bc)).heap[k]? = w3.heap[k]? := fun k hk => by
     rw [Below.heap_setCell _ _ _ _ (show k ≠ w.heap.size + 4 from hk), Below.heap_setCell _ _ _ _ (show k ≠ w.heap.size + 4 from hk), Below.heap_setCell _ _ _ _ (show k ≠ w.heap.size + 4 from hk), Below.heap_setCell _ _ _ _ (show k ≠ w.heap.size + 4 from hk)]
    have hsz : ((((w3.setCell ⟨w.heap.size + 4, 0, none⟩ (.string s.name)).setCell ⟨w.heap.size + 4, 1, none⟩ (.slice ea s.exports.length ec)).setCell ⟨w.heap.size + 4, 2, none⟩ (.slice ia in_ ic)).setCell ⟨w.heap.size + 4, 3, none⟩ (.slice ba s.body.length bc)).heap.size = w3.heap.size := by simp
    have hbk : Below w.heap.size w ((((w3.setCell ⟨w.heap.size + 4, 0, none⟩ (.string s.name)).setCell ⟨w.heap.size + 4, 1, none⟩ (.slice ea s.exports.length ec)).setCell ⟨w.heap.size + 4, 2, none⟩ (.slice ia in_ ic)).setCell ⟨w.heap.size + 4, 3, none⟩ (.slice ba s.body.length bc)) := by
     have k0 : Below w.heap.size w w3 := HB1.out.1.trans (HK.out.toBelow (by omega) HB1.out.1.size)
     exact (((k0.setCell (p := ⟨w.heap.size + 4, 0, none⟩) (Nat.le_add_right _ _) _).setCell (p := ⟨w.heap.size + 4, 1, none⟩) (Nat.le_add_right _ _) _).setCell (p := ⟨w.heap.size + 4, 2, none⟩) (Nat.le_add_right _ _) _).setCell (p := ⟨w.heap.size + 4, 3, none⟩) (Nat.le_add_right _ _) _
    have hfin := HLM.out.stay (ok' := fun k => w.heap.size ≤ k ∧ k < ((((w3.setCell ⟨w.heap.size + 4, 0, none⟩ (.string s.name)).setCell ⟨w.heap.size + 4, 1, none⟩ (.slice ea s.exports.length ec)).setCell ⟨w.heap.size + 4, 2, none⟩ (.slice ia in_ ic)).setCell ⟨w.heap.size + 4, 3, none⟩ (.slice ba s.body.length bc)).heap.size) (fun k hk => far k (by have := (Array.getElem?_eq_some_iff.1 HE4.out).1; omega)) (fun k hk => ⟨Nat.le_trans HB1.out.1.size hk.1, by rw [hsz]; exact hk.2⟩)
    generalize ((((w3.setCell ⟨w.heap.size + 4, 0, none⟩ (.string s.name)).setCell ⟨w.heap.size + 4, 1, none⟩ (.slice ea s.exports.length ec)).setCell ⟨w.heap.size + 4, 2, none⟩ (.slice ia in_ ic)).setCell ⟨w.heap.size + 4, 3, none⟩ (.slice ba s.body.length bc)) = Wf at hk hbk hfin ⊢
    have k0 : Wf.cell? ⟨w.heap.size + 4, 0, none⟩ = some (.string s.name) := (cellO hk).trans rfl
    have k1 : Wf.cell? ⟨w.heap.size + 4, 1, none⟩ = some (.slice ea s.exports.length ec) := (cellO hk).trans rfl
    have k2 : Wf.cell? ⟨w.heap.size + 4, 2, none⟩ = some (.slice ia in_ ic) := (cellO hk).trans rfl
    have k3 : Wf.cell? ⟨w.heap.size + 4, 3, none⟩ = some (.slice ba s.body.length bc) := (cellO hk).trans rfl
    refine bodyPost_ret (v := .tuple #[.agg #[.string s.name, .slice ea s.exports.length ec, .slice ia in_ ic, .slice ba s.body.length bc], .int .i64 0]) (by simp [results, Tryz.results9, go_sem, k0, k1, k2, k3]) rfl ⟨hbk, ?_⟩
    rw [HR.out]
    exact ⟨_, _, _, rfl, hfin⟩
theorem Parse_any (A f : Nat) (E : Env) (f1 f2 f3 : Value) (d : Dat) (a : Option Addr) (cap : Nat) (w : World) (hA : A ≤ w.heap.size) (h0 : 0 < A) (henv : EnvW A E f1 f2 f3 w) (htab : TabW w) (hd : Dc (fun k => k < A) w f a d.kids) (hc : d.kids.length ≤ cap) (hnm : d.name.size ≤ maxLen) :
 Calls Tryz.prog 9 #[f1, f2, f3, dv d a cap] w (ToldA (parseF E d) w) :=
 Parse_over A f E f1 f2 f3 d a cap w hA h0 henv htab hd hc hnm (decsA_any E _)
end Go.Proofs.YtonafbennobgdaaGreatDoor
