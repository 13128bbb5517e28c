/- The document's walk over declarations: any declaration. -/
import Derived.Test.YtonafbennobgdaaGreatDoorK29
import Derived.Test.YtonafbennobgdaaGreatDoorK45
import Derived.Test.YtonafbennobgdaaGreatDoorK46
import Derived.Test.YtonafbennobgdaaGreatDoorK47
namespace Go.Proofs.YtonafbennobgdaaGreatDoor.R3
set_option linter.unusedVariables false
set_option linter.unusedSimpArgs false
open Go.RowKit
theorem Decl_any (rb : Nat) (fv tv lv : Value) (E : Env) : ∀ (N : Nat) (d : Dat), SizeOf.sizeOf d < N → okD d → zrD d → ∀ (f : Nat) (a : Option Addr) (cap : Nat) (w : World) (s : LibS), WL rb fv tv lv s 0 w → Dc (fun k => k < rb) w f a d.kids → d.kids.length ≤ cap → EnvM rb E fv tv lv w →
 Calls Tryz.prog 36 #[.pointer (some ⟨rb, 0, none⟩), dv d a cap] w (TellD rb fv tv lv (declD E d s) w)
 | 0, d, hN, _, _, _, _, _, _, _, _, _, _, _ => absurd hN (Nat.not_lt_zero _)
 | N + 1, d, hN, ho, hz, f, a, cap, w, s, h, hd, hc, hE => decl_over rb f fv tv lv E s d a cap w h hd hc ho hz hE fun x hx hox hxz g xa xc W s' h1 h2 h3 h4 => Decl_any rb fv tv lv E N x (by omega) hox hxz g xa xc W s' h1 h2 h3 h4
theorem Dc.skip {ok : Nat → Prop} {w : World} {o : Nat} {c0 c1 c2 c3 : Value} (hb : w.heap[o]? = some (.cells #[c0, c1, c2, c3] 30 (0, 0))) : ∀ (f : Nat) (a : Option Addr) (ds : List Dat), Dc ok w f a ds → Dc (fun k => ok k ∧ k ≠ o) w f a ds
 | 0, _, _, h => h
 | f + 1, a, [], h => ⟨h.1, Or.inl rfl⟩
 | f + 1, a, x :: r, h => by
  obtain ⟨hl, h⟩ := h
  rcases h with h | ⟨b, o', ha, hk, h⟩
  ·cases h
  refine ⟨hl, Or.inr ⟨b, o', ha, ⟨hk, fun e => ?_⟩, fun i d hd => ?_⟩⟩
  ·obtain ⟨_, _, _, _, _, _, _, c5, _⟩ := h 0 x rfl
   rw [e, cellO hb, Array.getElem?_eq_none (by simp)] at c5
   cases c5
  obtain ⟨a', cap, z0, z1, z2, z3, z4, z5, hn, hc, hk⟩ := h i d hd
  exact ⟨a', cap, z0, z1, z2, z3, z4, z5, hn, hc, Dc.skip hb f a' d.kids hk⟩
theorem WS.lib {rb : Nat} {fv tv lv : Value} {nm : ByteArray} {ex : List (ByteArray × ByteArray)} {is : List IE} {es : List (Dat × Option Addr × Nat)} {ev iv bv : Value} {w : World} (h1 : WS rb fv tv lv nm ex is es ev iv bv 0 w) (hes : es.length ≤ 200) {o : Nat} (ho : o < rb) {c0 c1 c2 c3 : Value} (hb : w.heap[o]? = some (.cells #[c0, c1, c2, c3] 30 (0, 0))) : LibM (fun k => k < w.heap.size ∧ k ≠ o) ⟨nm, ex, is.map IE.s, es.map (·.1)⟩ ev iv bv w := by
 refine ⟨?_, ?_, ?_⟩
 ·by_cases h0 : ex = []
  ·obtain ⟨a, c, he, hc⟩ := own_sliceL h1.eo
   exact ⟨a, c, he, hc, Or.inl h0⟩
  obtain ⟨a, c, he, hc⟩ := own_sliceL h1.eo
  subst he
  obtain ⟨g, cap, he, _, hgl⟩ := World.ownsRow.form h1.eo (List.length_pos_iff.2 h0)
  cases he
  have hlt := World.ownsRow.lt h1.eo g rfl
  refine ⟨_, _, rfl, hc, Or.inr ⟨g, 0, rfl, ⟨hlt.2, fun e => by have := hlt.1; omega⟩, fun j p hj => ?_⟩⟩
  have q := flatE_at hj
  have c0 := World.ownsRow.cells h1.eo (g := g) rfl _ _ q.1
  have c1 := World.ownsRow.cells h1.eo (g := g) rfl _ _ q.2
  rw [addr_add] at c0 c1
  rw [Nat.zero_add]
  exact ⟨c0, c1⟩
 ·skip
  by_cases h0 : is = []
  ·subst h0
   obtain ⟨a, c, he, hc⟩ := own_sliceL h1.io
   rw [he]
   exact SeL.none a c
  obtain ⟨a, c, he, hc⟩ := own_sliceL h1.io
  subst he
  obtain ⟨g, cap, he, _, hgl⟩ := World.ownsRow.form h1.io (List.length_pos_iff.2 h0)
  cases he
  have hlt := World.ownsRow.lt h1.io g rfl
  have hn : (is.map IE.s).length = is.length := by simp
  have hs := SeL.some (ok := fun k => k < w.heap.size ∧ k ≠ o) (w := w) (is.map IE.s) g 0 c (fun j => (is[j]?.map IE.nv).getD (.slice none 0 0)) (fun j => (is[j]?.map IE.av).getD (.slice none 0 0)) (fun j => (is[j]?.map IE.kv).getD (.slice none 0 0)) ⟨hlt.2, fun e => by have := hlt.1; omega⟩ (by rw [hn]; exact hc) ?_ ?_
  ·rw [hn] at hs; exact hs
  ·intro j k nm ns as_ p ks hj
   obtain ⟨e, hej, hes⟩ : ∃ e, is[j]? = some e ∧ e.s = .mk k nm ns as_ p ks := by
    rw [List.getElem?_map] at hj
    cases hi : is[j]? with
    | none => rw [hi] at hj; cases hj
    | some e => rw [hi] at hj; exact ⟨e, rfl, by simpa using hj⟩
   have hcell : ∀ q u, q < 6 → e.cells[q]? = some u → w.cell? ⟨g, j * 6 + q, none⟩ = some u := fun q u hq hu => by
    have := World.ownsRow.cells h1.io (g := g) rfl (j * 6 + q) u ((flatI_at hej q hq).trans hu)
    rwa [addr_add] at this
   have hik := h1.ik rfl e (List.mem_of_getElem? hej)
   obtain ⟨es, nv, av, kv⟩ := e
   simp only at hes
   subst hes
   obtain ⟨i1, i2, i3⟩ := hik
   rw [hej]
   simp only [Nat.zero_add, Option.map_some, Option.getD_some]
   refine ⟨?_, hcell 1 _ (by decide) rfl, hcell 2 _ (by decide) rfl, hcell 3 _ (by decide) rfl, hcell 4 _ (by decide) rfl, hcell 5 _ (by decide) rfl, ?_, ?_⟩
   ·have := hcell 0 _ (by decide) rfl
    simpa using this
   ·exact i1.stay (fun _ _ => rfl) (fun k hk => ⟨hk.2.1, fun e => by have := hk.1; omega⟩)
   exact i2.stay (fun _ _ => rfl) (fun k hk => ⟨hk.2.1, fun e => by have := hk.1; omega⟩)
  intro j k nm ns as_ p ks hj
  obtain ⟨e, hej, hes⟩ : ∃ e, is[j]? = some e ∧ e.s = .mk k nm ns as_ p ks := by
   rw [List.getElem?_map] at hj
   cases hi : is[j]? with
   | none => rw [hi] at hj; cases hj
   | some e => rw [hi] at hj; exact ⟨e, rfl, by simpa using hj⟩
  have hik := h1.ik rfl e (List.mem_of_getElem? hej)
  obtain ⟨es, nv, av, kv⟩ := e
  simp only at hes
  subst hes
  obtain ⟨i1, i2, i3⟩ := hik
  rw [hej]
  exact i3.stay (fun _ _ => rfl) (fun k hk => ⟨hk.2.1, fun e => by have := hk.1; omega⟩)
 obtain ⟨a, c, F, e1, e2⟩ := h1.row hes
 obtain ⟨a', c', e3, hc⟩ := own_sliceL h1.bo
 rw [e1] at e3
 cases e3
 exact ⟨a, c, F, by rw [e1, List.length_map], by rw [List.length_map]; exact hc, Dc.stay (fun _ _ => rfl) (fun k hk => ⟨hk.1.1, hk.2⟩) F a _ (Dc.skip hb F a _ e2)⟩
theorem WS.name {rb : Nat} {fv tv lv : Value} {nm : ByteArray} {ex : List (ByteArray × ByteArray)} {is : List IE} {es : List (Dat × Option Addr × Nat)} {ev iv bv : Value} {e : Int} {w : World} (h : WS rb fv tv lv nm ex is es ev iv bv e w) (n : ByteArray) : WS rb fv tv lv n ex is es ev iv bv e (w.setCell ⟨rb, 3, none⟩ (.string n)) := by
 have st : ∀ k, k ≠ rb → (w.setCell ⟨rb, 3, none⟩ (.string n)).heap[k]? = w.heap[k]? := fun k hk => Below.heap_setCell _ _ _ _ hk
 have up : ∀ k, Frw rb ev iv bv w k → Frw rb ev iv bv (w.setCell ⟨rb, 3, none⟩ (.string n)) k := fun k hk => ⟨by simpa using hk.1, hk.2⟩
 refine ⟨cell_setL h.blk _, own_keepL h.eo (fun q hq => st q ?_), own_keepL h.io (fun q hq => st q ?_), own_keepL h.bo (fun q hq => st q ?_), fun he i hi => IE.stay (h.ik he i hi) (fun k hk => st k hk.2.2.1) (fun k hk => ⟨hk.1, up k hk.2⟩), fun d hd => ?_⟩
 ·have := (h.own (Or.inl hq.symm)).1; omega
 ·have := (h.own (Or.inr (Or.inl hq.symm))).1; omega
 ·have := (h.own (Or.inr (Or.inr hq.symm))).1; omega
 obtain ⟨a1, a2, f, a3⟩ := h.bk d hd
 exact ⟨a1, a2, f, Dc.stay (fun k hk => st k hk.2.1) up f _ _ a3⟩
theorem WL.nm {rb : Nat} {fv tv lv : Value} {s : LibS} {e : Int} {w : World} (h : WL rb fv tv lv s e w) (n : ByteArray) : WL rb fv tv lv { s with name := n } e (w.setCell ⟨rb, 3, none⟩ (.string n)) ∧ Below rb w (w.setCell ⟨rb, 3, none⟩ (.string n)) := by
 obtain ⟨is, es, ev, iv, bv, h1, h2⟩ := h
 exact ⟨⟨is, es, ev, iv, bv, h1.name n, h2⟩, (Below.refl rb w).setCell (p := ⟨rb, 3, none⟩) (Nat.le_refl _) _⟩
theorem WL.fst {rb : Nat} {fv tv lv : Value} {s : LibS} {e x : Int} {w w' : World} (h : WL rb fv tv lv s e w) (hs : St rb (fst1 e x) w w') : WL rb fv tv lv s (fst1 e x) w' := by
 by_cases he : e = 0
 ·subst he; exact h.st hs
 rw [fst1_no he] at hs ⊢
 obtain ⟨is, es, ev, iv, bv, h1, h2⟩ := h
 exact ⟨is, es, ev, iv, bv, h1.st id hs, h2⟩
theorem all_none {E : Env} {d : Dat} (h : ¬ (d.kind = 4 ∧ 1 ≤ d.kids.length)) : allF E d = .no 2 := by
 unfold allF formF thingsF
 by_cases h4 : d.kind = 4
 ·have h0 : d.kids = [] := List.eq_nil_of_length_eq_zero (by have : ¬ 1 ≤ d.kids.length := fun q => h ⟨h4, q⟩; omega)
  simp [h4, h0, headF, Er.bind]
 simp [h4, Er.bind]
theorem all_bad {d x : Dat} {r : List Dat} (h4 : d.kind = 4) (hk : d.kids = x :: r) (he : fst1 0 (wdE x) ≠ 0) : wdS x = ⟨#[]⟩ ∧ fst1 0 (wdE x) = 2 ∧ ∀ E, allF E d = .no 2 := by
 rw [fst1_zero] at he ⊢
 unfold wdE at he ⊢
 by_cases h3 : x.kind = 3
 ·rw [if_pos h3] at he; exact absurd rfl he
 exact ⟨if_neg h3, if_neg h3, fun E => by unfold allF formF thingsF; simp [h4, hk, headF, nameF, Er.bind, h3]⟩
theorem all_word {x : Dat} (he : fst1 0 (wdE x) = 0) : x.kind = 3 ∧ wdS x = x.name := by
 rw [fst1_zero] at he
 unfold wdE at he
 by_cases h3 : x.kind = 3
 ·exact ⟨h3, if_pos h3⟩
 rw [if_neg h3] at he; exact absurd he (by decide)
theorem all_word2 {e : Int} {x : Dat} (he : fst1 e (wdE x) = 0) : x.kind = 3 ∧ wdS x = x.name := by
 by_cases h : e = 0
 ·subst h; exact all_word he
 rw [fst1_no h] at he; exact absurd he h
theorem WL.lib {rb : Nat} {fv tv lv : Value} {s : LibS} {w : World} (h : WL rb fv tv lv s 0 w) (o : Nat) (ho : o < rb) (c0 c1 c2 c3 : Value) (hb : w.heap[o]? = some (.cells #[c0, c1, c2, c3] 30 (0, 0))) : ∃ ev iv bv bs, (∃ a n c, ev = .slice a n c) ∧ (∃ a n c, iv = .slice a n c) ∧ (∃ a n c, bv = .slice a n c) ∧ WB rb fv tv lv s.name ev iv bv 0 w ∧ (bareQL bs = s.body ∧ zrL bs) ∧ LibM (fun k => k < ((((w.setCell ⟨o, 0, none⟩ (.string s.name)).setCell ⟨o, 1, none⟩ ev).setCell ⟨o, 2, none⟩ iv).setCell ⟨o, 3, none⟩ bv).heap.size) { s with body := bs } ev iv bv ((((w.setCell ⟨o, 0, none⟩ (.string s.name)).setCell ⟨o, 1, none⟩ ev).setCell ⟨o, 2, none⟩ iv).setCell ⟨o, 3, none⟩ bv) := by
 obtain ⟨is, es, ev, iv, bv, h1, h2, h3, h4, h5, h6⟩ := h
 have hm := h1.lib h6 ho hb
 obtain ⟨a1, q1, e1, _⟩ := own_sliceL h1.eo
 obtain ⟨a2, q2, e2, _⟩ := own_sliceL h1.io
 obtain ⟨a3, q3, e3, _⟩ := own_sliceL h1.bo
 rw [h2] at hm
 refine ⟨ev, iv, bv, _, ⟨_, _, _, e1⟩, ⟨_, _, _, e2⟩, ⟨_, _, _, e3⟩, h1.blk, ⟨h3.1, h3.2 rfl⟩, hm.stay (fun k hk => ?_) (fun k hk => by simpa using hk.1)⟩
 have f : ∀ (W : World) (q : Nat) (v : Value), (W.setCell ⟨o, q, none⟩ v).heap[k]? = W.heap[k]? := fun W q v => Below.heap_setCell _ _ _ _ hk.2
 rw [f, f, f, f]
def tailF (E : Env) : List Dat → Er LibS
 | [] => .no 2
 | y :: t => (calledF y).bind fun n => declL E t { lib0 with name := n }
theorem all_form {E : Env} {d x : Dat} {r : List Dat} (h4 : d.kind = 4) (hk : d.kids = x :: r) (h3 : x.kind = 3) : allF E d = (if x.name = bLibrary then tailF E r else if x.name = bProgram then declL E r lib0 else .no 2) := by
 have h1 : formF d = .ok (x.name, r) := by unfold formF thingsF; simp [h4, hk, headF, nameF, Er.bind, h3]
 unfold allF
 rw [h1]
 cases r <;> rfl
def TellQ (r : Er LibS) (w : World) (e : Ending) (w' : World) : Prop := Below w.heap.size w w' ∧ match r with
 | .ok s => ∃ ev iv bv bs, e = .returned (.tuple #[.agg #[.string s.name, ev, iv, bv], .int .i64 0]) ∧ LibM (fun k => k < w'.heap.size) { s with body := bs } ev iv bv w' ∧ bareQL bs = s.body ∧ zrL bs
 | .no x => e = .returned (.tuple #[.agg #[.string ⟨#[]⟩, .slice none 0 0, .slice none 0 0, .slice none 0 0], .int .i64 x])
theorem ret10 {ts : Array Value} {W : World} {R : Nat} {v0 v1 v2 v3 : Value} {x : Int} (h : W.heap[R]? = some (.cells #[v0, v1, v2, v3] 30 (0, 0))) (h8 : ts[8]? = some (.pointer (some ⟨R, 0, none⟩))) (h9 : ts[9]? = some (.int .i64 x)) : (results Tryz.f10 ts).run Tryz.prog W = .ok (.tuple #[.agg #[v0, v1, v2, v3], .int .i64 x]) W := by
 have q0 : W.cell? ⟨R, 0, none⟩ = some v0 := (cellO h).trans rfl
 have q1 : W.cell? ⟨R, 1, none⟩ = some v1 := (cellO h).trans rfl
 have q2 : W.cell? ⟨R, 2, none⟩ = some v2 := (cellO h).trans rfl
 have q3 : W.cell? ⟨R, 3, none⟩ = some v3 := (cellO h).trans rfl
 simp [results, Tryz.results10, go_sem, h8, h9, q0, q1, q2, q3]
theorem four_set {W : World} {R : Nat} {c0 c1 c2 c3 v0 v1 v2 v3 : Value} {t : TypeId} (h : W.heap[R]? = some (.cells #[c0, c1, c2, c3] t (0, 0))) : ((((W.setCell ⟨R, 0, none⟩ v0).setCell ⟨R, 1, none⟩ v1).setCell ⟨R, 2, none⟩ v2).setCell ⟨R, 3, none⟩ v3).heap[R]? = some (.cells #[v0, v1, v2, v3] t (0, 0)) := cell_setL (cell_setL (cell_setL (cell_setL h v0) v1) v2) v3
set_option maxRecDepth 100000 in
set_option maxHeartbeats 12800000 in
theorem refParse_any (A f : Nat) (E : Env) (f1 f2 f3 : Value) (d : Dat) (a : Option Addr) (cap : Nat) (w : World) (hA : A ≤ w.heap.size) (henv : EnvW A E f1 f2 f3 w) (hd : Dc (fun k => k < A) w f a d.kids) (hc : d.kids.length ≤ cap) (hnm : d.name.size ≤ maxLen) :
 Calls Tryz.prog 10 #[f1, f2, f3, dv d a cap] w (TellQ (parseF E d) w) := by
 obtain ⟨a1, c1, hf1, _⟩ := id henv.fl
 obtain ⟨a2, c2, hf2, _, _⟩ := id henv.fe
 obtain ⟨a3, c3, hf3, _, _⟩ := id henv.li
 subst hf1 hf2 hf3
 obtain ⟨n1, hn1⟩ : ∃ n1, n1 = E.files.length := ⟨_, rfl⟩
 obtain ⟨n2, hn2⟩ : ∃ n2, n2 = E.features.length := ⟨_, rfl⟩
 obtain ⟨n3, hn3⟩ : ∃ n3, n3 = E.libs.length := ⟨_, rfl⟩
 obtain ⟨kn, hkn⟩ : ∃ kn, kn = d.kids.length := ⟨_, rfl⟩
 unfold dv
 rw [← hn1, ← hn2, ← hn3, ← hkn]
 rw [← hn1, ← hn2, ← hn3] at henv
 obtain ⟨W5, hW5⟩ : ∃ W5, W5 = (w.alloc (.cells #[.int .i64 d.kind, .int .i64 d.n, .string d.name, .int .i64 d.stamp, .int .i64 d.lib, .slice a kn cap] 26)).alloc (.cells #[.string ⟨#[]⟩, .slice none 0 0, .slice none 0 0, .slice none 0 0] 30) := ⟨_, rfl⟩
 have g1 : Below w.heap.size w W5 := by rw [hW5]; exact ((Below.refl _ _).alloc (Nat.le_refl _) _).alloc (by simp) _
 have gs : W5.heap.size = w.heap.size + 2 := by rw [hW5]; simp
 have b3 : W5.heap[w.heap.size]? = some (.cells #[.int .i64 d.kind, .int .i64 d.n, .string d.name, .int .i64 d.stamp, .int .i64 d.lib, .slice a kn cap] 26 (0, 0)) := by
  rw [hW5, Below.heap_alloc _ _ _ (by simp)]; exact World.alloc_heap_new w _
 have b4 : W5.heap[w.heap.size + 1]? = some (.cells #[.string ⟨#[]⟩, .slice none 0 0, .slice none 0 0, .slice none 0 0] 30 (0, 0)) := by
  rw [hW5]
  have := World.alloc_heap_new (w.alloc (.cells #[.int .i64 d.kind, .int .i64 d.n, .string d.name, .int .i64 d.stamp, .int .i64 d.lib, .slice a kn cap] 26)) (.cells #[.string ⟨#[]⟩, .slice none 0 0, .slice none 0 0, .slice none 0 0] 30)
  simpa using this
 obtain ⟨y0, y1, y2, y3, y4, y5⟩ := six_at b3
 have g6 : Below W5.heap.size W5 (W5.alloc (.cells #[.int .i64 d.kind, .int .i64 d.n, .string d.name, .int .i64 d.stamp, .int .i64 d.lib, .slice a kn cap] 26)) := (Below.refl _ _).alloc (Nat.le_refl _) _
 have b6 := World.alloc_heap_new W5 (.cells #[.int .i64 d.kind, .int .i64 d.n, .string d.name, .int .i64 d.stamp, .int .i64 d.lib, .slice a kn cap] 26)
 have WR := hidd (R1.refWrong_any (W5.heap.size + 1) (f + 1) [d] (some ⟨W5.heap.size, 0, none⟩) 1 (W5.alloc (.cells #[.int .i64 d.kind, .int .i64 d.n, .string d.name, .int .i64 d.stamp, .int .i64 d.lib, .slice a kn cap] 26)) ⟨by simp, Or.inr ⟨W5.heap.size, 0, rfl, Nat.lt_succ_self _, fun i d' hi => by
  match i, hi with
  | 0, hi =>
   simp at hi
   subst hi
   refine ⟨a, cap, (cellO b6).trans rfl, (cellO b6).trans rfl, (cellO b6).trans rfl, (cellO b6).trans rfl, (cellO b6).trans rfl, (by rw [← hkn]; exact (cellO b6).trans rfl), hnm, ?_⟩
   exact Dc.lies (fun k hk => by omega) f a d.kids (hd.below ((g1.mono hA).trans (g6.mono (by omega))))
  | i + 1, hi => simp at hi⟩⟩ (by simp))
 have HB6 : Hid (Below w.heap.size w (W5.alloc (.cells #[.int .i64 d.kind, .int .i64 d.n, .string d.name, .int .i64 d.stamp, .int .i64 d.lib, .slice a kn cap] 26))) := g1.trans (g6.mono g1.size)
 have HG6 := hidd g6
 have HBL : Hid (W5.heap[w.heap.size]? = some (.cells #[.int .i64 d.kind, .int .i64 d.n, .string d.name, .int .i64 d.stamp, .int .i64 d.lib, .slice a kn cap] 26 (0, 0)) ∧ W5.heap[w.heap.size + 1]? = some (.cells #[.string ⟨#[]⟩, .slice none 0 0, .slice none 0 0, .slice none 0 0] 30 (0, 0)) ∧ W5.heap.size = w.heap.size + 2) := ⟨b3, b4, gs⟩
 have HEN : Hid (A ≤ w.heap.size ∧ EnvW A E (.slice a1 n1 c1) (.slice a2 n2 c2) (.slice a3 n3 c3) w ∧ Dc (fun k => k < A) w f a d.kids ∧ d.kids.length ≤ cap) := ⟨hA, henv, hd, hc⟩
 have HN : Hid (n1 = E.files.length ∧ kn = d.kids.length) := ⟨hn1, hkn⟩
 have HW := hidd hW5.symm
 have HPF : Hid (parseF E d = if (wrong [d]).1 = 0 then (if E.files.length ≤ 30 then allF E d else .no 5) else .no (wrong [d]).1) := rfl
 have HOK : Hid ((wrong [d]).1 = 0 → okD d ∧ zrD d) := fun h => ⟨okD_chk 40 d 0 (by decide) (by rw [← wrong_first]; exact h), zr_wrong h⟩
 clear g1 gs b3 b4 g6 b6 hA henv hd hc hnm hn1 hn2 hn3 hkn hW5
 simp only [List.length_cons, List.length_nil] at WR
 generalize parseF E d = pr at HPF ⊢
 generalize wrong [d] = x at WR HPF HOK
 obtain ⟨x1, x2⟩ := x
 unfold fv at WR
 simp only at WR HPF HOK
 go_enter Tryz.func10, Tryz.ntmps10
 go_upto_region 1 with fail
 rw [HW.out]
 clear HW
 go_wp2_with fail
 refine WR.out.mono ?_
 rintro e w1 ⟨rfl, hb1⟩
 go_upto_region 2 with fail
 obtain ⟨W2, hW2⟩ : ∃ W2, w1.alloc (.cells #[.int .i64 x1, .int .i64 x2] 40) = W2 := ⟨_, rfl⟩
 have hb2 : Below w1.heap.size w1 W2 := by rw [← hW2]; exact (Below.refl _ _).alloc (Nat.le_refl _) _
 have qe : W2.cell? ⟨w1.heap.size, 0, none⟩ = some (.int .i64 x1) := by rw [← hW2]; exact (cellO (World.alloc_heap_new w1 _)).trans rfl
 rw [hW2]
 have H2 : Hid (Below w.heap.size w W2 ∧ Below W5.heap.size W5 W2 ∧ w1.heap.size < W2.heap.size ∧ w.heap.size + 2 < w1.heap.size + 1) := ⟨(HB6.out.trans (hb1.mono HB6.out.size)).trans (hb2.mono (Nat.le_trans HB6.out.size hb1.size)), (HG6.out.trans (hb1.mono HG6.out.size)).trans (hb2.mono (Nat.le_trans HG6.out.size hb1.size)), by rw [← hW2]; simp, by have h1 := hb1.size; have h2 := HG6.out.size; have := HBL.out.2.2; omega⟩
 have HR4 : Hid (W2.heap[w.heap.size + 1]? = some (.cells #[.string ⟨#[]⟩, .slice none 0 0, .slice none 0 0, .slice none 0 0] 30 (0, 0)) ∧ W2.heap[w.heap.size]? = some (.cells #[.int .i64 d.kind, .int .i64 d.n, .string d.name, .int .i64 d.stamp, .int .i64 d.lib, .slice a kn cap] 26 (0, 0))) := ⟨upH HBL.out.2.1 H2.out.2.1, upH HBL.out.1 H2.out.2.1⟩
 clear hW2 hb2 hb1 WR y0 y1 y2 y3 y4 y5
 by_cases hx : x1 = 0
 rotate_left
 ·have k1 : (x1 != 0) = true := by simpa using hx
  have HR : Hid (pr = .no x1) := by show _ = _; rw [HPF.out, if_neg hx]
  clear HPF HOK hx
  have r0 := (cellO (q := 0) HR4.out.1).trans rfl
  have r1 := (cellO (q := 1) HR4.out.1).trans rfl
  have r2 := (cellO (q := 2) HR4.out.1).trans rfl
  have r3 := (cellO (q := 3) HR4.out.1).trans rfl
  have s0 := looseO (q := 0) HR4.out.1
  have s1 := looseO (q := 1) HR4.out.1
  have s2 := looseO (q := 2) HR4.out.1
  have s3 := looseO (q := 3) HR4.out.1
  have ne1 : ¬ w1.heap.size = w.heap.size + 1 := by have := H2.out.2.2.2; omega
  have ne2 : ¬ w.heap.size + 1 = w1.heap.size := fun e => ne1 e.symm
  go_upto_region 3 with fail
  go_region
  all_goals
   go_wp2_with fail
   refine bodyPost_ret (v := .tuple #[.agg #[.string ⟨#[]⟩, .slice none 0 0, .slice none 0 0, .slice none 0 0], .int .i64 x1]) (ret10 (four_set HR4.out.1) rfl rfl) rfl ⟨?_, ?_⟩
   ·first | exact (((H2.out.1.setCell (p := ⟨w.heap.size + 1, 0, none⟩) (Nat.le_add_right _ _) _).setCell (p := ⟨w.heap.size + 1, 1, none⟩) (Nat.le_add_right _ _) _).setCell (p := ⟨w.heap.size + 1, 2, none⟩) (Nat.le_add_right _ _) _).setCell (p := ⟨w.heap.size + 1, 3, none⟩) (Nat.le_add_right _ _) _ | exact ((((H2.out.1.drew).setCell (p := ⟨w.heap.size + 1, 0, none⟩) (Nat.le_add_right _ _) _).setCell (p := ⟨w.heap.size + 1, 1, none⟩) (Nat.le_add_right _ _) _).setCell (p := ⟨w.heap.size + 1, 2, none⟩) (Nat.le_add_right _ _) _).setCell (p := ⟨w.heap.size + 1, 3, none⟩) (Nat.le_add_right _ _) _ | exact ((((H2.out.1.setCell (p := ⟨w.heap.size + 1, 0, none⟩) (Nat.le_add_right _ _) _).setCell (p := ⟨w.heap.size + 1, 1, none⟩) (Nat.le_add_right _ _) _).setCell (p := ⟨w.heap.size + 1, 2, none⟩) (Nat.le_add_right _ _) _).setCell (p := ⟨w.heap.size + 1, 3, none⟩) (Nat.le_add_right _ _) _).drew
   rw [HR.out]
 subst hx
 have k1 : ((0 : Int) != 0) = false := rfl
 have HOK' := hidd (HOK.out rfl).1
 have HZR := hidd (HOK.out rfl).2
 by_cases hfl : E.files.length ≤ 30
 rotate_left
 ·have HR : Hid (pr = .no 5) := by show _ = _; rw [HPF.out, if_pos rfl, if_neg hfl]
  have k2 : decide ((30 : Int) < (n1 : Int)) = true := by have := HN.out.1; simp; omega
  have k3 : (30 : Int) < (n1 : Int) := by have := HN.out.1; omega
  clear HPF HOK HOK' hfl
  have r0 := (cellO (q := 0) HR4.out.1).trans rfl
  have r1 := (cellO (q := 1) HR4.out.1).trans rfl
  have r2 := (cellO (q := 2) HR4.out.1).trans rfl
  have r3 := (cellO (q := 3) HR4.out.1).trans rfl
  have s0 := looseO (q := 0) HR4.out.1
  have s1 := looseO (q := 1) HR4.out.1
  have s2 := looseO (q := 2) HR4.out.1
  have s3 := looseO (q := 3) HR4.out.1
  go_wp2_with fail
  refine bodyPost_ret (v := .tuple #[.agg #[.string ⟨#[]⟩, .slice none 0 0, .slice none 0 0, .slice none 0 0], .int .i64 5]) (ret10 (four_set HR4.out.1) rfl rfl) rfl ⟨?_, ?_⟩
  ·exact (((H2.out.1.setCell (p := ⟨w.heap.size + 1, 0, none⟩) (Nat.le_add_right _ _) _).setCell (p := ⟨w.heap.size + 1, 1, none⟩) (Nat.le_add_right _ _) _).setCell (p := ⟨w.heap.size + 1, 2, none⟩) (Nat.le_add_right _ _) _).setCell (p := ⟨w.heap.size + 1, 3, none⟩) (Nat.le_add_right _ _) _
  rw [HR.out]
 have HR : Hid (pr = allF E d) := by show _ = _; rw [HPF.out, if_pos rfl, if_pos hfl]
 have k2 : decide ((30 : Int) < (n1 : Int)) = false := by have := HN.out.1; simp; omega
 have k3 : ¬ (30 : Int) < (n1 : Int) := by have := HN.out.1; omega
 have HFL := hidd hfl
 have HFL := hidd hfl
 have hqe := hidd qe
 clear HPF HOK hfl
 go_upto_region 7 with fail
 obtain ⟨rb, hrb⟩ : ∃ rb, rb = W2.heap.size := ⟨_, rfl⟩
 obtain ⟨W3, hW3⟩ : ∃ W3, W2.alloc (.cells #[.slice a1 n1 c1, .slice a2 n2 c2, .slice a3 n3 c3, .string ⟨#[]⟩, .slice none 0 0, .slice none 0 0, .slice none 0 0, .int .i64 0] 61) = W3 := ⟨_, rfl⟩
 have hb3 : Below W2.heap.size W2 W3 := by rw [← hW3]; exact (Below.refl _ _).alloc (Nat.le_refl _) _
 have hwb : WB rb (.slice a1 n1 c1) (.slice a2 n2 c2) (.slice a3 n3 c3) ⟨#[]⟩ (.slice none 0 0) (.slice none 0 0) (.slice none 0 0) 0 W3 := by rw [← hW3, hrb]; exact World.alloc_heap_new W2 _
 rw [hW3]
 rw [← hrb]
 have HRB : Hid (w.heap.size + 2 < rb ∧ rb = W2.heap.size ∧ A ≤ rb) := ⟨by have := H2.out.2.2; omega, hrb, by have := HEN.out.1; have := H2.out.2.2; omega⟩
 have B3 : Hid (Below w.heap.size w W3 ∧ Below rb W2 W3) := ⟨H2.out.1.trans (hb3.mono H2.out.1.size), by rw [hrb]; exact hb3⟩
 have HWL : Hid (WL rb (.slice a1 n1 c1) (.slice a2 n2 c2) (.slice a3 n3 c3) lib0 0 W3) := ⟨[], [], _, _, _, ⟨hwb, World.ownsRow_nil _ _ _ _, World.ownsRow_nil _ _ _ _, World.ownsRow_nil _ _ _ _, fun _ i hi => (by cases hi), fun d hd => (by cases hd)⟩, rfl, ⟨rfl, fun _ => by show zrL []; rw [zrL]; trivial⟩, ⟨Nat.zero_le _, fun _ => Nat.zero_le _⟩, Nat.zero_le _, Nat.zero_le _⟩
 have HEV : Hid (∀ W, Below rb W3 W → EnvM rb E (.slice a1 n1 c1) (.slice a2 n2 c2) (.slice a3 n3 c3) W) := fun W hb => by
  have h := HEN.out.2.1
  have hbw : ∀ k, k < A → W.heap[k]? = w.heap[k]? := fun k hk => (hb.block k (by have := HRB.out.2.2; omega)).trans (B3.out.1.block k (by have := HEN.out.1; omega))
  have up : ∀ k, k < A → k < rb := fun k hk => by have := HRB.out.2.2; omega
  exact ⟨h.fl.stay hbw up, h.fe.stay hbw up, h.li.stay hbw up, HFL.out, h.feL, h.liL⟩
 have HDK : Hid (∀ W, Below rb W3 W → Dc (fun k => k < rb) W f a d.kids) := fun W hb => Dc.stay (fun k hk => (hb.block k (by have := HRB.out.2.2; omega)).trans (B3.out.1.block k (by have := HEN.out.1; omega))) (fun k hk => by have := HRB.out.2.2; omega) f a d.kids HEN.out.2.2.1
 have HBX : Hid (∀ W, Below rb W3 W → W.heap[w.heap.size + 1]? = some (.cells #[.string ⟨#[]⟩, .slice none 0 0, .slice none 0 0, .slice none 0 0] 30 (0, 0)) ∧ W.heap[w.heap.size]? = some (.cells #[.int .i64 d.kind, .int .i64 d.n, .string d.name, .int .i64 d.stamp, .int .i64 d.lib, .slice a kn cap] 26 (0, 0))) := fun W hb => ⟨(hb.block _ (by have := HRB.out.1; omega)).trans ((B3.out.2.block _ (by have := HRB.out.1; omega)).trans HR4.out.1), (hb.block _ (by have := HRB.out.1; omega)).trans ((B3.out.2.block _ (by have := HRB.out.1; omega)).trans HR4.out.2)⟩
 clear hW3 hb3 hwb hrb hqe qe
 obtain ⟨y0, y1, y2, y3, y4, y5⟩ := six_at (HBX.out W3 (Below.refl _ _)).2
 have E0 := hidd HWL.out.e7
 go_cut [12] (fun lv wx => ∃ (b o ln lc : Nat) (x : Dat) (xa : Option Addr) (xc : Nat) (e : Int) (P : Nat → Prop), lv = .slice (some ⟨b, o, none⟩) ln lc ∧ 0 < ln ∧ Hid (DAt P wx b o x xa xc) ∧ Hid (WL rb (.slice a1 n1 c1) (.slice a2 n2 c2) (.slice a3 n3 c3) lib0 e wx ∧ Below rb W3 wx ∧ (fst1 e (wdE x) ≠ 0 → wdS x = ⟨#[]⟩ ∧ fst1 e (wdE x) = 2 ∧ pr = .no 2) ∧ (fst1 e (wdE x) = 0 → d.kind = 4 ∧ some ⟨b, o, none⟩ = a ∧ ln = kn ∧ lc = cap ∧ ∃ r, d.kids = x :: r)))
 case first =>
  have hkw := HN.out.2
  by_cases hk : d.kind = 4 ∧ 1 ≤ d.kids.length
  ·have NE := hidd (need_ok rb d a cap W3 1 hk.1 hk.2)
   obtain ⟨x, r, hxr⟩ : ∃ x r, d.kids = x :: r := by
    match hq : d.kids, hk.2 with
    | x :: r, _ => exact ⟨x, r, rfl⟩
   obtain ⟨_, b, o, xa, xc, _, ha, hA, _⟩ := (HDK.out W3 (Below.refl _ _)).at (i := 0) (d := x) (by rw [hxr]; rfl)
   subst ha
   rw [Nat.zero_mul, Nat.add_zero] at hA
   have HX : Hid (∀ W, Below rb W3 W → DAt (fun k => k < rb) W b o x xa xc) := fun W hb => hA.below hb
   have HKX : Hid (d.kind = 4 ∧ d.kids = x :: r ∧ kn = r.length + 1) := ⟨hk.1, hxr, by rw [hkw, hxr]; rfl⟩
   unfold dv at NE
   rw [← hkw] at NE
   clear hA hxr hk hkw
   go_wp2_with fail
   refine NE.out.mono ?_
   rintro en w1 ⟨rfl, hs1⟩
   have H1 : Hid (WL rb (.slice a1 n1 c1) (.slice a2 n2 c2) (.slice a3 n3 c3) lib0 0 w1 ∧ Below rb W3 w1) := ⟨HWL.out.below hs1, hs1.mono (Nat.le_of_lt HWL.out.lt)⟩
   clear hs1 NE y0 y1 y2 y3 y4 y5
   go_wp2_with fail
   go_meet
   case rel =>
    refine ⟨_, _, _, _, x, xa, xc, 0, _, rfl, by have := HKX.out.2.2; omega, HX.out w1 H1.out.2, H1.out.1, H1.out.2, fun he => ?_, fun he => ⟨HKX.out.1, rfl, rfl, rfl, r, HKX.out.2.1⟩⟩
    obtain ⟨q1, q2, q3⟩ := all_bad HKX.out.1 HKX.out.2.1 he
    exact ⟨q1, q2, by rw [HR.out]; exact q3 E⟩
  have NE := hidd (need_no rb 0 d a cap W3 1 E0.out (Or.inl rfl) hk)
  have HPN : Hid (pr = .no 2) := by show _ = _; rw [HR.out]; exact all_none hk
  unfold dv at NE
  rw [← hkw] at NE
  clear hk hkw
  go_wp2_with fail
  refine NE.out.mono ?_
  rintro en w1 ⟨zb, rfl, hz, hdz, hs1⟩
  have H1 : Hid (WL rb (.slice a1 n1 c1) (.slice a2 n2 c2) (.slice a3 n3 c3) lib0 2 w1 ∧ Below rb W3 w1 ∧ DW rb w1 1 (some ⟨zb, 0, none⟩) (List.replicate 1 zeroD)) := ⟨HWL.out.st hs1, hs1.lowr E0.out, hdz⟩
  clear hs1 hdz hz NE y0 y1 y2 y3 y4 y5
  go_wp2_with fail
  go_meet
  case rel =>
   obtain ⟨_, b, o, xa, xc, hff, hbq, hA, hrr⟩ := H1.out.2.2.at (i := 0) (d := zeroD) rfl
   cases hbq
   rw [Nat.zero_mul, Nat.add_zero] at hA
   exact ⟨_, _, _, _, zeroD, xa, xc, 2, _, rfl, by decide, hA, H1.out.1, H1.out.2.1, fun _ => ⟨rfl, rfl, HPN.out⟩, fun h => absurd h (by decide)⟩
 case rest =>
  obtain ⟨b, o, ln, lc, x, xa, xc, e, P, rfl, hln, HX, HC⟩ := hcut
  have WD := hidd (word_any rb e x xa xc wc HC.out.1.e7)
  unfold dv at WD
  obtain ⟨_, d0, d1, d2, d3, d4, d5, _, _⟩ := HX.out
  have i1 : (0 : Int) < (ln : Int) := by omega
  obtain ⟨q, hq⟩ : ∃ q, q = fst1 e (wdE x) := ⟨_, rfl⟩
  obtain ⟨nm, hnm⟩ : ∃ nm, nm = wdS x := ⟨_, rfl⟩
  have HCC : Hid ((q ≠ 0 → nm = ⟨#[]⟩ ∧ q = 2 ∧ pr = .no 2) ∧ (q = 0 → x.kind = 3 ∧ nm = x.name ∧ d.kind = 4 ∧ some ⟨b, o, none⟩ = a ∧ ln = kn ∧ lc = cap ∧ ∃ r, d.kids = x :: r)) := by
   rw [hq, hnm]
   exact ⟨HC.out.2.2.1, fun he => ⟨(all_word2 he).1, (all_word2 he).2, HC.out.2.2.2 he⟩⟩
  rw [← hnm, ← hq] at WD
  have WQ : Hid (∀ W, St rb q wc W → WL rb (.slice a1 n1 c1) (.slice a2 n2 c2) (.slice a3 n3 c3) lib0 q W) := fun W hs => by
   rw [hq] at hs ⊢
   exact HC.out.1.fst hs
  generalize x.kids.length = xn at *
  clear hq hnm HX
  go_wp2_with fail
  refine WD.out.mono ?_
  rintro en w2 ⟨rfl, hs2⟩
  have H2 : Hid (WL rb (.slice a1 n1 c1) (.slice a2 n2 c2) (.slice a3 n3 c3) lib0 q w2 ∧ Below rb W3 w2) := ⟨WQ.out w2 hs2, HC.out.2.1.trans (hs2.lowr HC.out.1.e7)⟩
  clear hs2 WD WQ d0 d1 d2 d3 d4 d5
  go_upto_if 43 with fail
  go_cut [12, 14] (fun lv iv wx => ∃ (la : Option Addr) (ln lc j : Nat) (s0 : LibS) (e : Int), lv = .slice la ln lc ∧ iv = .int .i64 j ∧ j ≤ 2 ∧ Hid (WL rb (.slice a1 n1 c1) (.slice a2 n2 c2) (.slice a3 n3 c3) s0 e wx ∧ Below rb W3 wx ∧ (e ≠ 0 → pr = .no e) ∧ (e = 0 → d.kind = 4 ∧ la = a ∧ ln = kn ∧ lc = cap ∧ pr = declL E (d.kids.drop j) s0)))
  case first =>
   by_cases hnl : nm = bLibrary
   rotate_left
   ·by_cases hnp : nm = bProgram
    ·have hn := hnp
     have hq0 : q = 0 := Classical.byContradiction fun he => absurd ((HCC.out.1 he).1.symm.trans hn) (by decide)
     have HPP : Hid (q = 0 ∧ pr = declL E (d.kids.drop 1) lib0 ∧ d.kind = 4 ∧ some ⟨b, o, none⟩ = a ∧ ln = kn ∧ lc = cap) := by
      obtain ⟨q1, q2, q3, q4, q5, q6, r, q7⟩ := HCC.out.2 hq0
      refine ⟨hq0, ?_, q3, q4, q5, q6⟩
      rw [HR.out, all_form q3 q7 q1, ← q2, hn, if_neg (by decide), if_pos rfl, q7]
      rfl
     have ke : (nm.toList == bLibrary.toList) = false := beqS_ne (by rw [hn]; decide)
     unfold bLibrary at ke
     have ml : (nm.toList == [108, 105, 98, 114, 97, 114, 121]) = false := by simpa using ke
     clear ke
     have ke : (nm.toList == bProgram.toList) = true := by rw [hn]; simp
     unfold bProgram at ke
     have mp : (nm.toList == [112, 114, 111, 103, 114, 97, 109]) = true := by simpa using ke
     clear ke
     have mp2 : (nm.toList != [112, 114, 111, 103, 114, 97, 109]) = false := by simp [bne, mp]
     have mp3 : nm.toList = [112, 114, 111, 103, 114, 97, 109] := by simpa using mp
     rw [ml]
     clear hn hnl hnp hq0
     go_wp2_with fail
     go_meet
     case rel => exact ⟨_, _, _, 1, lib0, q, rfl, rfl, by decide, H2.out.1, H2.out.2, fun he => absurd HPP.out.1 he, fun _ => ⟨HPP.out.2.2.1, HPP.out.2.2.2.1, HPP.out.2.2.2.2.1, HPP.out.2.2.2.2.2, HPP.out.2.1⟩⟩
    have SP := hidd (stop_any rb q 2 w2 H2.out.1.e7)
    have HPP : Hid (fst1 q 2 = 2 ∧ pr = .no 2) := by
     show _ ∧ _
     by_cases hq0 : q = 0
     ·obtain ⟨q1, q2, q3, q4, q5, q6, r, q7⟩ := HCC.out.2 hq0
      exact ⟨by rw [hq0]; rfl, by rw [HR.out, all_form q3 q7 q1, ← q2, if_neg hnl, if_neg hnp]⟩
     obtain ⟨_, q2, q3⟩ := HCC.out.1 hq0
     exact ⟨by rw [q2]; rfl, q3⟩
    have ke : (nm.toList == bLibrary.toList) = false := beqS_ne hnl
    unfold bLibrary at ke
    have ml : (nm.toList == [108, 105, 98, 114, 97, 114, 121]) = false := by simpa using ke
    clear ke
    have ke : (nm.toList == bProgram.toList) = false := beqS_ne hnp
    unfold bProgram at ke
    have mp : (nm.toList == [112, 114, 111, 103, 114, 97, 109]) = false := by simpa using ke
    clear ke
    rw [ml]
    clear hnl hnp
    go_wp2_with fail
    refine SP.out.mono ?_
    rintro en w4 ⟨rfl, hs4⟩
    have H4 : Hid (WL rb (.slice a1 n1 c1) (.slice a2 n2 c2) (.slice a3 n3 c3) lib0 (fst1 q 2) w4 ∧ Below rb W3 w4) := ⟨H2.out.1.fst hs4, H2.out.2.trans (hs4.lowr H2.out.1.e7)⟩
    clear hs4 SP
    go_wp2_with fail
    go_meet
    case rel => exact ⟨_, _, _, 1, lib0, fst1 q 2, rfl, rfl, by decide, H4.out.1, H4.out.2, fun _ => by rw [HPP.out.1]; exact HPP.out.2, fun he => absurd (HPP.out.1.symm.trans he) (by decide)⟩
   have hn := hnl
   have hq0 : q = 0 := Classical.byContradiction fun he => absurd ((HCC.out.1 he).1.symm.trans hn) (by decide)
   obtain ⟨r, HPP⟩ : ∃ r, Hid (q = 0 ∧ pr = tailF E r ∧ d.kind = 4 ∧ some ⟨b, o, none⟩ = a ∧ ln = kn ∧ lc = cap ∧ d.kids = x :: r) := by
    obtain ⟨q1, q2, q3, q4, q5, q6, r, q7⟩ := HCC.out.2 hq0
    refine ⟨r, hq0, ?_, q3, q4, q5, q6, q7⟩
    rw [HR.out, all_form q3 q7 q1, ← q2, hn, if_pos rfl]
   have ke : (nm.toList == bLibrary.toList) = true := by rw [hn]; simp
   unfold bLibrary at ke
   have ml : (nm.toList == [108, 105, 98, 114, 97, 114, 121]) = true := by simpa using ke
   clear ke
   rw [ml]
   clear hn hnl
   subst hq0
   by_cases hk2 : 2 ≤ d.kids.length
   rotate_left
   ·have NE := hidd (need_no rb 0 d a cap w2 2 H2.out.1.e7 (Or.inr (Or.inl rfl)) (fun h => hk2 h.2))
    have HPN : Hid (pr = .no 2) := by
     have hl : d.kids.length = r.length + 1 := by rw [HPP.out.2.2.2.2.2.2]; rfl
     have h0 : r = [] := List.eq_nil_of_length_eq_zero (by omega)
     show _ = _
     rw [HPP.out.2.1, h0]
     rfl
    unfold dv at NE
    rw [← HN.out.2] at NE
    obtain ⟨y0, y1, y2, y3, y4, y5⟩ := six_at (HBX.out w2 H2.out.2).2
    clear hk2
    go_wp2_with fail
    refine NE.out.mono ?_
    rintro en w3 ⟨zb, rfl, hz, hdz, hs3⟩
    have H3 : Hid (WL rb (.slice a1 n1 c1) (.slice a2 n2 c2) (.slice a3 n3 c3) lib0 2 w3 ∧ Below rb w2 w3) := ⟨H2.out.1.st hs3, hs3.lowr H2.out.1.e7⟩
    have GD := hidd (good1 rb 2 w3 H3.out.1.e7 (by decide))
    clear hs3 hdz hz NE y0 y1 y2 y3 y4 y5
    go_wp2_with fail
    refine GD.out.mono ?_
    rintro en wm ⟨rfl, hwm⟩
    rw [hwm]
    clear hwm
    clear GD
    go_wp2_with fail
    go_meet
    case rel => exact ⟨_, _, _, 2, lib0, 2, rfl, rfl, by decide, H3.out.1, H2.out.2.trans H3.out.2, fun _ => HPN.out, fun h => absurd h (by decide)⟩
   have NE := hidd (need_ok rb d a cap w2 2 HPP.out.2.2.1 hk2)
   obtain ⟨y, t, hyt⟩ : ∃ y t, r = y :: t := by
    have hl : d.kids.length = r.length + 1 := by rw [HPP.out.2.2.2.2.2.2]; rfl
    match hq : r, (show 1 ≤ r.length by omega) with
    | y :: t, _ => exact ⟨y, t, rfl⟩
   obtain ⟨_, b', o', ya, yc, _, ha, hA, hyk⟩ := (HDK.out w2 H2.out.2).at (i := 1) (d := y) (by rw [HPP.out.2.2.2.2.2.2, hyt]; rfl)
   rw [← HPP.out.2.2.2.1] at ha
   cases ha
   have HY : Hid (∀ W, Below rb w2 W → DAt (fun k => k < rb) W b (o + 1 * 6) y ya yc ∧ Dc (fun k => k < rb) W _ ya y.kids) := fun W hb => ⟨hA.below hb, hyk.below hb⟩
   have HOY : Hid (okD y) := by
    have h1 := (okD_list HOK'.out HPP.out.2.2.1).2
    rw [HPP.out.2.2.2.2.2.2, hyt] at h1
    exact h1.2.1
   have HPR : Hid (pr = (calledF y).bind fun n => declL E t { lib0 with name := n }) := by
    show _ = _
    rw [HPP.out.2.1, hyt]
    rfl
   have HD2 : Hid (d.kids.drop 2 = t) := by
    show _ = _
    rw [HPP.out.2.2.2.2.2.2, hyt]
    rfl
   have i2 : (1 : Int) < (ln : Int) := by have h1 := HPP.out.2.2.2.2.1; have h2 := HN.out.2; omega
   have HLL : Hid (a = some ⟨b, o, none⟩ ∧ ln = kn ∧ lc = cap) := ⟨HPP.out.2.2.2.1.symm, HPP.out.2.2.2.2.1, HPP.out.2.2.2.2.2.1⟩
   have hk4' : Hid (d.kind = 4) := HPP.out.2.2.1
   have NE2 : Hid (Calls Tryz.prog 31 #[.pointer (some ⟨rb, 0, none⟩), .agg #[.int .i64 d.kind, .int .i64 d.n, .string d.name, .int .i64 d.stamp, .int .i64 d.lib, .slice a kn cap], .int .i64 2] w2 fun en w' => en = .returned (.slice (some ⟨b, o, none⟩) ln lc) ∧ Below w2.heap.size w2 w') := by
    have h := NE.out
    unfold dv at h
    rw [← HN.out.2] at h
    rw [HLL.out.2.1, HLL.out.2.2, ← HLL.out.1]
    exact h
   obtain ⟨y0, y1, y2, y3, y4, y5⟩ := six_at (HBX.out w2 H2.out.2).2
   clear NE hyt hA hyk hk2
   go_wp2_with fail
   refine NE2.out.mono ?_
   rintro en w3 ⟨rfl, hs3⟩
   have H3 : Hid (WL rb (.slice a1 n1 c1) (.slice a2 n2 c2) (.slice a3 n3 c3) lib0 0 w3 ∧ Below rb w2 w3) := ⟨H2.out.1.below hs3, hs3.mono (Nat.le_of_lt H2.out.1.lt)⟩
   obtain ⟨⟨_, z0, z1, z2, z3, z4, z5, _, hyl⟩, hyk⟩ := HY.out w3 H3.out.2
   have GD := hidd (good0 rb w3 H3.out.1.e7)
   have NM := hidd (Name_any rb _ 0 y ya yc w3 H3.out.1.e7 (Dc.stay (fun _ _ => rfl) (fun k hk => ⟨Nat.lt_trans hk H3.out.1.lt, Nat.ne_of_lt hk⟩) _ _ _ hyk) hyl HOY.out)
   have HNZ := hidd (nz_called y)
   unfold dv at NM
   generalize calledF y = cy at *
   generalize y.kids.length = yn at *
   clear hs3 NE2 hyl hyk HY HOY y0 y1 y2 y3 y4 y5
   go_wp2_with fail
   refine GD.out.mono ?_
   rintro en wm ⟨rfl, hwm⟩
   rw [hwm]
   clear hwm
   clear GD
   go_wp2_with fail
   refine NM.out.mono ?_
   rintro en w4 ⟨sn, rfl, hs4, hsn⟩
   rw [fst1_zero] at hs4
   have H4 : Hid (WL rb (.slice a1 n1 c1) (.slice a2 n2 c2) (.slice a3 n3 c3) lib0 (erE cy) w4 ∧ Below rb w2 w4) := ⟨H3.out.1.st hs4, H3.out.2.trans (hs4.lowr H3.out.1.e7)⟩
   have HSN := hidd hsn
   have c3 : w4.cell? ⟨rb, 3, none⟩ = some (.string lib0.name) := by obtain ⟨_, _, _, _, _, h1, _⟩ := H4.out.1; exact (cellO h1.blk).trans rfl
   have l3 : w4.frozen? ⟨rb, 3, none⟩ = false := by obtain ⟨_, _, _, _, _, h1, _⟩ := H4.out.1; exact looseO h1.blk
   clear hs4 hsn NM z0 z1 z2 z3 z4 z5
   go_wp2_with fail
   go_meet
   case rel =>
    refine ⟨_, _, _, 2, { lib0 with name := sn }, erE cy, rfl, rfl, by decide, (H4.out.1.nm sn).1, H2.out.2.trans (H4.out.2.trans (H4.out.1.nm sn).2), fun he => ?_, fun he => ⟨hk4'.out, HLL.out.1.symm, HLL.out.2.1, HLL.out.2.2, ?_⟩⟩
    ·rw [HPR.out]
     cases cy with
     | ok v => exact absurd rfl he
     | no v => rfl
    rw [HPR.out, HD2.out]
    cases cy with
    | ok v => rw [HSN.out v rfl]; rfl
    | no v => exact absurd he (HNZ.out v rfl)
  case rest =>
   obtain ⟨la, ln, lc, j0, s0, e0, rfl, rfl, hj0, HC2⟩ := hcut
   clear HCC HC E0
   go_wp2_with fail
   go_loopw [15] (fun ix wr => ∃ (j : Nat) (s' : LibS) (e : Int), ix = .int .i64 j ∧ Hid (WL rb (.slice a1 n1 c1) (.slice a2 n2 c2) (.slice a3 n3 c3) s' e wr ∧ Below rb W3 wr ∧ (e ≠ 0 → pr = .no e) ∧ (e = 0 → d.kind = 4 ∧ la = a ∧ ln = kn ∧ lc = cap ∧ pr = declL E (d.kids.drop j) s'))) (fun ix _ => ln - (intOf ix).toNat)
   case atStart => exact ⟨j0, s0, e0, rfl, HC2.out.1, HC2.out.2.1, HC2.out.2.2.1, HC2.out.2.2.2⟩
   obtain ⟨j, s', e, rfl, HR2⟩ := hrel
   by_cases he : e = 0
   ·subst he
    have HPR : Hid (pr = declL E (d.kids.drop j) s') := (HR2.out.2.2.2 rfl).2.2.2.2
    have HLA : Hid (la = a) := (HR2.out.2.2.2 rfl).2.1
    have HLN : Hid (ln = kn ∧ lc = cap) := ⟨(HR2.out.2.2.2 rfl).2.2.1, (HR2.out.2.2.2 rfl).2.2.2.1⟩
    have HK4 : Hid (d.kind = 4) := (HR2.out.2.2.2 rfl).1
    have HR3 : Hid (WL rb (.slice a1 n1 c1) (.slice a2 n2 c2) (.slice a3 n3 c3) s' 0 wr ∧ Below rb W3 wr) := ⟨HR2.out.1, HR2.out.2.1⟩
    have HKL : Hid (d.kids.length = ln) := by have h1 := HN.out.2; have h2 := HLN.out.1; show _ = _; omega
    have hl2 : ln ≤ 2000 := by have h1 := (okD_list HOK'.out HK4.out).1; have h2 := HKL.out; omega
    by_cases hlt : j < ln
    ·obtain ⟨y, hy, hdk⟩ : ∃ y, d.kids[j]? = some y ∧ d.kids.drop j = y :: d.kids.drop (j + 1) := ⟨_, List.getElem?_eq_getElem (by have := HKL.out; omega), List.drop_eq_getElem_cons (by have := HKL.out; omega)⟩
     obtain ⟨gy, b', o', ya, yc, _, hab, hA, hyk⟩ := (HDK.out wr HR3.out.2).at hy
     rw [← HLA.out] at hab
     subst hab
     obtain ⟨_, z0, z1, z2, z3, z4, z5, _, hyl⟩ := id hA
     have q1 : (0 : Int) ≤ (j : Int) := by omega
     have q2 : (j : Int) < (ln : Int) := by omega
     have HOY : Hid (okD y) := okL_mem (okD_list HOK'.out HK4.out).2 y (List.mem_of_getElem? hy)
     have HZY := hidd (zrL_mem (zrD_list HZR.out HK4.out) y (List.mem_of_getElem? hy))
     have DC := hidd (Decl_any rb (.slice a1 n1 c1) (.slice a2 n2 c2) (.slice a3 n3 c3) E (SizeOf.sizeOf y + 1) y (Nat.lt_succ_self _) HOY.out HZY.out gy ya yc wr s' HR3.out.1 hyk hyl (HEV.out wr HR3.out.2))
     have HDL : Hid (pr = (declD E y s').bind fun s'' => declL E (d.kids.drop (j + 1)) s'') := by
      show _ = _
      rw [HPR.out, hdk, declL]
     have HNZ := hidd (nz_declD E y s')
     have GD := hidd (good0 rb wr HR3.out.1.e7)
     unfold dv at DC
     generalize declD E y s' = cy at *
     generalize y.kids.length = yn at *
     clear hA hyk hyl hy hdk HOY
     go_wp2_with fail
     refine GD.out.mono ?_
     rintro en wm ⟨rfl, hwm⟩
     rw [hwm]
     clear hwm
     clear GD
     go_wp2_with fail
     refine DC.out.mono ?_
     rintro en w6 ⟨rfl, hb6, s6, hw6, hs6⟩
     have H6 := hidd (And.intro hb6 (And.intro hw6 hs6))
     clear hb6 hw6 hs6 DC z0 z1 z2 z3 z4 z5
     go_wp2_with fail
     go_roundw
     case rel =>
      refine ⟨j + 1, s6, erE cy, by go_num, H6.out.2.1, HR3.out.2.trans H6.out.1, fun he => ?_, fun he => ⟨HK4.out, HLA.out, HLN.out.1, HLN.out.2, ?_⟩⟩
      ·rw [HDL.out]
       cases cy with
       | ok v => exact absurd rfl he
       | no v => rfl
      rw [HDL.out]
      cases cy with
      | ok v => rw [H6.out.2.2 v rfl]; rfl
      | no v => exact absurd he (HNZ.out v rfl)
     case measure => simp [intOf] <;> omega
    have q2 : ¬ (j : Int) < (ln : Int) := by omega
    have HFI : Hid (pr = .ok s') := by
     show _ = _
     rw [HPR.out, List.drop_eq_nil_of_le (by have := HKL.out; omega)]
     rfl
    have GD := hidd (good0 rb wr HR3.out.1.e7)
    have HWB : Hid (Below rb W3 wr) := HR3.out.2
    have HBW : Hid (Below w.heap.size w wr) := B3.out.1.trans (HWB.out.mono (by have := HRB.out.1; omega))
    obtain ⟨_, _, _, bs, ⟨ea, en, ec, rfl⟩, ⟨ia, ni, ic, rfl⟩, ⟨ba, bn, bc, rfl⟩, hwb, hbs, hlm⟩ := WL.lib HR3.out.1 (w.heap.size + 1) (by have := HRB.out.1; omega) _ _ _ _ (HBX.out wr HWB.out).1
    have u3 : wr.cell? ⟨rb, 3, none⟩ = some (.string s'.name) := (cellO hwb).trans rfl
    have u4 : wr.cell? ⟨rb, 4, none⟩ = some (.slice ea en ec) := (cellO hwb).trans rfl
    have u5 : wr.cell? ⟨rb, 5, none⟩ = some (.slice ia ni ic) := (cellO hwb).trans rfl
    have u6 : wr.cell? ⟨rb, 6, none⟩ = some (.slice ba bn bc) := (cellO hwb).trans rfl
    have HLM := hidd (And.intro hbs hlm)
    clear hwb hbs hlm hlt
    have HOB := hidd (HBX.out wr HWB.out).1
    have r0 := (cellO (q := 0) HOB.out).trans rfl
    have r1 := (cellO (q := 1) HOB.out).trans rfl
    have r2 := (cellO (q := 2) HOB.out).trans rfl
    have r3 := (cellO (q := 3) HOB.out).trans rfl
    have t0 := looseO (q := 0) HOB.out
    have t1 := looseO (q := 1) HOB.out
    have t2 := looseO (q := 2) HOB.out
    have t3 := looseO (q := 3) HOB.out
    go_wp2_with fail
    refine GD.out.mono ?_
    rintro en wm ⟨rfl, hwm⟩
    rw [hwm]
    clear hwm
    clear GD
    go_wp2_with fail
    refine bodyPost_ret (v := .tuple #[.agg #[.string s'.name, .slice ea en ec, .slice ia ni ic, .slice ba bn bc], .int .i64 0]) (ret10 (four_set HOB.out) rfl rfl) rfl ⟨?_, ?_⟩
    ·exact (((HBW.out.setCell (p := ⟨w.heap.size + 1, 0, none⟩) (Nat.le_add_right _ _) _).setCell (p := ⟨w.heap.size + 1, 1, none⟩) (Nat.le_add_right _ _) _).setCell (p := ⟨w.heap.size + 1, 2, none⟩) (Nat.le_add_right _ _) _).setCell (p := ⟨w.heap.size + 1, 3, none⟩) (Nat.le_add_right _ _) _
    rw [HFI.out]
    exact ⟨_, _, _, bs, rfl, HLM.out.2, HLM.out.1⟩
   have HNE := hidd he
   have GD := hidd (good1 rb e wr HR2.out.1.e7 he)
   clear he
   by_cases hlt : j < ln
   ·have q2 : (j : Int) < (ln : Int) := by omega
    go_wp2_with fail
    refine GD.out.mono ?_
    rintro en wm ⟨rfl, hwm⟩
    rw [hwm]
    clear hwm
    have HWB : Hid (Below rb W3 wr) := HR2.out.2.1
    have HBW : Hid (Below w.heap.size w wr) := B3.out.1.trans (HWB.out.mono (by have := HRB.out.1; omega))
    have HPN : Hid (pr = .no e) := HR2.out.2.2.1 HNE.out
    have u7 := HR2.out.1.e7.1
    have GD := hidd (good1 rb e wr HR2.out.1.e7 HNE.out)
    have HOB := hidd (HBX.out wr HWB.out).1
    have r0 := (cellO (q := 0) HOB.out).trans rfl
    have r1 := (cellO (q := 1) HOB.out).trans rfl
    have r2 := (cellO (q := 2) HOB.out).trans rfl
    have r3 := (cellO (q := 3) HOB.out).trans rfl
    have t0 := looseO (q := 0) HOB.out
    have t1 := looseO (q := 1) HOB.out
    have t2 := looseO (q := 2) HOB.out
    have t3 := looseO (q := 3) HOB.out
    go_wp2_with fail
    refine GD.out.mono ?_
    rintro en wm ⟨rfl, hwm⟩
    rw [hwm]
    clear hwm
    clear GD hlt q2
    have ne1 : ¬ rb = w.heap.size + 1 := by have := HRB.out.1; omega
    have ne2 : ¬ w.heap.size + 1 = rb := fun e => ne1 e.symm
    go_upto_region 22 with fail
    go_region
    all_goals
     go_wp2_with fail
     refine bodyPost_ret (v := .tuple #[.agg #[.string ⟨#[]⟩, .slice none 0 0, .slice none 0 0, .slice none 0 0], .int .i64 e]) (ret10 (four_set HOB.out) rfl rfl) rfl ⟨?_, ?_⟩
     ·first | exact (((HBW.out.setCell (p := ⟨w.heap.size + 1, 0, none⟩) (Nat.le_add_right _ _) _).setCell (p := ⟨w.heap.size + 1, 1, none⟩) (Nat.le_add_right _ _) _).setCell (p := ⟨w.heap.size + 1, 2, none⟩) (Nat.le_add_right _ _) _).setCell (p := ⟨w.heap.size + 1, 3, none⟩) (Nat.le_add_right _ _) _ | exact ((((HBW.out.drew).setCell (p := ⟨w.heap.size + 1, 0, none⟩) (Nat.le_add_right _ _) _).setCell (p := ⟨w.heap.size + 1, 1, none⟩) (Nat.le_add_right _ _) _).setCell (p := ⟨w.heap.size + 1, 2, none⟩) (Nat.le_add_right _ _) _).setCell (p := ⟨w.heap.size + 1, 3, none⟩) (Nat.le_add_right _ _) _ | exact ((((HBW.out.setCell (p := ⟨w.heap.size + 1, 0, none⟩) (Nat.le_add_right _ _) _).setCell (p := ⟨w.heap.size + 1, 1, none⟩) (Nat.le_add_right _ _) _).setCell (p := ⟨w.heap.size + 1, 2, none⟩) (Nat.le_add_right _ _) _).setCell (p := ⟨w.heap.size + 1, 3, none⟩) (Nat.le_add_right _ _) _).drew
     rw [HPN.out]
   have q2 : ¬ (j : Int) < (ln : Int) := by omega
   have HWB : Hid (Below rb W3 wr) := HR2.out.2.1
   have HBW : Hid (Below w.heap.size w wr) := B3.out.1.trans (HWB.out.mono (by have := HRB.out.1; omega))
   have HPN : Hid (pr = .no e) := HR2.out.2.2.1 HNE.out
   have u7 := HR2.out.1.e7.1
   have GD := hidd (good1 rb e wr HR2.out.1.e7 HNE.out)
   have HOB := hidd (HBX.out wr HWB.out).1
   have r0 := (cellO (q := 0) HOB.out).trans rfl
   have r1 := (cellO (q := 1) HOB.out).trans rfl
   have r2 := (cellO (q := 2) HOB.out).trans rfl
   have r3 := (cellO (q := 3) HOB.out).trans rfl
   have t0 := looseO (q := 0) HOB.out
   have t1 := looseO (q := 1) HOB.out
   have t2 := looseO (q := 2) HOB.out
   have t3 := looseO (q := 3) HOB.out
   go_wp2_with fail
   refine GD.out.mono ?_
   rintro en wm ⟨rfl, hwm⟩
   rw [hwm]
   clear hwm
   clear GD hlt q2
   have ne1 : ¬ rb = w.heap.size + 1 := by have := HRB.out.1; omega
   have ne2 : ¬ w.heap.size + 1 = rb := fun e => ne1 e.symm
   go_upto_region 22 with fail
   go_region
   all_goals
    go_wp2_with fail
    refine bodyPost_ret (v := .tuple #[.agg #[.string ⟨#[]⟩, .slice none 0 0, .slice none 0 0, .slice none 0 0], .int .i64 e]) (ret10 (four_set HOB.out) rfl rfl) rfl ⟨?_, ?_⟩
    ·first | exact (((HBW.out.setCell (p := ⟨w.heap.size + 1, 0, none⟩) (Nat.le_add_right _ _) _).setCell (p := ⟨w.heap.size + 1, 1, none⟩) (Nat.le_add_right _ _) _).setCell (p := ⟨w.heap.size + 1, 2, none⟩) (Nat.le_add_right _ _) _).setCell (p := ⟨w.heap.size + 1, 3, none⟩) (Nat.le_add_right _ _) _ | exact ((((HBW.out.drew).setCell (p := ⟨w.heap.size + 1, 0, none⟩) (Nat.le_add_right _ _) _).setCell (p := ⟨w.heap.size + 1, 1, none⟩) (Nat.le_add_right _ _) _).setCell (p := ⟨w.heap.size + 1, 2, none⟩) (Nat.le_add_right _ _) _).setCell (p := ⟨w.heap.size + 1, 3, none⟩) (Nat.le_add_right _ _) _ | exact ((((HBW.out.setCell (p := ⟨w.heap.size + 1, 0, none⟩) (Nat.le_add_right _ _) _).setCell (p := ⟨w.heap.size + 1, 1, none⟩) (Nat.le_add_right _ _) _).setCell (p := ⟨w.heap.size + 1, 2, none⟩) (Nat.le_add_right _ _) _).setCell (p := ⟨w.heap.size + 1, 3, none⟩) (Nat.le_add_right _ _) _).drew
    rw [HPN.out]
end Go.Proofs.YtonafbennobgdaaGreatDoor.R3
