/- The document's walk over declarations: any set. -/
import Derived.Test.YtonafbennobgdaaGreatDoorK16
import Derived.Test.YtonafbennobgdaaGreatDoorK25
import Derived.Test.YtonafbennobgdaaGreatDoorK33
import Derived.Test.YtonafbennobgdaaGreatDoorK38
namespace Go.Proofs.YtonafbennobgdaaGreatDoor.R3
set_option linter.unusedVariables false
set_option linter.unusedSimpArgs false
open Go.RowKit
set_option maxRecDepth 100000 in
set_option maxHeartbeats 6400000 in
theorem set_deep3 (rb : Nat) (d : Dat) (a : Option Addr) (cap : Nat) (dp : Int) (w : World) (h : E7 rb 0 w) (hdp : 12 < dp) :
 Calls Tryz.prog 60 #[.pointer (some ⟨rb, 0, none⟩), dv d a cap, .int .i64 dp] w (TellS rb (.no 4) w) := by
 obtain ⟨W0, hW0⟩ : ∃ W0, W0 = (w.alloc (.cells #[.int .i64 d.kind, .int .i64 d.n, .string d.name, .int .i64 d.stamp, .int .i64 d.lib, .slice a d.kids.length cap] 26)).alloc (.cells #[.int .i64 0, .string ⟨#[]⟩, .slice none 0 0, .slice none 0 0, .string ⟨#[]⟩, .slice none 0 0] 73) := ⟨_, rfl⟩
 obtain ⟨g1, g2, g3, g4⟩ := set_boxes d a d.kids.length cap w
 rw [← hW0] at g1 g2 g3 g4
 have hrb := h.lt
 have E0 := hidd (h.below g1)
 have HS := hidd (stop_any rb 0 4 W0 E0.out)
 have HG : Hid (∀ W, St rb 4 W0 W → Calls Tryz.prog 33 #[.pointer (some ⟨rb, 0, none⟩)] W fun en w' => en = .returned (.bool false) ∧ w' = W) := fun W hs => good1 rb 4 W (E0.out.st hs) (by decide)
 have HX : Hid (∀ W e, St rb e W0 W → W.heap[w.heap.size + 1]? = some (.cells #[.int .i64 0, .string ⟨#[]⟩, .slice none 0 0, .slice none 0 0, .string ⟨#[]⟩, .slice none 0 0] 73 (0, 0))) := fun W e hb => (hb.far (by omega) (by omega)).trans g3
 have HB0 : Hid (St rb 0 w W0) := St.of h g1
 have hw0 := hW0.symm
 have k1 : decide ((12 : Int) < dp) = true := by simp; omega
 have k2 : (12 : Int) < dp := hdp
 unfold dv
 generalize d.kids.length = kn at *
 clear hW0 g1 g2 g3 g4 h hdp
 go_enter Tryz.func60, Tryz.ntmps60
 go_wp2_with fail
 refine HS.out.mono ?_
 rintro en w1 ⟨rfl, hs1⟩
 have S1 : Hid (St rb 4 W0 w1) := hs1
 clear hs1
 go_wp2_with fail
 refine (HG.out w1 S1.out).mono ?_
 rintro en wm ⟨rfl, hwm⟩
 rw [hwm]
 clear hwm hw0
 have x1 := HX.out w1 _ S1.out
 obtain ⟨r0, r1, r2, r3, r4, r5⟩ := six_at x1
 obtain ⟨s0, s1, s2, s3, s4, s5⟩ := six_fz x1
 have H3 := hidd x1
 clear x1
 go_wp2_with fail
 refine bodyPost_ret (ret60 (stor H3.out _ _ _ _ _ _).1 rfl) rfl ?_
 exact ⟨_, rfl, ⟨0, _, none, 0, 0, none, 0, 0, _, none, 0, 0, rfl⟩, (stor H3.out _ _ _ _ _ _).2.2.2 _ _ (Nat.le_succ _) (HB0.out.trans S1.out), fun s hs => by cases hs⟩
theorem Set_any (rb : Nat) : ∀ (n : Nat), n ≤ 12 → ∀ (f : Nat) (d : Dat) (a : Option Addr) (cap : Nat) (w : World), E7 rb 0 w → DW rb w f a d.kids → d.kids.length ≤ cap → okD d →
 Calls Tryz.prog 60 #[.pointer (some ⟨rb, 0, none⟩), dv d a cap, .int .i64 (13 - (n : Int))] w (TellS rb (setF n d) w)
 | 0, _, f, d, a, cap, w, h, hd, hc, ho => set_deep3 rb d a cap _ w h (by simp)
 | n + 1, hn, f, d, a, cap, w, h, hd, hc, ho => by
  have hdp0 : (0 : Int) ≤ 13 - ((n + 1 : Nat) : Int) := by omega
  have hdp : 13 - ((n + 1 : Nat) : Int) ≤ 12 := by omega
  by_cases k1 : kindF (needD d 1) = 1
  ·have e : setF (n + 1) d = (calledF d).bind fun nm => .ok (.mk 1 nm [] [] ⟨#[]⟩ []) := by
    rw [setF]
    unfold calledF
    by_cases hk : d.kind = 4 ∧ d.kids ≠ []
    ·have et : thingsF d = .ok d.kids := by unfold thingsF; rw [if_pos hk]
     rw [et]
     have hn : needD d 1 = d.kids := if_pos ⟨hk.1, List.length_pos_iff.2 hk.2⟩
     simp only [Er.bind]
     rw [← hn, if_pos k1, hn]
    have et : thingsF d = .no 2 := by unfold thingsF; rw [if_neg hk]
    rw [et]
    rfl
   rw [e]
   exact set_lib rb f d a cap _ w h hd hc ho hdp k1
  have hk : d.kind = 4 ∧ 1 ≤ d.kids.length := by
   by_cases hk : d.kind = 4 ∧ 1 ≤ d.kids.length
   ·exact hk
   refine absurd ?_ k1
   unfold needD
   rw [if_neg hk]
   rfl
  have hnd : needD d 1 = d.kids := if_pos hk
  rw [hnd] at k1
  have o2 := (okD_list ho hk.1).2
  obtain ⟨x, y, r, hl, hx3, hy4, h5⟩ := kind_two o2 k1
  obtain ⟨kN, hkN, h5'⟩ : ∃ kN : Nat, kindF d.kids = (kN : Int) ∧ (kN = 2 ∨ kN = 3 ∨ kN = 4 ∨ kN = 5) := by
   rcases h5 with h | h | h | h
   ·exact ⟨2, h, by omega⟩
   ·exact ⟨3, h, by omega⟩
   ·exact ⟨4, h, by omega⟩
   exact ⟨5, h, by omega⟩
  rw [set_rest hk.1 hl h5, hkN]
  have oy : okD y := okL_mem o2 y (by rw [hl]; simp)
  refine set_some rb f kN d x y r a cap _ w (setF n y) h hd hc ho hdp0 hdp hk.1 hl hx3 hy4 hkN h5' (nz_set n y) (fun g ya yc W hE hdy hcy => ?_)
  rw [show (13 - ((n + 1 : Nat) : Int)) + 1 = 13 - (n : Int) by omega]
  exact Set_any rb n (by omega) g y ya yc W hE hdy hcy oy
set_option maxRecDepth 100000 in
set_option maxHeartbeats 3200000 in
theorem in86 (ok : Nat → Prop) (l : List ByteArray) (x : ByteArray) (v : Value) (w : World) (hl : SV ok l v w) (hn : l.length ≤ 9223372036854775807) :
 Calls Tryz.prog 86 #[v, .string x] w fun e w' => e = .returned (.bool (hasB x l)) ∧ w' = w := by
 obtain ⟨a, cap, rfl, hc, hl⟩ := hl
 have HR : Hid (∀ j y, l[j]? = some y → ∃ b o, a = some ⟨b, o, none⟩ ∧ w.cell? ⟨b, o + j, none⟩ = some (.string y)) := fun j y hj => by
  rcases hl with h0 | ⟨b, o, h1, h2, h3⟩
  ·rw [h0] at hj; simp at hj
  exact ⟨b, o, h1, h3 j y hj⟩
 have HL : Hid (∀ j, j < l.length → ∃ d, l[j]? = some d) := fun j hj => ⟨_, List.getElem?_eq_getElem hj⟩
 obtain ⟨n, hn'⟩ : ∃ n, n = l.length := ⟨_, rfl⟩
 have HN := hidd hn'
 rw [← hn'] at HL hn ⊢
 clear hl hn' hc
 go_enter Tryz.func86, Tryz.ntmps86
 go_wp2_with fail
 go_loopw [6, 9] (fun _ ix wr => ∃ (j : Nat), j ≤ n ∧ ix = .int .i64 j ∧ Hid (wr = w ∧ hasB x l = hasB x (l.drop j))) (fun _ ix _ => n - (intOf ix).toNat)
 case atStart => exact ⟨0, Nat.zero_le _, rfl, rfl, by rw [List.drop_zero]⟩
 obtain ⟨j, hj, rfl, HI⟩ := hrel
 obtain ⟨rfl, he⟩ := HI.out
 have HE0 := hidd he
 clear he HI
 by_cases hlt : j < n
 ·obtain ⟨p, hp⟩ := HL.out j hlt
  obtain ⟨g, o, rfl, c0⟩ := HR.out j p hp
  have i1 : (0 : Int) ≤ (j : Int) := by omega
  have i2 : (j : Int) < (n : Int) := by omega
  have HD := hidd (hasB_at (x := x) hp)
  clear hp
  by_cases hq : p = x
  ·have c1 : (p.toList == x.toList) = true := by rw [hq]; simp
   have HE : Hid (hasB x l = true) := by show _ = _; rw [HE0.out, HD.out, decide_eq_true hq, Bool.true_or]
   clear hq
   go_wp2_with fail
   go_ret
   exact ⟨by rw [HE.out]; rfl, rfl⟩
  have c1 := beqS_ne hq
  have HE : Hid (hasB x l = hasB x (l.drop (j + 1))) := by show _ = _; rw [HE0.out, HD.out, decide_eq_false hq, Bool.false_or]
  clear hq
  go_wp2_with fail
  go_roundw
  case rel => exact ⟨j + 1, hlt, by go_num, by first | exact trivial | rfl, HE.out⟩
  case measure => simp [intOf]; omega
 obtain rfl : j = n := by omega
 have HE : Hid (hasB x l = false) := by
  show _ = _
  rw [HE0.out, List.drop_eq_nil_of_le (by rw [← HN.out]; exact Nat.le_refl _)]
  rfl
 go_wp2_with fail
 go_ret
 exact ⟨by rw [HE.out]; rfl, by first | rfl | trivial⟩
structure EN (rb : Nat) (tv lv : Value) (E : Env) (w : World) : Prop where
 c1 : w.cell? ⟨rb, 1, none⟩ = some tv
 c2 : w.cell? ⟨rb, 2, none⟩ = some lv
 fs : SV (fun k => k < rb) E.features tv w
 ls : SV (fun k => k < rb) E.libs lv w
 n1 : E.features.length ≤ 9223372036854775807
 n2 : E.libs.length ≤ 9223372036854775807
theorem EN.st {rb : Nat} {tv lv : Value} {E : Env} {e : Int} {w w' : World} (h : EN rb tv lv E w) (hs : St rb e w w') : EN rb tv lv E w' := by
 have hl : rb < w.heap.size := World.block_lt_of_cell? _ _ h.c1
 have hc : ∀ i, i ≠ 7 → w'.cell? ⟨rb, i, none⟩ = w.cell? ⟨rb, i, none⟩ := fun i hi => (World.cell?_of_block (a := ⟨rb, i, none⟩) (hs.block rb hl)).trans (World.cell?_setCell_other _ _ _ _ (fun e => hi (congrArg Addr.off e).symm))
 exact ⟨(hc 1 (by decide)).trans h.c1, (hc 2 (by decide)).trans h.c2, h.fs.stay (fun k hk => hs.far (by omega) (by omega)) (fun k hk => hk), h.ls.stay (fun k hk => hs.far (by omega) (by omega)) (fun k hk => hk), h.n1, h.n2⟩
def TellH (rb : Nat) (r : Er Bool) (w : World) (en : Ending) (w' : World) : Prop := ∃ b, en = .returned (.bool b) ∧ St rb (erE r) w w' ∧ ∀ c, r = .ok c → b = c
def holdsX (E : Env) (A : Bool) (l : List Dat) : Er Bool := if A then holdsA E l else holdsO E l
theorem holdsX_nil (E : Env) (A : Bool) : holdsX E A [] = .ok A := by cases A <;> unfold holdsX <;> simp [holdsA, holdsO]
theorem holdsX_cons (E : Env) (A : Bool) (x : Dat) (r : List Dat) : holdsX E A (x :: r) = (holdsD E x).bind fun b => if b = A then holdsX E A r else .ok b := by
 cases A with
 | true =>
  show holdsA E (x :: r) = _
  rw [holdsA]
  congr 1
  funext b
  cases b <;> rfl
 | false =>
  show holdsO E (x :: r) = _
  rw [holdsO]
  congr 1
  funext b
  cases b <;> rfl
def Frw (rb : Nat) (ev iv bv : Value) (w : World) (k : Nat) : Prop := k < w.heap.size ∧ k ≠ rb ∧ some k ≠ ev.ownBlock ∧ some k ≠ iv.ownBlock ∧ some k ≠ bv.ownBlock
def Frx (rb : Nat) (ev iv : Value) (w : World) (k : Nat) : Prop := k < w.heap.size ∧ k ≠ rb ∧ some k ≠ ev.ownBlock ∧ some k ≠ iv.ownBlock
def Frz (rb : Nat) (ev iv bv : Value) (w : World) (k : Nat) : Prop := rb < k ∧ Frw rb ev iv bv w k
structure WS (rb : Nat) (fv tv lv : Value) (nm : ByteArray) (ex : List (ByteArray × ByteArray)) (is : List IE) (es : List (Dat × Option Addr × Nat)) (ev iv bv : Value) (e : Int) (w : World) : Prop where
 blk : WB rb fv tv lv nm ev iv bv e w
 eo : w.ownsRow (rb + 1) 70 2 ev ex.length (flatE ex)
 io : w.ownsRow (rb + 1) 73 6 iv is.length (flatI is)
 bo : w.ownsRow (rb + 1) 26 6 bv es.length (flat es)
 ik : e = 0 → ∀ i ∈ is, i.ok (Frz rb ev iv bv w) w
 bk : ∀ d ∈ es, d.1.name.size ≤ maxLen ∧ d.1.kids.length ≤ d.2.2 ∧ ∃ f, Dc (Frw rb ev iv bv w) w f d.2.1 d.1.kids
theorem WS.lt {rb : Nat} {fv tv lv : Value} {nm : ByteArray} {ex : List (ByteArray × ByteArray)} {is : List IE} {es : List (Dat × Option Addr × Nat)} {ev iv bv : Value} {e : Int} {w : World} (h : WS rb fv tv lv nm ex is es ev iv bv e w) : rb < w.heap.size := ltH h.blk
theorem WS.own {rb : Nat} {fv tv lv : Value} {nm : ByteArray} {ex : List (ByteArray × ByteArray)} {is : List IE} {es : List (Dat × Option Addr × Nat)} {ev iv bv : Value} {e : Int} {w : World} (h : WS rb fv tv lv nm ex is es ev iv bv e w) {k : Nat} (hk : some k = ev.ownBlock ∨ some k = iv.ownBlock ∨ some k = bv.ownBlock) : rb < k ∧ k < w.heap.size := by
 rcases hk with e | e | e
 ·have := own_typeL h.eo k e.symm; exact ⟨by omega, this.2.1⟩
 ·have := own_typeL h.io k e.symm; exact ⟨by omega, this.2.1⟩
 have := own_typeL h.bo k e.symm; exact ⟨by omega, this.2.1⟩
theorem WS.keep {rb : Nat} {fv tv lv : Value} {nm : ByteArray} {ex : List (ByteArray × ByteArray)} {is : List IE} {es : List (Dat × Option Addr × Nat)} {ev iv bv : Value} {e : Int} {e' : Int} {w w' : World} (h : WS rb fv tv lv nm ex is es ev iv bv e w) (h0 : e' = 0 → e = 0) (hk : Keep rb w w') (hb : WB rb fv tv lv nm ev iv bv e' w') : WS rb fv tv lv nm ex is es ev iv bv e' w' := by
 have st : ∀ k, Frw rb ev iv bv w k → w'.heap[k]? = w.heap[k]? := fun k hk2 => hk.block k hk2.1 (fun e => hk2.2.1 (Option.some.inj e))
 have up : ∀ k, Frw rb ev iv bv w k → Frw rb ev iv bv w' k := fun k hk2 => ⟨Nat.lt_of_lt_of_le hk2.1 hk.size, hk2.2⟩
 have ow : ∀ k, rb < k → k < w.heap.size → w'.heap[k]? = w.heap[k]? := fun k h1 h2 => hk.block k h2 (fun e => by have := Option.some.inj e; omega)
 exact ⟨hb, own_keepL h.eo (fun q hq => ow q (h.own (Or.inl hq.symm)).1 (h.own (Or.inl hq.symm)).2), own_keepL h.io (fun q hq => ow q (h.own (Or.inr (Or.inl hq.symm))).1 (h.own (Or.inr (Or.inl hq.symm))).2), own_keepL h.bo (fun q hq => ow q (h.own (Or.inr (Or.inr hq.symm))).1 (h.own (Or.inr (Or.inr hq.symm))).2), fun he i hi => IE.stay (h.ik (h0 he) i hi) (fun k hk => st k hk.2) (fun k hk => ⟨hk.1, up k hk.2⟩), fun d hd => by
  obtain ⟨a1, a2, f, a3⟩ := h.bk d hd
  exact ⟨a1, a2, f, Dc.stay st up f _ _ a3⟩⟩
theorem St.keep {rb : Nat} {e : Int} {w w' : World} (h : St rb e w w') : Keep rb w w' := ⟨h.os, h.tape, h.output, h.size, fun k hk hr => h.far hk (fun e => hr (by rw [e]))⟩
theorem WS.st {rb : Nat} {fv tv lv : Value} {nm : ByteArray} {ex : List (ByteArray × ByteArray)} {is : List IE} {es : List (Dat × Option Addr × Nat)} {ev iv bv : Value} {e : Int} {e' : Int} {w w' : World} (h : WS rb fv tv lv nm ex is es ev iv bv e w) (h0 : e' = 0 → e = 0) (hs : St rb e' w w') : WS rb fv tv lv nm ex is es ev iv bv e' w' := h.keep h0 hs.keep (h.blk.st hs)
theorem WS.below {rb : Nat} {fv tv lv : Value} {nm : ByteArray} {ex : List (ByteArray × ByteArray)} {is : List IE} {es : List (Dat × Option Addr × Nat)} {ev iv bv : Value} {e : Int} {w w' : World} (h : WS rb fv tv lv nm ex is es ev iv bv e w) (hb : Below w.heap.size w w') : WS rb fv tv lv nm ex is es ev iv bv e w' := h.st id (St.of h.blk.e7 hb)
theorem own_wb {w : World} {B s n k rb : Nat} {t : TypeId} {v : Value} {xs : List Value} {cs : Array Value} (h : w.ownsRow B t s v n xs) (hp : w.heap[rb]? = some (.cells cs 61 (0, 0))) (ht : t ≠ 61) (hk : v.ownBlock = some k) : k ≠ rb := by
 rintro rfl
 obtain ⟨_, _, cs', h2⟩ := own_typeL h k hk
 rw [hp] at h2
 simp at h2
 exact ht h2.2.symm
theorem WS.fresh {rb : Nat} {fv tv lv : Value} {nm : ByteArray} {ex : List (ByteArray × ByteArray)} {is : List IE} {es : List (Dat × Option Addr × Nat)} {ev iv bv : Value} {e : Int} {w w' : World} (h : WS rb fv tv lv nm ex is es ev iv bv e w) {k : Nat} (h1 : w.heap.size ≤ k) (h2 : k < w'.heap.size) : Frw rb ev iv bv w' k :=
 ⟨h2, by have := h.lt; omega, fun e => by have := (h.own (Or.inl e)).2; omega, fun e => by have := (h.own (Or.inr (Or.inl e))).2; omega, fun e => by have := (h.own (Or.inr (Or.inr e))).2; omega⟩
theorem WS.far {rb : Nat} {fv tv lv : Value} {nm : ByteArray} {ex : List (ByteArray × ByteArray)} {is : List IE} {es : List (Dat × Option Addr × Nat)} {ev iv bv : Value} {e : Int} {w : World} (h : WS rb fv tv lv nm ex is es ev iv bv e w) {k : Nat} (hk : k < rb) : Frw rb ev iv bv w k :=
 ⟨by have := h.lt; omega, by omega, fun e => by have := (h.own (Or.inl e)).1; omega, fun e => by have := (h.own (Or.inr (Or.inl e))).1; omega, fun e => by have := (h.own (Or.inr (Or.inr e))).1; omega⟩
theorem WS.exps {rb : Nat} {fv tv lv : Value} {nm : ByteArray} {ex : List (ByteArray × ByteArray)} {is : List IE} {es : List (Dat × Option Addr × Nat)} {ev iv bv : Value} {e : Int} {new : List (ByteArray × ByteArray)} {v' : Value} {n : Nat} {w1 w2 : World} (h : WS rb fv tv lv nm ex is es ev iv bv e w1)
 (hown : w2.ownsRow (rb + 1) 70 2 v' n (flatE (ex ++ new))) (hlen : n = (ex ++ new).length) (hgrow : w1.grownBy w2 ev.ownBlock) (hat : v'.ownBlock = ev.ownBlock ∨ v'.ownBlock = some w1.heap.size) :
 WS rb fv tv lv nm (ex ++ new) is es v' iv bv e (w2.setCell ⟨rb, 4, none⟩ v') ∧ Below rb w1 (w2.setCell ⟨rb, 4, none⟩ v') := by
 subst hlen
 have hpl := h.lt
 have hpb2 : w2.heap[rb]? = some (.cells #[fv, tv, lv, .string nm, ev, iv, bv, .int .i64 e] 61 (0, 0)) := (hgrow.block rb hpl (fun e => own_wb h.eo h.blk (by decide) e.symm rfl)).trans h.blk
 have hblk : (w2.setCell ⟨rb, 4, none⟩ v').heap[rb]? = some (.cells #[fv, tv, lv, .string nm, v', iv, bv, .int .i64 e] 61 (0, 0)) := cell_setL hpb2 _
 have far : ∀ k, k < w1.heap.size → k ≠ rb → some k ≠ ev.ownBlock → (w2.setCell ⟨rb, 4, none⟩ v').heap[k]? = w1.heap[k]? := fun k h1 h2 h3 => (Below.heap_setCell _ _ _ _ (show k ≠ rb from h2)).trans (hgrow.block k h1 h3)
 have hgp : ∀ g, v'.ownBlock = some g → g ≠ rb := fun g hg => by
  rcases hat with e | e
  ·exact own_wb h.eo h.blk (by decide) (e.symm.trans hg)
  rw [e] at hg
  cases hg
  omega
 have hsz : (w2.setCell ⟨rb, 4, none⟩ v').heap.size = w2.heap.size := by simp
 have st : ∀ k, Frw rb ev iv bv w1 k → (w2.setCell ⟨rb, 4, none⟩ v').heap[k]? = w1.heap[k]? := fun k hk => far k hk.1 hk.2.1 hk.2.2.1
 have up : ∀ k, Frw rb ev iv bv w1 k → Frw rb v' iv bv (w2.setCell ⟨rb, 4, none⟩ v') k := fun k hk => by
  refine ⟨by rw [hsz]; exact Nat.lt_of_lt_of_le hk.1 hgrow.size, hk.2.1, fun e => ?_, hk.2.2.2.1, hk.2.2.2.2⟩
  rcases hat with e' | e'
  ·exact hk.2.2.1 (e.trans e')
  rw [e'] at e
  cases e
  have := hk.1
  omega
 exact ⟨⟨hblk, own_keepL hown (fun q hq => Below.heap_setCell _ _ _ _ (show q ≠ rb from hgp q hq)), own_keepL h.io (fun q hq => far q (own_typeL h.io q hq).2.1 (own_wb h.io h.blk (by decide) hq) (fun e => own_ne h.io h.eo (by decide) hq e.symm rfl)), own_keepL h.bo (fun q hq => far q (own_typeL h.bo q hq).2.1 (own_wb h.bo h.blk (by decide) hq) (fun e => own_ne h.bo h.eo (by decide) hq e.symm rfl)), fun he i hi => IE.stay (h.ik he i hi) (fun k hk => st k hk.2) (fun k hk => ⟨hk.1, up k hk.2⟩), fun d hd => by
  obtain ⟨a1, a2, f, a3⟩ := h.bk d hd
  exact ⟨a1, a2, f, Dc.stay st up f _ _ a3⟩⟩, (grown_below hgrow (Nat.le_of_lt hpl) (fun q hq => by have := (own_typeL h.eo q hq).1; omega)).setCell (p := ⟨rb, 4, none⟩) (Nat.le_refl _) _⟩
theorem WS.body {rb : Nat} {fv tv lv : Value} {nm : ByteArray} {ex : List (ByteArray × ByteArray)} {is : List IE} {es : List (Dat × Option Addr × Nat)} {ev iv bv : Value} {e : Int} {es' : List (Dat × Option Addr × Nat)} {v' : Value} {n : Nat} {w1 w2 : World} (h : WS rb fv tv lv nm ex is es ev iv bv e w1) (hb : Below w1.heap.size w1 w2) (hown : w2.ownsRow w1.heap.size 26 6 v' n (flat es')) (hlen : n = es'.length) (hn : ∀ d ∈ es', d.1.name.size ≤ maxLen ∧ d.1.kids.length ≤ d.2.2 ∧ ∃ f, Dc (Frx rb ev iv w1) w1 f d.2.1 d.1.kids) :
 WS rb fv tv lv nm ex is es' ev iv v' e (w2.setCell ⟨rb, 6, none⟩ v') ∧ Keep rb w1 (w2.setCell ⟨rb, 6, none⟩ v') := by
 subst hlen
 have hpl := h.lt
 have hk : Keep rb w1 (w2.setCell ⟨rb, 6, none⟩ v') := ((Keep.refl rb w1).below hb).setCell ⟨rb, 6, none⟩ rfl _
 have hblk : (w2.setCell ⟨rb, 6, none⟩ v').heap[rb]? = some (.cells #[fv, tv, lv, .string nm, ev, iv, v', .int .i64 e] 61 (0, 0)) := cell_setL ((hb.block rb hpl).trans h.blk) _
 have st : ∀ k, Frw rb ev iv bv w1 k → (w2.setCell ⟨rb, 6, none⟩ v').heap[k]? = w1.heap[k]? := fun k hk2 => hk.block k hk2.1 (fun e => hk2.2.1 (Option.some.inj e))
 have nv : ∀ k, k < w1.heap.size → some k ≠ v'.ownBlock := fun k hk2 e => by have := (own_typeL hown k e.symm).1; omega
 have up : ∀ k, Frw rb ev iv bv w1 k → Frw rb ev iv v' (w2.setCell ⟨rb, 6, none⟩ v') k := fun k hk2 => ⟨Nat.lt_of_lt_of_le hk2.1 hk.size, hk2.2.1, hk2.2.2.1, hk2.2.2.2.1, nv k hk2.1⟩
 have ow : ∀ k, rb < k → k < w1.heap.size → (w2.setCell ⟨rb, 6, none⟩ v').heap[k]? = w1.heap[k]? := fun k h1 h2 => hk.block k h2 (fun e => by have := Option.some.inj e; omega)
 refine ⟨⟨hblk, own_keepL h.eo (fun q hq => ow q (h.own (Or.inl hq.symm)).1 (h.own (Or.inl hq.symm)).2), own_keepL h.io (fun q hq => ow q (h.own (Or.inr (Or.inl hq.symm))).1 (h.own (Or.inr (Or.inl hq.symm))).2), own_keepL (own_base hown (by omega)) (fun q hq => Below.heap_setCell _ _ _ _ (show q ≠ rb by have := (own_typeL hown q hq).1; omega)), fun he i hi => IE.stay (h.ik he i hi) (fun k hk => st k hk.2) (fun k hk => ⟨hk.1, up k hk.2⟩), fun d hd => ?_⟩, hk⟩
 obtain ⟨a1, a2, f, a3⟩ := hn d hd
 exact ⟨a1, a2, f, Dc.stay (fun k hk2 => hk.block k hk2.1 (fun e => hk2.2.1 (Option.some.inj e))) (fun k hk2 => ⟨Nat.lt_of_lt_of_le hk2.1 hk.size, hk2.2.1, hk2.2.2.1, hk2.2.2.2, nv k hk2.1⟩) f _ _ a3⟩
theorem slice1 (b o kn cap : Nat) (h1 : 1 ≤ kn) (hc : kn ≤ cap) (w : World) : (Instr.slice 24 (.slice (some ⟨b, o, none⟩) kn cap) (some (.int .i64 1)) none none).run Tryz.prog w = .ok (.slice (if cap = 1 then some ⟨b, o, none⟩ else some ⟨b, o + 6, none⟩) (kn - 1) (cap - 1)) w := by
 have q1 : (1 : Int) ≤ (kn : Int) := by omega
 have q2 : (kn : Int) ≤ (cap : Int) := by omega
 simp [Instr.slice, run_underlying Tryz.underlying24, go_sem, h1, hc, q1, q2]
theorem _root_.Go.Proofs.YtonafbennobgdaaGreatDoor.DAt.st {rb : Nat} {e : Int} {w W : World} {b o : Nat} {d : Dat} {a : Option Addr} {c : Nat} (h : DAt (fun k => k < w.heap.size ∧ k ≠ rb) w b o d a c) (hs : St rb e w W) : DAt (fun k => k < W.heap.size ∧ k ≠ rb) W b o d a c := by
 have hc : ∀ i, W.cell? ⟨b, i, none⟩ = w.cell? ⟨b, i, none⟩ := fun i => World.cell?_of_block (a := ⟨b, i, none⟩) (hs.far h.hb.1 h.hb.2)
 exact ⟨⟨Nat.lt_of_lt_of_le h.hb.1 hs.size, h.hb.2⟩, (hc _).trans h.c0, (hc _).trans h.c1, (hc _).trans h.c2, (hc _).trans h.c3, (hc _).trans h.c4, (hc _).trans h.c5, h.ln, h.lk⟩
theorem needD_cons (d : Dat) : ∃ x r, needD d 1 = x :: r := by
 unfold needD
 split
 ·rename_i h
  match d.kids, h with
  | [], h => exact absurd h.2 (by decide)
  | x :: r, _ => exact ⟨x, r, rfl⟩
 exact ⟨_, _, rfl⟩
theorem holds_bad {E : Env} {d x : Dat} {r : List Dat} (h3 : ¬ d.kind = 3) (hds : needD d 1 = x :: r) (he : fst1 (needE d 1) (wdE x) ≠ 0) : holdsD E d = .no 2 ∧ fst1 (needE d 1) (wdE x) = 2 := by
 by_cases hk : d.kind = 4 ∧ 1 ≤ d.kids.length
 ·have hn : d.kids = x :: r := by rw [← hds]; exact (if_pos hk).symm
  rw [show needE d 1 = 0 from if_pos hk, fst1_zero] at he ⊢
  unfold wdE at he ⊢
  by_cases hx : x.kind = 3
  ·rw [if_pos hx] at he; exact absurd rfl he
  rw [if_neg hx]
  cases d
  simp only at hn hk h3
  subst hn
  unfold holdsD
  rw [if_neg h3, if_pos hk.1, holdsK, if_neg hx]
  exact ⟨rfl, rfl⟩
 have he2 : needE d 1 = 2 := if_neg hk
 rw [he2, fst1_no (by decide)]
 refine ⟨?_, rfl⟩
 cases d
 simp only at hk h3
 unfold holdsD
 rw [if_neg h3]
 split
 ·rename_i ks h4
  match ks, hk with
  | [], _ => rw [holdsK]
  | y :: s, hk => exact absurd ⟨h4, by simp⟩ hk
 rfl
theorem holds_good {E : Env} {d x : Dat} {r : List Dat} (h3 : ¬ d.kind = 3) (hds : needD d 1 = x :: r) (he : fst1 (needE d 1) (wdE x) = 0) : d.kids = x :: r ∧ x.kind = 3 ∧ wdS x = x.name ∧ holdsD E d = (if x.name = bLibrary then (oneF r).bind fun x => (calledF x).bind fun n => .ok (hasB n E.libs) else if x.name = bNot then holdsN E r else if x.name = bAnd then holdsX E true r else if x.name = bOr then holdsX E false r else .no 2) := by
 obtain ⟨h1, h2⟩ := fst1_eq0 he
 have hk : d.kind = 4 ∧ 1 ≤ d.kids.length := by
  unfold needE at h1
  split at h1
  ·assumption
  exact absurd h1 (by decide)
 have hx : x.kind = 3 := by
  unfold wdE at h2
  split at h2
  ·assumption
  exact absurd h2 (by decide)
 have hn : d.kids = x :: r := by rw [← hds]; exact (if_pos hk).symm
 refine ⟨hn, hx, if_pos hx, ?_⟩
 cases d
 simp only at hn hk h3
 subst hn
 unfold holdsD
 rw [if_neg h3, if_pos hk.1, holdsK, if_pos hx]
 rfl
set_option maxRecDepth 100000 in
set_option maxHeartbeats 12800000 in
theorem holds_over (rb f : Nat) (tv lv : Value) (E : Env) (d : Dat) (a : Option Addr) (cap : Nat) (w : World) (h : E7 rb 0 w) (hd : DW rb w f a d.kids) (hc : d.kids.length ≤ cap) (ho : okD d) (hE : EN rb tv lv E w)
 (HH0 : ∀ x ∈ d.kids, okD x → ∀ g xa xc W, E7 rb 0 W → DW rb W g xa x.kids → x.kids.length ≤ xc → EN rb tv lv E W → Calls Tryz.prog 63 #[.pointer (some ⟨rb, 0, none⟩), dv x xa xc] W (TellH rb (holdsD E x) W)) :
 Calls Tryz.prog 63 #[.pointer (some ⟨rb, 0, none⟩), dv d a cap] w (TellH rb (holdsD E d) w) := by
 have hb0 : Below w.heap.size w (w.alloc (.cells #[.int .i64 d.kind, .int .i64 d.n, .string d.name, .int .i64 d.stamp, .int .i64 d.lib, .slice a d.kids.length cap] 26)) := (Below.refl _ _).alloc (Nat.le_refl _) _
 obtain ⟨W0, hW0⟩ : ∃ W0, w.alloc (.cells #[.int .i64 d.kind, .int .i64 d.n, .string d.name, .int .i64 d.stamp, .int .i64 d.lib, .slice a d.kids.length cap] 26) = W0 := ⟨_, rfl⟩
 have g2 : W0.heap[w.heap.size]? = some (.cells #[.int .i64 d.kind, .int .i64 d.n, .string d.name, .int .i64 d.stamp, .int .i64 d.lib, .slice a d.kids.length cap] 26 (0, 0)) := by rw [← hW0]; exact World.alloc_heap_new w _
 rw [hW0] at hb0
 obtain ⟨y0, y1, y2, y3, y4, y5⟩ := six_at g2
 have E0 := hidd (h.below hb0)
 have D0 : Hid (DW rb W0 f a d.kids) := DW.below (rb := rb) hd hb0
 have S0 : Hid (St rb 0 w W0) := St.of h hb0
 have N0 := hidd (hE.st S0.out)
 have HI := hidd hc
 have HO := hidd ho
 have NE := hidd (need_any rb f 0 d a cap W0 1 E0.out (Or.inl rfl) D0.out hc)
 have HH := hidd HH0
 clear h hd hE hb0 ho HH0 hc
 by_cases hk3 : d.kind = 3
 ·have k1 : (d.kind == 3) = true := by simpa using hk3
  have k2 : decide (d.kind = 3) = true := by simpa using hk3
  have HQ : Hid (holdsD E d = .ok (hasB d.name E.features)) := by
   show _ = _
   cases d
   unfold holdsD
   exact if_pos hk3
  have IN : Hid (∀ W, Below W0.heap.size W0 W → Calls Tryz.prog 86 #[tv, .string d.name] W fun e w' => e = .returned (.bool (hasB d.name E.features)) ∧ w' = W) := fun W hb => in86 (fun k => k < rb) _ _ _ W (N0.out.st (St.of E0.out hb)).fs N0.out.n1
  have c1 := N0.out.c1
  unfold dv
  generalize d.kids.length = kn at *
  clear hk3
  go_enter Tryz.func63, Tryz.ntmps63
  go_upto_region 3 with fail
  clear hW0
  have HBW : Hid (∀ k, Below W0.heap.size W0 (W0.drewN k)) := fun k => below_drewN (Below.refl _ _) k
  go_quiet ((go_at_call 86; exact Calls.quiet_of_same (IN.out _ (HBW.out _))))
  go_wp2_with fail
  go_ret
  rw [HQ.out]
  exact ⟨_, rfl, S0.out.and (HBW.out _), fun c hc => by cases hc; rfl⟩
 have k1 : (d.kind == 3) = false := by simpa using hk3
 have k2 : decide (d.kind = 3) = false := by simpa using hk3
 have HK3 := hidd hk3
 unfold dv at NE ⊢
 obtain ⟨ds, hds⟩ : ∃ ds, ds = needD d 1 := ⟨_, rfl⟩
 rw [← hds] at NE
 have HDS := hidd hds
 have HOK := needD_ok HO.out 1 (Or.inl rfl)
 rw [← hds] at HOK
 generalize d.kids.length = kn at *
 clear hk3 hds
 go_enter Tryz.func63, Tryz.ntmps63
 go_wp2_with fail
 refine NE.out.mono ?_
 rintro en w1 ⟨a1, c1', f1, rfl, hc1, hd1, hs1⟩
 rw [fst1_zero] at hs1
 obtain ⟨x, r, hxr⟩ := needD_cons d
 rw [← HDS.out] at hxr
 subst hxr
 obtain ⟨_, b, o, xa, xc, _, rfl, hA, _⟩ := hd1.at (i := 0) (d := x) rfl
 rw [Nat.zero_mul, Nat.add_zero] at hA
 obtain ⟨_, c0, c1, c2, c3, c4, c5, _, _⟩ := hA
 have HD1 := hidd hd1
 have H1 := hidd hs1
 have E1 := hidd (E0.out.st hs1)
 have WD := hidd (word_any rb _ x xa xc w1 E1.out)
 have HC1 := hidd hc1
 have HLN : Hid ((x :: r).length = r.length + 1) := List.length_cons
 have i1 : (0 : Int) < ((x :: r).length : Int) := by rw [HLN.out]; omega
 unfold dv at WD
 clear hd1 hs1 hc1 NE y0 y1 y2 y3 y4 y5 hW0
 go_wp2_with fail
 refine WD.out.mono ?_
 rintro en w2 ⟨rfl, hs2⟩
 have H12 := hidd hs2
 have H2 := hidd (H1.out.trans hs2)
 have E2 := hidd (E1.out.st hs2)
 obtain ⟨nm, hnm⟩ : ∃ nm, nm = wdS x := ⟨_, rfl⟩
 have HNM := hidd hnm
 rw [← hnm]
 obtain ⟨q, hq⟩ : ∃ q, q = fst1 (needE d 1) (wdE x) := ⟨_, rfl⟩
 rw [← hq] at H2 E2
 have HQQ := hidd hq
 clear hs2 WD hnm hq c0 c1 c2 c3 c4 c5
 by_cases hq0 : q = 0
 rotate_left
 ·have GD := hidd (good1 rb q w2 E2.out hq0)
  have HB := holds_bad (E := E) HK3.out HDS.out.symm (by rw [← HQQ.out]; exact hq0)
  have HBB := hidd HB
  clear hq0 HB
  go_wp2_with fail
  refine GD.out.mono ?_
  rintro en wm ⟨rfl, hwm⟩
  rw [hwm]
  clear hwm
  go_wp2_with fail
  go_ret
  rw [HBB.out.1]
  refine ⟨_, rfl, ?_, fun c hc => by cases hc⟩
  have h2 := S0.out.trans H2.out
  rw [HQQ.out, HBB.out.2] at h2
  exact h2
 subst hq0
 have GD := hidd (good0 rb w2 E2.out)
 obtain ⟨hkids, hx3, hwx, hval⟩ := holds_good (E := E) HK3.out HDS.out.symm HQQ.out.symm
 have HV := hidd hval
 have HKI := hidd hkids
 have HXN : Hid (nm = x.name) := HNM.out.trans hwx
 have N2 : Hid (EN rb tv lv E w2) := N0.out.st H2.out
 have D2 : Hid (DW rb w2 f1 (some ⟨b, o, none⟩) (x :: r)) := HD1.out.st H12.out
 clear hkids hx3 hwx hval
 have HSL := slice1 b o (x :: r).length c1' (by rw [HLN.out]; omega) HC1.out
 rw [HLN.out, Nat.add_sub_cancel] at HSL
 go_wp2_with fail
 refine GD.out.mono ?_
 rintro en wm ⟨rfl, hwm⟩
 rw [hwm]
 clear hwm GD
 go_upto_region 8 with fail
 obtain ⟨ra, hra, HR2⟩ : ∃ ra, (if c1' = 1 then some (⟨b, o, none⟩ : Addr) else some ⟨b, o + 6, none⟩) = ra ∧ Hid (∀ W e, St rb e w2 W → DW rb W f1 ra r) := by
  refine ⟨_, rfl, fun W e hs => ?_⟩
  have h := D2.out.st hs
  by_cases hc2 : c1' = 1
  ·rw [if_pos hc2]
   have := HC1.out
   have h0 := HLN.out
   exact h.tail.nilAt (List.eq_nil_of_length_eq_zero (by omega)) _
  rw [if_neg hc2]; exact h.tail
 rw [hra] at HSL
 clear hra
 have hr2 : r.length ≤ 2000 := by have := HOK.2; have := HLN.out; omega
 have HOR : Hid (okL r) := HOK.1.2
 have HS2 : Hid (St rb 0 w w2) := S0.out.trans H2.out
 clear HOK i1
 by_cases hnand : nm = bAnd
 ·have hn := hnand
  clear hnand
  have ke : (nm.toList == bAnd.toList) = true := by rw [hn]; simp
  unfold bAnd at ke
  have mand : (nm.toList == [97, 110, 100]) = true := by simpa using ke
  clear ke
  have ke : (nm.toList == bOr.toList) = false := beqS_ne (by rw [hn]; decide)
  unfold bOr at ke
  have mor : (nm.toList == [111, 114]) = false := by simpa using ke
  clear ke
  have ke : (nm.toList == bNot.toList) = false := beqS_ne (by rw [hn]; decide)
  unfold bNot at ke
  have mnot : (nm.toList == [110, 111, 116]) = false := by simpa using ke
  clear ke
  have ke : (nm.toList == bLibrary.toList) = false := beqS_ne (by rw [hn]; decide)
  unfold bLibrary at ke
  have mlib : (nm.toList == [108, 105, 98, 114, 97, 114, 121]) = false := by simpa using ke
  clear ke
  have HVV : Hid (holdsD E d = holdsX E true r) := by show _ = _; rw [HV.out, ← HXN.out, hn, if_neg (by decide), if_neg (by decide), if_pos rfl]
  clear hn
  have HLr : Hid (∀ j, j < r.length → ∃ z, r[j]? = some z ∧ r.drop j = z :: r.drop (j + 1)) := fun j hj => ⟨_, List.getElem?_eq_getElem hj, List.drop_eq_getElem_cons hj⟩
  go_wp2_with fail
  go_loopw [9, 10, 42] (fun _ _ ix wr => ∃ (j : Nat), j ≤ r.length ∧ ix = .int .i64 j ∧ Hid (St rb 0 w2 wr ∧ holdsX E true r = holdsX E true (r.drop j))) (fun _ _ ix _ => r.length - (intOf ix).toNat)
  case atStart => exact ⟨0, Nat.zero_le _, rfl, St.refl E2.out, by rw [List.drop_zero]⟩
  obtain ⟨j, hj, rfl, HR⟩ := hrel
  by_cases hlt : j < r.length
  rotate_left
  ·obtain rfl : j = r.length := by omega
   have HEN : Hid (holdsX E true r = .ok true) := by
    show _ = _
    rw [HR.out.2, List.drop_length, holdsX_nil]
   have HRR := hidd (HS2.out.trans HR.out.1)
   go_wp2_with fail
   go_ret
   rw [HVV.out, HEN.out]
   exact ⟨_, rfl, HRR.out, fun c hc => by cases hc; rfl⟩
  obtain ⟨z, hz, hdk⟩ := HLr.out j hlt
  obtain ⟨gz, b', o', za, zc, _, rfl, hA', hzk⟩ := (HR2.out wr _ HR.out.1).at hz
  obtain ⟨_, z0, z1, z2, z3, z4, z5, _, hzl⟩ := hA'
  have j1 : (0 : Int) ≤ (j : Int) := by omega
  have j2 : (j : Int) < (r.length : Int) := by omega
  have hbz : Below wr.heap.size wr (wr.alloc (.cells #[.int .i64 z.kind, .int .i64 z.n, .string z.name, .int .i64 z.stamp, .int .i64 z.lib, .slice za z.kids.length zc] 26)) := (Below.refl _ _).alloc (Nat.le_refl _) _
  obtain ⟨W1, hW1⟩ : ∃ W1, wr.alloc (.cells #[.int .i64 z.kind, .int .i64 z.n, .string z.name, .int .i64 z.stamp, .int .i64 z.lib, .slice za z.kids.length zc] 26) = W1 := ⟨_, rfl⟩
  have hzb : W1.heap[wr.heap.size]? = some (.cells #[.int .i64 z.kind, .int .i64 z.n, .string z.name, .int .i64 z.stamp, .int .i64 z.lib, .slice za z.kids.length zc] 26 (0, 0)) := by rw [← hW1]; exact World.alloc_heap_new wr _
  rw [hW1] at hbz
  have HSW : Hid (St rb 0 w2 W1) := HR.out.1.and hbz
  have hzm := List.mem_of_getElem? hz
  have CALL := hidd (HH.out z (by rw [HKI.out]; exact List.mem_cons_of_mem _ hzm) (okL_mem HOR.out z hzm) gz za zc W1 (E2.out.st HSW.out) (DW.below (rb := rb) hzk hbz) hzl (N2.out.st HSW.out))
  have HST0 : holdsX E true r = (holdsD E z).bind fun b => if b = true then holdsX E true (r.drop (j + 1)) else .ok b := by rw [HR.out.2, hdk, holdsX_cons]
  have HST := hidd HST0
  have HNZ := hidd (nz_holdsD E z)
  clear HST0 hzk hz hdk hzl hbz hzm
  unfold dv at CALL
  generalize z.kids.length = zn at *
  obtain ⟨y0, y1, y2, y3, y4, y5⟩ := six_at hzb
  go_wp2_with fail
  refine CALL.out.mono ?_
  rintro en w4 ⟨hb, rfl, hs4, hok4⟩
  clear CALL hW1 hzb z0 z1 z2 z3 z4 z5 y0 y1 y2 y3 y4 y5
  obtain ⟨e3, he3⟩ : ∃ e3, e3 = erE (holdsD E z) := ⟨_, rfl⟩
  rw [← he3] at hs4
  have H4 : Hid (St rb e3 w2 w4 ∧ St rb e3 w w4) := ⟨HSW.out.trans hs4, HS2.out.trans (HSW.out.trans hs4)⟩
  have E4 := hidd (E2.out.st H4.out.1)
  clear hs4
  by_cases h30 : e3 = 0
  ·subst h30
   have GD := hidd (good0 rb w4 E4.out)
   obtain ⟨c, hc⟩ : ∃ c, holdsD E z = .ok c := by
    cases hq : holdsD E z with
    | ok c => exact ⟨c, rfl⟩
    | no e => rw [hq] at he3; exact absurd he3.symm (HNZ.out e hq)
   have hbc := hok4 c hc
   have HSC := HST.out
   rw [hc, ← hbc] at HSC
   have HS3 := hidd HSC
   clear HSC hok4 hbc hc he3
   cases hb
   ·go_wp2_with fail
    refine GD.out.mono ?_
    rintro en wm ⟨rfl, hwm⟩
    rw [hwm]
    clear hwm GD
    go_wp2_with fail
    go_ret
    rw [HVV.out, HS3.out]
    exact ⟨_, rfl, H4.out.2, fun c hc => by cases hc; rfl⟩
   go_wp2_with fail
   refine GD.out.mono ?_
   rintro en wm ⟨rfl, hwm⟩
   rw [hwm]
   clear hwm GD
   go_wp2_with fail
   go_roundw
   case rel => exact ⟨j + 1, hlt, by go_num, H4.out.1, HS3.out⟩
   case measure => simp [intOf]; omega
  have GD := hidd (good1 rb e3 w4 E4.out h30)
  obtain ⟨y, hy⟩ : ∃ y, holdsD E z = .no y := by
   cases hq : holdsD E z with
   | ok c => rw [hq] at he3; exact absurd he3 h30
   | no e => exact ⟨e, rfl⟩
  have HSC := HST.out
  rw [hy] at HSC
  have HS3 : Hid (holdsX E true r = .no y ∧ e3 = y) := ⟨HSC, by rw [he3, hy]; rfl⟩
  clear HSC hok4 hy he3 h30
  go_wp2_with fail
  refine GD.out.mono ?_
  rintro en wm ⟨rfl, hwm⟩
  rw [hwm]
  clear hwm GD
  go_wp2_with fail
  go_ret
  rw [HVV.out, HS3.out.1]
  refine ⟨_, rfl, ?_, fun c hc => by cases hc⟩
  have h2 := H4.out.2
  rw [HS3.out.2] at h2
  exact h2
 by_cases hnor : nm = bOr
 ·have hn := hnor
  clear hnand hnor
  have ke : (nm.toList == bAnd.toList) = false := beqS_ne (by rw [hn]; decide)
  unfold bAnd at ke
  have mand : (nm.toList == [97, 110, 100]) = false := by simpa using ke
  clear ke
  have ke : (nm.toList == bOr.toList) = true := by rw [hn]; simp
  unfold bOr at ke
  have mor : (nm.toList == [111, 114]) = true := by simpa using ke
  clear ke
  have ke : (nm.toList == bNot.toList) = false := beqS_ne (by rw [hn]; decide)
  unfold bNot at ke
  have mnot : (nm.toList == [110, 111, 116]) = false := by simpa using ke
  clear ke
  have ke : (nm.toList == bLibrary.toList) = false := beqS_ne (by rw [hn]; decide)
  unfold bLibrary at ke
  have mlib : (nm.toList == [108, 105, 98, 114, 97, 114, 121]) = false := by simpa using ke
  clear ke
  have HVV : Hid (holdsD E d = holdsX E false r) := by show _ = _; rw [HV.out, ← HXN.out, hn, if_neg (by decide), if_neg (by decide), if_neg (by decide), if_pos rfl]
  clear hn
  have HLr : Hid (∀ j, j < r.length → ∃ z, r[j]? = some z ∧ r.drop j = z :: r.drop (j + 1)) := fun j hj => ⟨_, List.getElem?_eq_getElem hj, List.drop_eq_getElem_cons hj⟩
  go_wp2_with fail
  go_loopw [9, 10, 42] (fun _ _ ix wr => ∃ (j : Nat), j ≤ r.length ∧ ix = .int .i64 j ∧ Hid (St rb 0 w2 wr ∧ holdsX E false r = holdsX E false (r.drop j))) (fun _ _ ix _ => r.length - (intOf ix).toNat)
  case atStart => exact ⟨0, Nat.zero_le _, rfl, St.refl E2.out, by rw [List.drop_zero]⟩
  obtain ⟨j, hj, rfl, HR⟩ := hrel
  by_cases hlt : j < r.length
  rotate_left
  ·obtain rfl : j = r.length := by omega
   have HEN : Hid (holdsX E false r = .ok false) := by
    show _ = _
    rw [HR.out.2, List.drop_length, holdsX_nil]
   have HRR := hidd (HS2.out.trans HR.out.1)
   go_wp2_with fail
   go_ret
   rw [HVV.out, HEN.out]
   exact ⟨_, rfl, HRR.out, fun c hc => by cases hc; rfl⟩
  obtain ⟨z, hz, hdk⟩ := HLr.out j hlt
  obtain ⟨gz, b', o', za, zc, _, rfl, hA', hzk⟩ := (HR2.out wr _ HR.out.1).at hz
  obtain ⟨_, z0, z1, z2, z3, z4, z5, _, hzl⟩ := hA'
  have j1 : (0 : Int) ≤ (j : Int) := by omega
  have j2 : (j : Int) < (r.length : Int) := by omega
  have hbz : Below wr.heap.size wr (wr.alloc (.cells #[.int .i64 z.kind, .int .i64 z.n, .string z.name, .int .i64 z.stamp, .int .i64 z.lib, .slice za z.kids.length zc] 26)) := (Below.refl _ _).alloc (Nat.le_refl _) _
  obtain ⟨W1, hW1⟩ : ∃ W1, wr.alloc (.cells #[.int .i64 z.kind, .int .i64 z.n, .string z.name, .int .i64 z.stamp, .int .i64 z.lib, .slice za z.kids.length zc] 26) = W1 := ⟨_, rfl⟩
  have hzb : W1.heap[wr.heap.size]? = some (.cells #[.int .i64 z.kind, .int .i64 z.n, .string z.name, .int .i64 z.stamp, .int .i64 z.lib, .slice za z.kids.length zc] 26 (0, 0)) := by rw [← hW1]; exact World.alloc_heap_new wr _
  rw [hW1] at hbz
  have HSW : Hid (St rb 0 w2 W1) := HR.out.1.and hbz
  have hzm := List.mem_of_getElem? hz
  have CALL := hidd (HH.out z (by rw [HKI.out]; exact List.mem_cons_of_mem _ hzm) (okL_mem HOR.out z hzm) gz za zc W1 (E2.out.st HSW.out) (DW.below (rb := rb) hzk hbz) hzl (N2.out.st HSW.out))
  have HST0 : holdsX E false r = (holdsD E z).bind fun b => if b = false then holdsX E false (r.drop (j + 1)) else .ok b := by rw [HR.out.2, hdk, holdsX_cons]
  have HST := hidd HST0
  have HNZ := hidd (nz_holdsD E z)
  clear HST0 hzk hz hdk hzl hbz hzm
  unfold dv at CALL
  generalize z.kids.length = zn at *
  obtain ⟨y0, y1, y2, y3, y4, y5⟩ := six_at hzb
  go_wp2_with fail
  refine CALL.out.mono ?_
  rintro en w4 ⟨hb, rfl, hs4, hok4⟩
  clear CALL hW1 hzb z0 z1 z2 z3 z4 z5 y0 y1 y2 y3 y4 y5
  obtain ⟨e3, he3⟩ : ∃ e3, e3 = erE (holdsD E z) := ⟨_, rfl⟩
  rw [← he3] at hs4
  have H4 : Hid (St rb e3 w2 w4 ∧ St rb e3 w w4) := ⟨HSW.out.trans hs4, HS2.out.trans (HSW.out.trans hs4)⟩
  have E4 := hidd (E2.out.st H4.out.1)
  clear hs4
  by_cases h30 : e3 = 0
  ·subst h30
   have GD := hidd (good0 rb w4 E4.out)
   obtain ⟨c, hc⟩ : ∃ c, holdsD E z = .ok c := by
    cases hq : holdsD E z with
    | ok c => exact ⟨c, rfl⟩
    | no e => rw [hq] at he3; exact absurd he3.symm (HNZ.out e hq)
   have hbc := hok4 c hc
   have HSC := HST.out
   rw [hc, ← hbc] at HSC
   have HS3 := hidd HSC
   clear HSC hok4 hbc hc he3
   cases hb
   ·go_wp2_with fail
    refine GD.out.mono ?_
    rintro en wm ⟨rfl, hwm⟩
    rw [hwm]
    clear hwm GD
    go_wp2_with fail
    go_roundw
    case rel => exact ⟨j + 1, hlt, by go_num, H4.out.1, HS3.out⟩
    case measure => simp [intOf]; omega
   go_wp2_with fail
   refine GD.out.mono ?_
   rintro en wm ⟨rfl, hwm⟩
   rw [hwm]
   clear hwm GD
   go_wp2_with fail
   go_ret
   rw [HVV.out, HS3.out]
   exact ⟨_, rfl, H4.out.2, fun c hc => by cases hc; rfl⟩
  have GD := hidd (good1 rb e3 w4 E4.out h30)
  obtain ⟨y, hy⟩ : ∃ y, holdsD E z = .no y := by
   cases hq : holdsD E z with
   | ok c => rw [hq] at he3; exact absurd he3 h30
   | no e => exact ⟨e, rfl⟩
  have HSC := HST.out
  rw [hy] at HSC
  have HS3 : Hid (holdsX E false r = .no y ∧ e3 = y) := ⟨HSC, by rw [he3, hy]; rfl⟩
  clear HSC hok4 hy he3 h30
  go_wp2_with fail
  refine GD.out.mono ?_
  rintro en wm ⟨rfl, hwm⟩
  rw [hwm]
  clear hwm GD
  go_wp2_with fail
  go_ret
  rw [HVV.out, HS3.out.1]
  refine ⟨_, rfl, ?_, fun c hc => by cases hc⟩
  have h2 := H4.out.2
  rw [HS3.out.2] at h2
  exact h2
 by_cases hnnot : nm = bNot
 ·have hn := hnnot
  clear hnand hnor hnnot
  have ke : (nm.toList == bAnd.toList) = false := beqS_ne (by rw [hn]; decide)
  unfold bAnd at ke
  have mand : (nm.toList == [97, 110, 100]) = false := by simpa using ke
  clear ke
  have ke : (nm.toList == bOr.toList) = false := beqS_ne (by rw [hn]; decide)
  unfold bOr at ke
  have mor : (nm.toList == [111, 114]) = false := by simpa using ke
  clear ke
  have ke : (nm.toList == bNot.toList) = true := by rw [hn]; simp
  unfold bNot at ke
  have mnot : (nm.toList == [110, 111, 116]) = true := by simpa using ke
  clear ke
  have ke : (nm.toList == bLibrary.toList) = false := beqS_ne (by rw [hn]; decide)
  unfold bLibrary at ke
  have mlib : (nm.toList == [108, 105, 98, 114, 97, 114, 121]) = false := by simpa using ke
  clear ke
  by_cases hr1 : r.length = 1
  ·obtain ⟨z, hz⟩ : ∃ z, r = [z] := List.length_eq_one_iff.1 hr1
   have hz1 : (x :: r)[1]? = some z := by rw [hz]; rfl
   obtain ⟨gz, _, _, za, zc, _, hbq, hA', hzk⟩ := D2.out.at (i := 1) (d := z) hz1
   cases hbq
   rw [Nat.one_mul] at hA'
   have hA' := hA'
   have ⟨_, z0, z1, z2, z3, z4, z5, _, hzl⟩ := hA'
   have n3 : (((r.length : Int) + 1) == 2) = true := by rw [hr1]; rfl
   have n4 : decide (((r.length : Int) + 1) = 2) = true := by rw [hr1]; rfl
   have i2 : (1 : Int) < ((r.length : Int) + 1) := by omega
   have hzm : z ∈ r := by rw [hz]; simp
   have CALL := hidd (HH.out z (by rw [HKI.out]; exact List.mem_cons_of_mem _ hzm) (okL_mem HOR.out z hzm) gz za zc w2 E2.out hzk hzl N2.out)
   have HVV : Hid (holdsD E d = (holdsD E z).bind fun b => .ok (!b)) := by
    show _ = _
    rw [HV.out, ← HXN.out, hn, if_neg (by decide), if_pos rfl, hz, holdsN]
   clear hn hr1 hz hz1 hzm hzk hzl
   unfold dv at CALL
   generalize z.kids.length = zn at *
   go_wp2_with fail
   refine CALL.out.mono ?_
   rintro en w4 ⟨hb, rfl, hs4, hok4⟩
   have H4 := hidd (And.intro (HS2.out.trans hs4) hok4)
   clear hs4 hok4 CALL
   go_wp2_with fail
   go_ret
   rw [HVV.out]
   refine ⟨_, rfl, by rw [erE_bind]; exact H4.out.1, fun c hc => ?_⟩
   cases hq : holdsD E z with
   | no y => rw [hq] at hc; cases hc
   | ok y => rw [hq] at hc; cases hc; rw [H4.out.2 y hq]
  have n3 : (((r.length : Int) + 1) == 2) = false := by simp; omega
  have n4 : decide (((r.length : Int) + 1) = 2) = false := decide_eq_false (by omega)
  have n5 : ¬ (((r.length : Int) + 1) = 2) := by omega
  have HVV : Hid (holdsD E d = .no 2) := by
   show _ = _
   rw [HV.out, ← HXN.out, hn, if_neg (by decide), if_pos rfl]
   match r, hr1 with
   | [], _ => rw [holdsN]
   | [y], h => exact absurd rfl h
   | y :: y2 :: s, _ => rw [holdsN]
  have SP := hidd (stop_any rb 0 2 w2 E2.out)
  clear hn
  go_wp2_with fail
  refine SP.out.mono ?_
  rintro en w4 ⟨rfl, hs4⟩
  have H4 := hidd (HS2.out.trans hs4)
  clear hs4 SP
  go_wp2_with fail
  go_ret
  rw [HVV.out]
  exact ⟨_, rfl, H4.out, fun c hc => by cases hc⟩
 by_cases hnlib : nm = bLibrary
 rotate_left
 ·have ke : (nm.toList == bAnd.toList) = false := beqS_ne hnand
  unfold bAnd at ke
  have mand : (nm.toList == [97, 110, 100]) = false := by simpa using ke
  clear ke
  have ke : (nm.toList == bOr.toList) = false := beqS_ne hnor
  unfold bOr at ke
  have mor : (nm.toList == [111, 114]) = false := by simpa using ke
  clear ke
  have ke : (nm.toList == bNot.toList) = false := beqS_ne hnnot
  unfold bNot at ke
  have mnot : (nm.toList == [110, 111, 116]) = false := by simpa using ke
  clear ke
  have ke : (nm.toList == bLibrary.toList) = false := beqS_ne hnlib
  unfold bLibrary at ke
  have mlib : (nm.toList == [108, 105, 98, 114, 97, 114, 121]) = false := by simpa using ke
  clear ke
  have HVV : Hid (holdsD E d = .no 2) := by
   show _ = _
   rw [HV.out, ← HXN.out, if_neg hnlib, if_neg hnnot, if_neg hnand, if_neg hnor]
  clear hnlib hnnot hnand hnor
  have SP := hidd (stop_any rb 0 2 w2 E2.out)
  go_wp2_with fail
  refine SP.out.mono ?_
  rintro en w4 ⟨rfl, hs4⟩
  have H4 := hidd (HS2.out.trans hs4)
  clear hs4 SP
  go_wp2_with fail
  go_ret
  rw [HVV.out]
  exact ⟨_, rfl, H4.out, fun c hc => by cases hc⟩
 have hn := hnlib
 clear hnand hnor hnnot hnlib
 have ke : (nm.toList == bAnd.toList) = false := beqS_ne (by rw [hn]; decide)
 unfold bAnd at ke
 have mand : (nm.toList == [97, 110, 100]) = false := by simpa using ke
 clear ke
 have ke : (nm.toList == bOr.toList) = false := beqS_ne (by rw [hn]; decide)
 unfold bOr at ke
 have mor : (nm.toList == [111, 114]) = false := by simpa using ke
 clear ke
 have ke : (nm.toList == bNot.toList) = false := beqS_ne (by rw [hn]; decide)
 unfold bNot at ke
 have mnot : (nm.toList == [110, 111, 116]) = false := by simpa using ke
 clear ke
 have ke : (nm.toList == bLibrary.toList) = true := by rw [hn]; simp
 unfold bLibrary at ke
 have mlib : (nm.toList == [108, 105, 98, 114, 97, 114, 121]) = true := by simpa using ke
 clear ke
 by_cases hr1 : r.length = 1
 rotate_left
 ·have n3 : (((r.length : Int) + 1) == 2) = false := by simp; omega
  have n4 : decide (((r.length : Int) + 1) = 2) = false := decide_eq_false (by omega)
  have n5 : ¬ (((r.length : Int) + 1) = 2) := by omega
  have HVV : Hid (holdsD E d = .no 2) := by
   show _ = _
   rw [HV.out, ← HXN.out, hn, if_pos rfl, oneF_len hr1]
   rfl
  have SP := hidd (stop_any rb 0 2 w2 E2.out)
  clear hn
  go_wp2_with fail
  refine SP.out.mono ?_
  rintro en w4 ⟨rfl, hs4⟩
  have H4 := hidd (HS2.out.trans hs4)
  clear hs4 SP
  go_wp2_with fail
  go_ret
  rw [HVV.out]
  exact ⟨_, rfl, H4.out, fun c hc => by cases hc⟩
 obtain ⟨z, hz⟩ : ∃ z, r = [z] := List.length_eq_one_iff.1 hr1
 have hz1 : (x :: r)[1]? = some z := by rw [hz]; rfl
 obtain ⟨gz, _, _, za, zc, _, hbq, hA', hzk⟩ := D2.out.at (i := 1) (d := z) hz1
 cases hbq
 rw [Nat.one_mul] at hA'
 have hA' := hA'
 have ⟨_, z0, z1, z2, z3, z4, z5, _, hzl⟩ := hA'
 have n3 : (((r.length : Int) + 1) == 2) = true := by rw [hr1]; rfl
 have n4 : decide (((r.length : Int) + 1) = 2) = true := by rw [hr1]; rfl
 have i2 : (1 : Int) < ((r.length : Int) + 1) := by omega
 have hzm : z ∈ r := by rw [hz]; simp
 have HVV : Hid (holdsD E d = (calledF z).bind fun n => .ok (hasB n E.libs)) := by
  show _ = _
  rw [HV.out, ← HXN.out, hn, if_pos rfl, hz]
  rfl
 have HOZ : Hid (okD z) := okL_mem HOR.out z hzm
 have HNM : Hid (∀ W e, St rb e w2 W → Calls Tryz.prog 34 #[.pointer (some ⟨rb, 0, none⟩), dv z za zc] W fun en w' => ∃ s, en = .returned (.string s) ∧ St rb (fst1 e (erE (calledF z))) W w' ∧ ∀ n, calledF z = .ok n → s = n) := fun W e hs => Name_any rb gz e z za zc W (E2.out.st hs) (DW.st (rb := rb) hzk hs) hzl HOZ.out
 have HIN : Hid (∀ W e s, St rb e w2 W → Calls Tryz.prog 86 #[lv, .string s] W fun e w' => e = .returned (.bool (hasB s E.libs)) ∧ w' = W) := fun W e s hs => in86 (fun k => k < rb) _ _ _ W (N2.out.st hs).ls N2.out.n2
 have HZ : Hid (∀ W e, St rb e w2 W → W.cell? ⟨rb, 2, none⟩ = some lv ∧ DAt (fun k => k < W.heap.size ∧ k ≠ rb) W b (o + 6) z za zc) := fun W e hs => ⟨(N2.out.st hs).c2, hA'.st hs⟩
 clear hn hr1 hz hz1 hzm hzk hzl z0 z1 z2 z3 z4 z5
 unfold dv at HNM
 go_upto_region 22 with fail
 refine wp_region_held_drew (S := (fun u => ∃ e, St rb e w2 u)) (by kernel_rfl) ⟨0, St.of E2.out (Below.refl _ _).drew⟩ (fun hS => ?_)
 refine tk 0 (.func (.func 86) #[] #[]) rfl (Or.inl ⟨by rfl, fun u hu => by go_simp⟩) hS ?_
 simp only [Act.put, aP]
 refine tk 1 (.pointer (some ⟨rb, 0, none⟩)) rfl (Or.inl ⟨by rfl, fun u hu => by go_simp⟩) hS ?_
 simp only [Act.put, aP]
 refine tk 2 (.pointer (some ⟨rb, 0, none⟩)) rfl (Or.inl ⟨by rfl, fun u hu => by go_simp⟩) hS ?_
 simp only [Act.put, aP]
 refine tk 3 (.pointer (some ⟨rb, 2, none⟩)) rfl (Or.inl ⟨by rfl, fun u hu => by go_simp⟩) hS ?_
 simp only [Act.put, aP]
 refine tk 4 (lv) rfl (Or.inl ⟨by rfl, fun u hu => by (obtain ⟨e, he⟩ := hu; have q := (HZ.out u e he).1; go_simp)⟩) hS ?_
 simp only [Act.put, aP]
 refine tk 5 (.pointer (some ⟨rb, 0, none⟩)) rfl (Or.inl ⟨by rfl, fun u hu => by go_simp⟩) hS ?_
 simp only [Act.put, aP]
 refine tk 6 (.slice (some ⟨b, o, none⟩) (r.length + 1) c1') rfl (Or.inl ⟨by rfl, fun u hu => by go_simp⟩) hS ?_
 simp only [Act.put, aP]
 refine tk 7 (.pointer (some ⟨b, o + 6, none⟩)) rfl (Or.inl ⟨by rfl, fun u hu => by go_simp⟩) hS ?_
 simp only [Act.put, aP]
 refine tk 8 (.agg #[.int .i64 z.kind, .int .i64 z.n, .string z.name, .int .i64 z.stamp, .int .i64 z.lib, .slice za z.kids.length zc]) rfl (Or.inl ⟨by rfl, fun u hu => by (obtain ⟨e, he⟩ := hu; obtain ⟨_, q0, q1, q2, q3, q4, q5, _, _⟩ := (HZ.out u e he).2; go_simp)⟩) hS ?_
 simp only [Act.put, aP]
 refine rdy [9] (.cons rfl (fun K hK => ?_) .nil)
 go_simp
 refine (HNM.out w2.drew 0 (St.of E2.out (Below.refl _ _).drew)).mono ?_
 rintro en w4 ⟨s, rfl, hs4, hok4⟩
 have H4 := hidd (And.intro ((St.of E2.out (Below.refl _ _).drew).trans hs4) hok4)
 clear hs4 hok4
 rw [fst1_zero] at H4
 refine hK.out _ _ ⟨_, H4.out.1⟩ (fun hS => ?_)
 clear hK K
 refine rdy [10] (.cons rfl (fun K hK => ?_) .nil)
 go_simp
 refine (HIN.out w4 _ s H4.out.1).mono ?_
 rintro en wm ⟨rfl, hwm⟩
 rw [hwm]
 clear hwm
 refine hK.out _ _ ⟨_, H4.out.1⟩ (fun hS => ?_)
 clear hK K
 refine tko 11 { dst := some 4, op := Op.assign (Operand.tmp 93), type := 4, pos := _, after := _, guard := none } (.bool (hasB s E.libs)) rfl (Or.inl ⟨by rfl, fun u hu => by go_simp⟩) hS ?_
 simp only [Act.put, aP]
 refine wpAnyH_done (by kernel_rfl) ?_ _
 go_wp2_with fail
 go_ret
 rw [HVV.out]
 refine ⟨hasB s E.libs, rfl, by rw [erE_bind]; exact HS2.out.trans H4.out.1, fun c hc => ?_⟩
 cases hq : calledF z with
 | no y => rw [hq] at hc; cases hc
 | ok y => rw [hq] at hc; cases hc; rw [H4.out.2 y hq]
theorem Holds_any (rb : Nat) (tv lv : Value) (E : Env) : ∀ (N : Nat) (d : Dat), SizeOf.sizeOf d < N → okD d → ∀ (f : Nat) (a : Option Addr) (cap : Nat) (w : World), E7 rb 0 w → DW rb w f a d.kids → d.kids.length ≤ cap → EN rb tv lv E w →
 Calls Tryz.prog 63 #[.pointer (some ⟨rb, 0, none⟩), dv d a cap] w (TellH rb (holdsD E d) w)
 | 0, d, hN, _, _, _, _, _, _, _, _, _ => absurd hN (Nat.not_lt_zero _)
 | N + 1, d, hN, ho, f, a, cap, w, h, hd, hc, hE => holds_over rb f tv lv E d a cap w h hd hc ho hE fun x hx hox g xa xc W h1 h2 h3 h4 => Holds_any rb tv lv E N x (by
  have h5 := List.sizeOf_lt_of_mem hx
  have h6 : SizeOf.sizeOf d.kids < SizeOf.sizeOf d := by cases d; simp; omega
  omega) hox g xa xc W h1 h2 h3 h4
end Go.Proofs.YtonafbennobgdaaGreatDoor.R3
