/- The document's walk over declarations: more of the body. -/
import Derived.Deep.RegionHeld
import Derived.Test.YtonafbennobgdaaGreatDoorK02
import Derived.Test.YtonafbennobgdaaGreatDoorK15
import Derived.Test.YtonafbennobgdaaGreatDoorK30
import Derived.Test.YtonafbennobgdaaGreatDoorK39
import Derived.Test.YtonafbennobgdaaGreatDoorK40
import Derived.Test.YtonafbennobgdaaGreatDoorK44
namespace Go.Proofs.YtonafbennobgdaaGreatDoor.R3
set_option linter.unusedVariables false
set_option linter.unusedSimpArgs false
open Go.RowKit
theorem WS.row {rb : Nat} {fv tv lv : Value} {nm : ByteArray} {ex : List (ByteArray × ByteArray)} {is : List IE} {es : List (Dat × Option Addr × Nat)} {ev iv bv : Value} {e : Int} {w : World} (h : WS rb fv tv lv nm ex is es ev iv bv e w) (hes : es.length ≤ 200) : ∃ a cap F, bv = .slice a es.length cap ∧ Dc (Frx rb ev iv w) w F a (es.map (·.1)) := by
 have hr : RowD (rb + 1) bv es w := ⟨h.bo, fun d hd => by
  obtain ⟨h1, h2, f, h3⟩ := h.bk d hd
  exact ⟨h1, h2, f, Dc.stay (fun _ _ => rfl) (fun k hk => ⟨hk.1, hk.2.2.2.2⟩) _ _ _ h3⟩⟩
 have k1 : ∀ g, bv.ownBlock = some g → Frx rb ev iv w g := fun g hg => ⟨(own_typeL h.bo g hg).2.1, own_wb h.bo h.blk (by decide) hg, fun e => own_ne h.bo h.eo (by decide) hg e.symm rfl, fun e => own_ne h.bo h.io (by decide) hg e.symm rfl⟩
 have k2 : ∀ d ∈ es, ∃ f, Dc (Frx rb ev iv w) w f d.2.1 d.1.kids := fun d hd => by
  obtain ⟨_, _, f, h3⟩ := h.bk d hd
  exact ⟨f, Dc.stay (fun _ _ => rfl) (fun k hk => ⟨hk.1, hk.2.1, hk.2.2.1, hk.2.2.2.1⟩) _ _ _ h3⟩
 obtain ⟨a, cap, F, h1, h2, h3⟩ := hr.lieG (by omega) (Frx rb ev iv w) k1 k2
 rw [List.length_map] at h1
 exact ⟨a, cap, F, h1, h3⟩
theorem body_mid {rb : Nat} {fv tv lv : Value} {nm : ByteArray} {ex : List (ByteArray × ByteArray)} {is : List IE} {es fs : List (Dat × Option Addr × Nat)} {ev iv bv v1 : Value} {e : Int} {w w2 : World} {f : Nat} {a : Option Addr} {l : List Dat} (h : WS rb fv tv lv nm ex is es ev iv bv e w) (hd : Dc (Frx rb ev iv w) w f a l) (e1 : fs.map (·.1) = es.map (·.1)) (hr : RowE (Frx rb ev iv w) w.heap.size v1 fs w2) (hb : Below w.heap.size (w.alloc (.cells #[] 26)) w2) :
 RowE (Frx rb ev iv w) w.heap.size v1 fs w2 ∧ Dc (fun b => Frx rb ev iv w b ∧ b < w2.heap.size ∧ some b ≠ v1.ownBlock) w2 f a l ∧ w.heap.size ≤ w2.heap.size ∧ Below w.heap.size w w2 ∧ fs.map (·.1) = es.map (·.1) := by
 have hb' : Below w.heap.size w w2 := ((Below.refl _ _).alloc (Nat.le_refl _) _).trans hb
 refine ⟨hr, Dc.stay (fun k hk => hb'.block k hk.1) (fun k hk => ⟨hk, Nat.lt_of_lt_of_le hk.1 hb'.size, fun e => ?_⟩) f a l hd, hb'.size, hb', e1⟩
 have := (own_typeL hr.own k e.symm).1
 have := hk.1
 omega
theorem body_end {rb : Nat} {fv tv lv : Value} {nm : ByteArray} {ex : List (ByteArray × ByteArray)} {is : List IE} {es fs fs2 : List (Dat × Option Addr × Nat)} {ev iv bv : Value} {e : Int} {w w2 w3 : World} {a2 : Option Addr} {n2 c2 : Nat} {l : List Dat} (h : WS rb fv tv lv nm ex is es ev iv bv e w) (hb : Below w.heap.size w w2) (e1 : fs.map (·.1) = es.map (·.1)) (hn : (fs ++ fs2).length = n2) (e2 : fs2.map (·.1) = l) (hr : RowE (Frx rb ev iv w) w.heap.size (.slice a2 n2 c2) (fs ++ fs2) w3) (hb3 : Below w.heap.size w2 w3) :
 (w3.cell? ⟨rb, 6, none⟩ = some bv ∧ w3.frozen? ⟨rb, 6, none⟩ = false) ∧ WS rb fv tv lv nm ex is (fs ++ fs2) ev iv (.slice a2 n2 c2) e (w3.setCell ⟨rb, 6, none⟩ (.slice a2 n2 c2)) ∧ Keep rb w (w3.setCell ⟨rb, 6, none⟩ (.slice a2 n2 c2)) ∧ (fs ++ fs2).map (·.1) = es.map (·.1) ++ l := by
 have hb' := hb.trans hb3
 have hk : w3.heap[rb]? = _ := (hb'.block rb h.lt).trans h.blk
 have hown := hr.own
 rw [hn] at hown
 obtain ⟨b1, b2⟩ := h.body hb' hown hn.symm (fun d hd => by
  obtain ⟨h1, h2, f, h3⟩ := hr.kids d hd
  exact ⟨h1, h2, f, Dc.stay (fun k hk => (hb'.block k hk.1.1).symm) (fun k hk => hk.1) f _ _ h3⟩)
 exact ⟨⟨(cellO hk).trans rfl, looseO hk⟩, b1, b2, by rw [List.map_append, e1, e2]⟩
def TellB (rb : Nat) (fv tv lv : Value) (nm : ByteArray) (ex : List (ByteArray × ByteArray)) (is : List IE) (es : List (Dat × Option Addr × Nat)) (ev iv : Value) (l : List Dat) (x : Int) (w : World) (en : Ending) (w' : World) : Prop :=
 en = .returned (.tuple #[]) ∧ Keep rb w w' ∧ ∃ es' bv', WS rb fv tv lv nm ex is es' ev iv bv' x w' ∧ es'.length ≤ 200 ∧ (x = 0 → es'.map (·.1) = es.map (·.1) ++ l)
set_option maxRecDepth 100000 in
set_option maxHeartbeats 6400000 in
theorem Body_any (rb : Nat) (fv tv lv : Value) (nm : ByteArray) (ex : List (ByteArray × ByteArray)) (is : List IE) (es : List (Dat × Option Addr × Nat)) (ev iv bv : Value) (e : Int) (f : Nat) (l : List Dat) (a : Option Addr) (cap : Nat) (w : World) (h : WS rb fv tv lv nm ex is es ev iv bv e w) (hes : es.length ≤ 200) (hd : Dc (Frx rb ev iv w) w f a l) (hl : l.length ≤ 100000) :
 Calls Tryz.prog 61 #[.pointer (some ⟨rb, 0, none⟩), .slice a l.length cap] w (TellB rb fv tv lv nm ex is es ev iv l (fst1 e (if 200 < l.length + es.length then 5 else 0)) w) := by
 obtain ⟨va, vc, F, hbv, hrow⟩ := h.row hes
 subst hbv
 have H := hidd h
 have HR := hidd hrow
 have HD := hidd hd
 have c6 : w.cell? ⟨rb, 6, none⟩ = some (.slice va es.length vc) := (cellO h.blk).trans rfl
 have HG : Hid (∀ x W, WS rb fv tv lv nm ex is es ev iv (.slice va es.length vc) x W → x ≠ 0 → Calls Tryz.prog 33 #[.pointer (some ⟨rb, 0, none⟩)] W fun en w' => en = .returned (.bool false) ∧ w' = W) := fun x W hW hx => good1 rb x W hW.blk.e7 hx
 clear hrow hd
 by_cases hbig : 200 < l.length + es.length
 ·rw [if_pos hbig]
  have k1 : decide ((200 : Int) < (l.length : Int) + (es.length : Int)) = true := by simp; omega
  have k2 : (200 : Int) < (l.length : Int) + (es.length : Int) := by omega
  have SP := hidd (stop_any rb e 5 w h.blk.e7)
  have hne : fst1 e 5 ≠ 0 := by unfold fst1; split <;> omega
  have HNE := hidd hne
  have HS := hidd hes
  obtain ⟨q, hq⟩ : ∃ q, q = fst1 e 5 := ⟨_, rfl⟩
  rw [← hq] at SP HNE ⊢
  clear h hbig hne hq
  go_enter Tryz.func61, Tryz.ntmps61
  go_wp2_with fail
  refine SP.out.mono ?_
  rintro en w1 ⟨rfl, hs1⟩
  have H1 := hidd (And.intro hs1 (H.out.st (fun h => absurd h HNE.out) hs1))
  clear hs1 SP c6
  go_wp2_with fail
  refine (HG.out q w1 H1.out.2 HNE.out).mono ?_
  rintro en wm ⟨rfl, hwm⟩
  rw [hwm]
  clear hwm
  go_wp2_with fail
  go_end0
  exact ⟨rfl, H1.out.1.keep, es, _, H1.out.2, HS.out, fun h0 => absurd h0 HNE.out⟩
 rw [if_neg hbig, fst1_none]
 have k1 : decide ((200 : Int) < (l.length : Int) + (es.length : Int)) = false := by simp; omega
 have k2 : ¬ (200 : Int) < (l.length : Int) + (es.length : Int) := by omega
 have HL : Hid (l.length + es.length ≤ 200) := by show _ ≤ _; omega
 by_cases he : e = 0
 ·subst he
  have GD := hidd (good0 rb w h.blk.e7)
  clear h hbig
  go_enter Tryz.func61, Tryz.ntmps61
  go_wp2_with fail
  refine GD.out.mono ?_
  rintro en wm ⟨rfl, hwm⟩
  rw [hwm]
  clear hwm
  have HV : Hid (RowE (Frx rb ev iv w) w.heap.size (.slice (some ⟨w.heap.size, 0, none⟩) 0 0) [] (w.alloc (.cells #[] 26))) := RowE.made (Frx rb ev iv w) w [] (by simp) (fun e he => by cases he)
  have HR1 : Hid (Dc (fun b => Frx rb ev iv w b ∧ b < (w.alloc (.cells #[] 26)).heap.size ∧ some b ≠ (Value.slice (some ⟨w.heap.size, 0, none⟩) 0 0).ownBlock) (w.alloc (.cells #[] 26)) F va (es.map (·.1))) := Dc.stay (fun k hk => Below.heap_alloc _ _ _ hk.1) (fun k hk => ⟨hk, by have := hk.1; simp; omega, fun e => by have := hk.1; have := Option.some.inj e; simp only at this; omega⟩) F va _ HR.out
  have c6' : (w.alloc (.cells #[] 26)).cell? ⟨rb, 6, none⟩ = some (.slice va es.length vc) := (((Below.refl w.heap.size w).alloc (Nat.le_refl _) _).cell (p := ⟨rb, 6, none⟩) H.out.lt).trans c6
  go_wp2_with (at_builtin; first
   | (refine wpList_rowE rfl (.tmp 19) (.tmp 24) rfl HV.out (F := F) (a := va) (l := es.map (·.1)) (cap := vc) rfl (by rw [List.length_map]; rfl) (by exact HR1.out) (by simp) (by rw [List.length_map]; simp; omega) ?_; intro v1 w2 fs e1 hrow hb hat hgrow; obtain ⟨a1, c1, hv1, hc1⟩ := own_sliceL hrow.own; rw [List.nil_append] at hrow hv1; have hfl : fs.length = es.length := (by rw [← List.length_map (f := (·.1)), e1, List.length_map]); rw [hfl] at hv1; subst hv1; have H2 := hidd (body_mid H.out HD.out e1 hrow hb); clear hrow hb hat hgrow hc1)
   | (refine wpList_rowE rfl (.tmp 25) (.tmp 26) rfl H2.out.1 (F := f) (a := a) (l := l) (cap := cap) rfl rfl (by exact H2.out.2.1) (by exact H2.out.2.2.1) (by rw [hfl]; omega) ?_; intro v2 w3 fs2 e2 hrow hb hat hgrow; obtain ⟨a2, c2, hv2, hc2⟩ := own_sliceL hrow.own; have hfl2 : (fs ++ fs2).length = es.length + l.length := (by rw [List.length_append, hfl, ← e2, List.length_map]); rw [hfl2] at hv2; subst hv2; have H3 := hidd (body_end H.out H2.out.2.2.2.1 H2.out.2.2.2.2 hfl2 e2 hrow hb); obtain ⟨c7, z7⟩ := H3.out.1; clear hrow hb hat hgrow hc2))
  go_end0
  exact ⟨rfl, H3.out.2.2.1, _, _, H3.out.2.1, by rw [hfl2]; have := HL.out; omega, fun _ => H3.out.2.2.2⟩
 have GD := hidd (good1 rb e w h.blk.e7 he)
 have HNE := hidd he
 have HS := hidd hes
 clear h hbig he
 go_enter Tryz.func61, Tryz.ntmps61
 go_wp2_with fail
 refine GD.out.mono ?_
 rintro en wm ⟨rfl, hwm⟩
 rw [hwm]
 clear hwm
 go_wp2_with fail
 go_end0
 exact ⟨rfl, Keep.refl _ _, es, _, H.out, HS.out, fun h0 => absurd h0 HNE.out⟩
def WL (rb : Nat) (fv tv lv : Value) (s : LibS) (e : Int) (w : World) : Prop := ∃ is es ev iv bv, WS rb fv tv lv s.name s.exports is es ev iv bv e w ∧ is.map IE.s = s.imports ∧ (bareQL (es.map (·.1)) = s.body ∧ (e = 0 → zrL (es.map (·.1)))) ∧ (s.exports.length ≤ 201 ∧ (e = 0 → s.exports.length ≤ 200)) ∧ is.length ≤ 20 ∧ es.length ≤ 200
def TellD (rb : Nat) (fv tv lv : Value) (r : Er LibS) (w : World) (en : Ending) (w' : World) : Prop := en = .returned (.tuple #[]) ∧ Below rb w w' ∧ ∃ s', WL rb fv tv lv s' (erE r) w' ∧ ∀ s, r = .ok s → s' = s
theorem WL.blk {rb : Nat} {fv tv lv : Value} {s : LibS} {e : Int} {w : World} (h : WL rb fv tv lv s e w) : ∃ nm ev iv bv, WB rb fv tv lv nm ev iv bv e w := by
 obtain ⟨is, es, ev, iv, bv, h1, _⟩ := h
 exact ⟨_, _, _, _, h1.blk⟩
theorem WL.e7 {rb : Nat} {fv tv lv : Value} {s : LibS} {e : Int} {w : World} (h : WL rb fv tv lv s e w) : E7 rb e w := by
 obtain ⟨_, _, _, _, h⟩ := h.blk
 exact h.e7
theorem WL.lt {rb : Nat} {fv tv lv : Value} {s : LibS} {e : Int} {w : World} (h : WL rb fv tv lv s e w) : rb < w.heap.size := h.e7.lt
theorem WL.st {rb : Nat} {fv tv lv : Value} {s : LibS} {e : Int} {w w' : World} (h : WL rb fv tv lv s 0 w) (hs : St rb e w w') : WL rb fv tv lv s e w' := by
 obtain ⟨is, es, ev, iv, bv, h1, h2, h3, h4, h5, h6⟩ := h
 exact ⟨is, es, ev, iv, bv, h1.st (fun _ => rfl) hs, h2, ⟨h3.1, fun _ => h3.2 rfl⟩, ⟨h4.1, fun _ => h4.2 rfl⟩, h5, h6⟩
theorem WL.below {rb : Nat} {fv tv lv : Value} {s : LibS} {e : Int} {w w' : World} (h : WL rb fv tv lv s e w) (hb : Below w.heap.size w w') : WL rb fv tv lv s e w' := by
 obtain ⟨is, es, ev, iv, bv, h1, h2⟩ := h
 exact ⟨is, es, ev, iv, bv, h1.below hb, h2⟩
theorem WL.en {rb : Nat} {fv tv lv : Value} {s : LibS} {e : Int} {w : World} {E : Env} (h : WL rb fv tv lv s e w) (hE : EnvM rb E fv tv lv w) : EN rb tv lv E w := by
 obtain ⟨_, _, _, _, hb⟩ := h.blk
 exact ⟨(cellO hb).trans rfl, (cellO hb).trans rfl, hE.fe, hE.li, hE.feL, hE.liL⟩
theorem St.lowr {rb : Nat} {e e0 : Int} {w w' : World} (hs : St rb e w w') (h : E7 rb e0 w) : Below rb w w' := hs.low (Nat.le_refl _) (Nat.le_of_lt h.lt)
theorem decl_bad {E : Env} {s : LibS} {d x : Dat} {r : List Dat} (hds : needD d 1 = x :: r) (he : fst1 (needE d 1) (wdE x) ≠ 0) : declD E d s = .no 2 ∧ fst1 (needE d 1) (wdE x) = 2 := by
 by_cases hk : d.kind = 4 ∧ 1 ≤ d.kids.length
 ·have hn : d.kids = x :: r := by rw [← hds]; exact (if_pos hk).symm
  rw [show needE d 1 = 0 from if_pos hk, fst1_zero] at he ⊢
  unfold wdE at he ⊢
  by_cases hx : x.kind = 3
  ·rw [if_pos hx] at he; exact absurd rfl he
  rw [if_neg hx]
  cases d
  simp only at hn hk
  subst hn
  unfold declD
  rw [if_pos hk.1, declK, if_neg hx]
  exact ⟨rfl, rfl⟩
 have he2 : needE d 1 = 2 := if_neg hk
 rw [he2, fst1_no (by decide)]
 refine ⟨?_, rfl⟩
 cases d
 simp only at hk
 unfold declD
 split
 ·rename_i ks h4
  match ks, hk with
  | [], _ => rw [declK]
  | y :: s, hk => exact absurd ⟨h4, by simp⟩ hk
 rfl
theorem decl_good {E : Env} {s : LibS} {d x : Dat} {r : List Dat} (hds : needD d 1 = x :: r) (he : fst1 (needE d 1) (wdE x) = 0) : d.kind = 4 ∧ d.kids = x :: r ∧ x.kind = 3 ∧ wdS x = x.name ∧ declD E d s = (if x.name = bExport then (if s.name = ⟨#[]⟩ then .no 2 else exportsF r s) else if x.name = bImport then importsF r s else if x.name = bBegin then addF (bareQL r) s else if x.name = bInclude then includeF E r s else if x.name = bCond then declC E r s else .no 2) := by
 obtain ⟨h1, h2⟩ := fst1_eq0 he
 have hk : d.kind = 4 ∧ 1 ≤ d.kids.length := by
  unfold needE at h1
  split at h1
  ·assumption
  exact absurd h1 (by decide)
 have hx : x.kind = 3 := by
  unfold wdE at h2
  split at h2
  ·assumption
  exact absurd h2 (by decide)
 have hn : d.kids = x :: r := by rw [← hds]; exact (if_pos hk).symm
 refine ⟨hk.1, hn, hx, if_pos hx, ?_⟩
 cases d
 simp only at hn hk
 subst hn
 unfold declD
 rw [if_pos hk.1, declK, if_pos hx]
theorem bareQL_len : ∀ (l : List Dat), (bareQL l).length = l.length
 | [] => rfl
 | d :: r => by rw [bareQL, List.length_cons, List.length_cons, bareQL_len r]
theorem bareQL_app (m : List Dat) : ∀ (l : List Dat), bareQL (l ++ m) = bareQL l ++ bareQL m
 | [] => rfl
 | d :: r => by rw [List.cons_append, bareQL, bareQL, bareQL_app m r]; rfl
theorem declB_bad {E : Env} {s : LibS} {k : LibS → Er LibS} : ∀ {z : Dat}, ¬ (z.kind = 4 ∧ 1 ≤ z.kids.length) → declB E z k s = .no 2
 | ⟨zk, _, _, _, _, zks⟩, h => by
  rw [declB]
  by_cases h4 : zk = 4
  ·rw [if_pos h4]
   match zks, h with
   | [], _ => rw [declT]
   | x :: r, hh => exact absurd ⟨h4, by simp⟩ hh
  rw [if_neg h4]
theorem declB_ok {E : Env} {s : LibS} {k : LibS → Er LibS} {h : Dat} {t : List Dat} : ∀ {z : Dat}, z.kind = 4 → z.kids = h :: t → declB E z k s = (clauseF E h).bind fun b => if b then declL E t s else k s
 | ⟨zk, _, _, _, _, zks⟩, h4, hk => by
  simp only at h4 hk
  subst hk
  rw [declB, if_pos h4, declT]
theorem body_wl {rb : Nat} {fv tv lv : Value} {s : LibS} {is : List IE} {es es' : List (Dat × Option Addr × Nat)} {ev iv bv' : Value} {l : List Dat} {w : World} (hz : zrL l) (h3 : bareQL (es.map (·.1)) = s.body ∧ zrL (es.map (·.1))) (h4 : s.exports.length ≤ 200) (h5 : is.length ≤ 20) (h2 : is.map IE.s = s.imports)
 (g1 : WS rb fv tv lv s.name s.exports is es' ev iv bv' (fst1 0 (if 200 < l.length + es.length then 5 else 0)) w) (g2 : es'.length ≤ 200) (g3 : fst1 0 (if 200 < l.length + es.length then (5 : Int) else 0) = 0 → es'.map (·.1) = es.map (·.1) ++ l) :
 ∃ s', WL rb fv tv lv s' (erE (addF (bareQL l) s)) w ∧ ∀ s2, addF (bareQL l) s = .ok s2 → s' = s2 := by
 have hl : s.body.length = es.length := by rw [← h3.1, bareQL_len, List.length_map]
 refine ⟨{ s with body := bareQL (es'.map (·.1)) }, ?_, ?_⟩
 ·have e : erE (addF (bareQL l) s) = fst1 0 (if 200 < l.length + es.length then 5 else 0) := by
   unfold addF
   rw [hl, bareQL_len, fst1_zero]
   by_cases hq : 200 < l.length + es.length
   ·rw [if_pos hq, if_neg (by omega)]; rfl
   rw [if_neg hq, if_pos (by omega)]; rfl
  refine ⟨is, es', ev, iv, bv', ?_, h2, ⟨rfl, fun h0 => by rw [g3 (e ▸ h0)]; exact zrL_app _ _ h3.2 hz⟩, ⟨Nat.le_succ_of_le h4, fun _ => h4⟩, h5, g2⟩
  rw [e]
  exact g1
 intro s2 hs2
 unfold addF at hs2
 rw [hl, bareQL_len] at hs2
 split at hs2
 ·rename_i hq
  have e := g3 (by rw [if_neg (by omega)]; rfl)
  cases hs2
  rw [e, bareQL_app, h3.1]
 cases hs2
theorem alike_bare {ok : Nat → Prop} {w : World} : ∀ (f : Nat) (a : Option Addr) (bs : List Dat), Dc ok w f a (bareQL bs) → zrL bs → Alike f (bareQL bs) bs
 | 0, a, bs, h, _ => by
  have h0 : bareQL bs = [] := h
  refine ⟨h0, ?_⟩
  cases bs with
  | nil => rfl
  | cons x r => rw [bareQL] at h0; cases h0
 | f + 1, a, bs, h, hz => by
  refine ⟨bareQL_len bs, fun i d e hd he => ?_⟩
  rw [bareQL_map, List.getElem?_map, he] at hd
  simp only [Option.map_some, Option.some.injEq] at hd
  obtain ⟨g, b, o, a', cap, hg, _, _, hk⟩ := h.at (i := i) (d := bareQ e) (by rw [bareQL_map, List.getElem?_map, he]; rfl)
  have hze := zrL_mem hz e (List.mem_of_getElem? he)
  subst hd
  cases hg
  obtain ⟨k, n, nm, st, lb, ks⟩ := e
  rw [bareQ] at hk ⊢
  refine ⟨rfl, fun h12 => ?_, fun h3 => ?_, fun h4 => ?_⟩
  ·simp only at h12 ⊢
   rw [if_pos h12]
  ·have := zrD_sym hze h3
   simp only at h3 this ⊢
   rw [if_pos h3]
   exact ⟨rfl, this.1.symm, this.2.symm⟩
  simp only at h4 hk ⊢
  rw [if_pos h4] at hk ⊢
  exact alike_bare _ a' ks hk (zrD_list hze h4)
mutual
theorem zr_chk : ∀ (f : Nat) (d : Dat) (n : Nat), (chk f d n).1 = 0 → zrD d
 | 0, _, _, h => by cases h
 | f + 1, d, n, h => by
  rw [chk] at h
  split at h
  ·cases h
  split at h
  ·rename_i _ h0
   refine zrD_mk (fun h3 => ?_) (fun h4 => ?_)
   ·unfold alone at h0
    rw [if_neg (by omega), if_neg (by omega), if_pos h3] at h0
    split at h0
    ·split at h0
     ·assumption
     cases h0
    cases h0
   rw [if_pos h4] at h
   exact zr_chkL f d.kids _ h
  exact absurd h (by assumption)
theorem zr_chkL : ∀ (f : Nat) (l : List Dat) (n : Nat), (chkL (chk f) l n).1 = 0 → zrL l
 | _, [], _, _ => by rw [zrL]; trivial
 | f, d :: r, n, h => by
  unfold chkL at h
  rw [zrL]
  by_cases e : (chk f d n).1 = 0
  ·rw [if_pos e] at h
   exact ⟨zr_chk f d n e, zr_chkL f r _ h⟩
  rw [if_neg e] at h
  exact absurd h e
end
theorem zr_wrong {d : Dat} (h : (wrong [d]).1 = 0) : zrD d := zr_chk 40 d 0 (by rw [← wrong_first]; exact h)
theorem imp_endW {g cp : Nat} {rb : Nat} {fv tv lv : Value} {nm : ByteArray} {ex : List (ByteArray × ByteArray)} {is : List IE} {es : List (Dat × Option Addr × Nat)} {ev iv bv : Value} {e0 : Int} {w1 w2 W : World} {e : IE} (h : WS rb fv tv lv nm ex is es ev iv bv e0 w1) (hn : e0 = 0 → e.ok (Frz rb ev iv bv w1) w1) (hgrow : w1.grownBy w2 iv.ownBlock) (hat : iv.ownBlock = some g ∨ g = w1.heap.size)
 {v0 v1 v2 v3 v4 v5 : Value} (hv : e.cells = [v0, v1, v2, v3, v4, v5]) (hset : W.ownsRow (rb + 1) 73 6 (.slice (some ⟨g, 0, none⟩) (is.length + 1) cp) (is.length + 1) (flatI is ++ [v0, v1, v2, v3, v4, v5]))
 (hWp : WB rb fv tv lv nm ev (.slice (some ⟨g, 0, none⟩) (is.length + 1) cp) bv e0 W) (hWk : ∀ k, k ≠ g → k ≠ rb → W.heap[k]? = w2.heap[k]?) (hWs : w1.heap.size ≤ W.heap.size) : WS rb fv tv lv nm ex (is ++ [e]) es ev (.slice (some ⟨g, 0, none⟩) (is.length + 1) cp) bv e0 W := by
 have far : ∀ k, k < w1.heap.size → k ≠ rb → some k ≠ iv.ownBlock → k ≠ g → W.heap[k]? = w1.heap[k]? := fun k h1 h2 h3 h4 => (hWk k h4 h2).trans (hgrow.block k h1 h3)
 have ng : ∀ k, k < w1.heap.size → some k ≠ iv.ownBlock → k ≠ g := fun k h1 h2 e => by
  subst e
  rcases hat with h' | h'
  ·exact h2 h'.symm
  omega
 have st : ∀ k, Frw rb ev iv bv w1 k → W.heap[k]? = w1.heap[k]? := fun k hk => far k hk.1 hk.2.1 hk.2.2.2.1 (ng k hk.1 hk.2.2.2.1)
 have up : ∀ k, Frw rb ev iv bv w1 k → Frw rb ev (.slice (some ⟨g, 0, none⟩) (is.length + 1) cp) bv W k := fun k hk => ⟨Nat.lt_of_lt_of_le hk.1 hWs, hk.2.1, hk.2.2.1, fun e => ng k hk.1 hk.2.2.2.1 (Option.some.inj e), hk.2.2.2.2⟩
 refine ⟨hWp, own_keepL h.eo (fun q hq => ?_), ?_, own_keepL h.bo (fun q hq => ?_), fun hz e' he => ?_, fun e' he => ?_⟩
 ·have t1 : some q ≠ iv.ownBlock := fun e => own_ne h.eo h.io (by decide) hq e.symm rfl
  have t2 := (own_typeL h.eo q hq).2.1
  exact far q t2 (own_wb h.eo h.blk (by decide) hq) t1 (ng q t2 t1)
 ·rw [flatI_append, show flatI [e] = e.cells by simp [flatI], hv, List.length_append]
  exact hset
 ·have t1 : some q ≠ iv.ownBlock := fun e => own_ne h.bo h.io (by decide) hq e.symm rfl
  have t2 := (own_typeL h.bo q hq).2.1
  exact far q t2 (own_wb h.bo h.blk (by decide) hq) t1 (ng q t2 t1)
 ·rcases List.mem_append.1 he with he | he
  ·exact IE.stay (h.ik hz e' he) (fun k hk => st k hk.2) (fun k hk => ⟨hk.1, up k hk.2⟩)
  rcases List.mem_singleton.1 he with rfl
  exact IE.stay (hn hz) (fun k hk => st k hk.2) (fun k hk => ⟨hk.1, up k hk.2⟩)
 obtain ⟨a1, a2, f, a3⟩ := h.bk e' he
 exact ⟨a1, a2, f, Dc.stay st up f _ _ a3⟩
theorem imp_bothW {g cp : Nat} {rb : Nat} {fv tv lv : Value} {nm : ByteArray} {ex : List (ByteArray × ByteArray)} {is : List IE} {es : List (Dat × Option Addr × Nat)} {ev iv bv : Value} {e0 : Int} {w1 w2 : World} {e : IE} (h : WS rb fv tv lv nm ex is es ev iv bv e0 w1) (hn : e0 = 0 → e.ok (Frz rb ev iv bv w1) w1)
 (hown : w2.ownsRow (rb + 1) 73 6 (.slice (some ⟨g, 0, none⟩) (is.length + 1) cp) (is.length + 1) (flatI is ++ Go.Proofs.YtonafbennobgdaaGreatDoor.zeroI)) (hgrow : w1.grownBy w2 iv.ownBlock) (hat : iv.ownBlock = some g ∨ g = w1.heap.size) {v0 v1 v2 v3 v4 v5 : Value} (hv : e.cells = [v0, v1, v2, v3, v4, v5]) :
 (∃ cur : Array Value, w2.heap[g]? = some (.cells cur 73 (0, 0)) ∧ (is.length + 1) * 6 ≤ cur.size) ∧ rb ≠ g ∧ WB rb fv tv lv nm ev iv bv e0 w2 ∧ Below rb w1 w2 ∧ (WS rb fv tv lv nm ex (is ++ [e]) es ev (.slice (some ⟨g, 0, none⟩) (is.length + 1) cp) bv e0 ((sixW w2 g (is.length * 6) v0 v1 v2 v3 v4 v5).setCell ⟨rb, 5, none⟩ (.slice (some ⟨g, 0, none⟩) (is.length + 1) cp)) ∧ Below rb w1 ((sixW w2 g (is.length * 6) v0 v1 v2 v3 v4 v5).setCell ⟨rb, 5, none⟩ (.slice (some ⟨g, 0, none⟩) (is.length + 1) cp))) ∧ WS rb fv tv lv nm ex (is ++ [e]) es ev (.slice (some ⟨g, 0, none⟩) (is.length + 1) cp) bv e0 (sixW (w2.setCell ⟨rb, 5, none⟩ (.slice (some ⟨g, 0, none⟩) (is.length + 1) cp)) g (is.length * 6) v0 v1 v2 v3 v4 v5) ∧ Below rb w1 (sixW (w2.setCell ⟨rb, 5, none⟩ (.slice (some ⟨g, 0, none⟩) (is.length + 1) cp)) g (is.length * 6) v0 v1 v2 v3 v4 v5) := by
 obtain ⟨g', cap', cur, hs, hbg, hgl, hcur, hcl, hset⟩ := own_six hown (flatI_len is) rfl
 simp at hs
 obtain ⟨rfl, rfl⟩ := hs
 have hpl := h.lt
 have hb2 : Below rb w1 w2 := grown_below hgrow (Nat.le_of_lt hpl) (fun q hq => by have := (own_typeL h.io q hq).1; omega)
 have hpg : rb ≠ g := by omega
 have hpb2 : WB rb fv tv lv nm ev iv bv e0 w2 := (hgrow.block rb hpl (fun e => own_wb h.io h.blk (by decide) e.symm rfl)).trans h.blk
 have hA : Below rb w1 ((sixW w2 g (is.length * 6) v0 v1 v2 v3 v4 v5).setCell ⟨rb, 5, none⟩ (.slice (some ⟨g, 0, none⟩) (is.length + 1) cp)) := (sixW_below hb2 (by omega) _ _ _ _ _ _).setCell (p := ⟨rb, 5, none⟩) (Nat.le_refl _) _
 have hC : Below rb w1 (sixW (w2.setCell ⟨rb, 5, none⟩ (.slice (some ⟨g, 0, none⟩) (is.length + 1) cp)) g (is.length * 6) v0 v1 v2 v3 v4 v5) := sixW_below (hb2.setCell (p := ⟨rb, 5, none⟩) (Nat.le_refl _) _) (by omega) _ _ _ _ _ _
 have gA : ((sixW w2 g (is.length * 6) v0 v1 v2 v3 v4 v5).setCell ⟨rb, 5, none⟩ (.slice (some ⟨g, 0, none⟩) (is.length + 1) cp)).heap[g]? = some (.cells ((((((cur.setIfInBounds (is.length * 6) v0).setIfInBounds (is.length * 6 + 1) v1).setIfInBounds (is.length * 6 + 2) v2).setIfInBounds (is.length * 6 + 3) v3).setIfInBounds (is.length * 6 + 4) v4).setIfInBounds (is.length * 6 + 5) v5) 73 (0, 0)) := by
  rw [Below.heap_setCell _ _ _ _ (show g ≠ rb from fun e => hpg e.symm)]
  exact sixW_at hcur _ _ _ _ _ _
 have gC : (sixW (w2.setCell ⟨rb, 5, none⟩ (.slice (some ⟨g, 0, none⟩) (is.length + 1) cp)) g (is.length * 6) v0 v1 v2 v3 v4 v5).heap[g]? = some (.cells ((((((cur.setIfInBounds (is.length * 6) v0).setIfInBounds (is.length * 6 + 1) v1).setIfInBounds (is.length * 6 + 2) v2).setIfInBounds (is.length * 6 + 3) v3).setIfInBounds (is.length * 6 + 4) v4).setIfInBounds (is.length * 6 + 5) v5) 73 (0, 0)) := sixW_at ((Below.heap_setCell _ _ _ _ (show g ≠ rb from fun e => hpg e.symm)).trans hcur) _ _ _ _ _ _
 refine ⟨⟨cur, hcur, hcl⟩, hpg, hpb2, hb2, ⟨imp_endW h hn hgrow hat hv (hset _ _ _ _ _ _ _ gA) ?_ ?_ hA.size, hA⟩, imp_endW h hn hgrow hat hv (hset _ _ _ _ _ _ _ gC) ?_ ?_ hC.size, hC⟩
 ·exact cell_setL ((sixW_far w2 g _ rb hpg _ _ _ _ _ _).trans hpb2) _
 ·intro k h1 h2
  rw [Below.heap_setCell _ _ _ _ (show k ≠ rb from h2)]
  exact sixW_far w2 g _ k h1 _ _ _ _ _ _
 ·exact (sixW_far _ g _ rb hpg _ _ _ _ _ _).trans (cell_setL hpb2 _)
 intro k h1 h2
 rw [sixW_far _ g _ k h1]
 exact Below.heap_setCell _ _ _ _ (show k ≠ rb from h2)
theorem sixRow {w : World} {g n : Nat} {cur : Array Value} {t : TypeId} (h : w.heap[g]? = some (.cells cur t (0, 0))) (hn : (n + 1) * 6 ≤ cur.size) : ∃ x0 x1 x2 x3 x4 x5, w.cell? ⟨g, n * 6, none⟩ = some x0 ∧ w.cell? ⟨g, n * 6 + 1, none⟩ = some x1 ∧ w.cell? ⟨g, n * 6 + 2, none⟩ = some x2 ∧ w.cell? ⟨g, n * 6 + 3, none⟩ = some x3 ∧ w.cell? ⟨g, n * 6 + 4, none⟩ = some x4 ∧ w.cell? ⟨g, n * 6 + 5, none⟩ = some x5 ∧ w.frozen? ⟨g, n * 6, none⟩ = false ∧ w.frozen? ⟨g, n * 6 + 1, none⟩ = false ∧ w.frozen? ⟨g, n * 6 + 2, none⟩ = false ∧ w.frozen? ⟨g, n * 6 + 3, none⟩ = false ∧ w.frozen? ⟨g, n * 6 + 4, none⟩ = false ∧ w.frozen? ⟨g, n * 6 + 5, none⟩ = false :=
 have c : ∀ i, i < cur.size → w.cell? ⟨g, i, none⟩ = some cur[i]! := fun i hi => (cellO h).trans (by simp [hi])
 ⟨_, _, _, _, _, _, c _ (by omega), c _ (by omega), c _ (by omega), c _ (by omega), c _ (by omega), c _ (by omega), looseO h, looseO h, looseO h, looseO h, looseO h, looseO h⟩
theorem chkL_ge (g : Dat → Nat → Int × Nat) (hg : ∀ d n, n ≤ (g d n).2) : ∀ (l : List Dat) (n : Nat), n ≤ (chkL g l n).2
 | [], n => Nat.le_refl _
 | d :: r, n => by
  unfold chkL
  split
  ·exact Nat.le_trans (hg d n) (chkL_ge g hg r _)
  exact hg d n
theorem chk_ge : ∀ (f : Nat) (d : Dat) (n : Nat), n + 1 ≤ (chk f d n).2
 | 0, _, n => Nat.le_refl _
 | f + 1, d, n => by
  unfold chk
  split
  ·exact Nat.le_refl _
  split
  ·split
   ·exact chkL_ge _ (fun d n => Nat.le_trans (Nat.le_succ n) (chk_ge f d n)) _ _
   exact Nat.le_refl _
  exact Nat.le_refl _
theorem wrongFrom_few : ∀ (l : List Dat) (i n : Nat), l ≠ [] → (wrongFrom l i n).1 = 0 → l.length + n ≤ 2000
 | [], _, _, h, _ => absurd rfl h
 | d :: r, i, n, _, h => by
  unfold wrongFrom at h
  by_cases hc : (chk 40 d n).1 = 0
  ·rw [if_pos hc] at h
   have h1 := chk_ge 40 d n
   by_cases hr : r = []
   ·subst hr
    have : ¬ 2000 < n + 1 := fun h2 => by
     unfold chk at hc
     rw [if_pos h2] at hc
     exact absurd (show (4 : Int) = 0 from hc) (by decide)
    simp
    omega
   have h2 := wrongFrom_few r _ _ hr h
   simp
   omega
  rw [if_neg hc] at h
  exact absurd h hc
theorem read_few {l : List UInt8} {ds : List Dat} (h : readL l = .inr ds) : ds.length ≤ 2000 := by
 by_cases hd : ds = []
 ·subst hd; exact Nat.zero_le _
 have h1 := wrongFrom_few ds 0 0 hd (by have := read_right h; unfold wrong at this; rw [this])
 omega
def fileR (E : Env) (n : ByteArray) (s : LibS) : Er LibS := match fileF n E.files with
 | none => .no 6
 | some t => match readL t.data.toList with
  | .inl x => .no x.1
  | .inr ds => addF ds s
theorem nz_file (E : Env) (n : ByteArray) (s : LibS) : NZ (fileR E n s) := by
 unfold fileR
 split
 ·exact NZ.no (by decide)
 split
 ·exact NZ.no (read_err ‹_›)
 exact nz_add _ s
theorem includeF_step {E : Env} {ds : List Dat} {j : Nat} {d : Dat} {s : LibS} (h : ds[j]? = some d) : includeF E (ds.drop j) s = (nameF d).bind fun n => (fileR E n s).bind fun s' => includeF E (ds.drop (j + 1)) s' := by
 obtain ⟨hi, e⟩ := List.getElem?_eq_some_iff.1 h
 rw [List.drop_eq_getElem_cons hi, e, includeF]
 congr 1
 funext n
 unfold fileR
 cases fileF n E.files with
 | none => rfl
 | some t =>
  simp only
  cases readL t.data.toList <;> rfl
theorem fileF_at {n : ByteArray} {l : List (ByteArray × ByteArray)} {i : Nat} {p : ByteArray × ByteArray} (h : l[i]? = some p) : fileF n (l.drop i) = if p.1 = n then some p.2 else fileF n (l.drop (i + 1)) := by
 obtain ⟨hi, e⟩ := List.getElem?_eq_some_iff.1 h
 rw [List.drop_eq_getElem_cons hi, e, fileF]
theorem importsF_at {ds : List Dat} {j : Nat} {d : Dat} {s : LibS} (h : ds[j]? = some d) : importsF (ds.drop j) s = if s.imports.length < 20 then (setF 12 d).bind fun x => importsF (ds.drop (j + 1)) { s with imports := s.imports ++ [x] } else .no 5 := by
 obtain ⟨hi, e⟩ := List.getElem?_eq_some_iff.1 h
 rw [List.drop_eq_getElem_cons hi, e, importsF]
def hasE (x : ByteArray) (l : List (ByteArray × ByteArray)) : Bool := l.any fun y => decide (y.1 = x)
theorem hasE_at {x : ByteArray} {l : List (ByteArray × ByteArray)} {j : Nat} {p : ByteArray × ByteArray} (h : l[j]? = some p) : hasE x (l.drop j) = (decide (p.1 = x) || hasE x (l.drop (j + 1))) := by
 obtain ⟨hi, e⟩ := List.getElem?_eq_some_iff.1 h
 rw [List.drop_eq_getElem_cons hi, e]
 rfl
set_option maxRecDepth 100000 in
set_option maxHeartbeats 3200000 in
theorem has59 (ex : List (ByteArray × ByteArray)) (x : ByteArray) (a : Option Addr) (cap : Nat) (w : World) (hl : PrR w ex a) (hn : ex.length ≤ 1000) :
 Calls Tryz.prog 59 #[.slice a ex.length cap, .string x] w fun e w' => e = .returned (.bool (hasE x ex)) ∧ Below w.heap.size w w' := by
 have HP : Hid (∀ W j p, Below w.heap.size w W → ex[j]? = some p → ∃ g, a = some ⟨g, 0, none⟩ ∧ W.cell? ⟨g, j * 2, none⟩ = some (.string p.1) ∧ W.cell? ⟨g, j * 2 + 1, none⟩ = some (.string p.2)) := fun W j p hb hj => by
  obtain ⟨g, h1, h2, h3, h4⟩ := hl j p hj
  exact ⟨g, h1, (hb.cell (p := ⟨g, j * 2, none⟩) h2).trans h3, (hb.cell (p := ⟨g, j * 2 + 1, none⟩) h2).trans h4⟩
 have HL : Hid (∀ j, j < ex.length → ∃ d, ex[j]? = some d) := fun j hj => ⟨_, List.getElem?_eq_getElem hj⟩
 obtain ⟨n, hn'⟩ : ∃ n, n = ex.length := ⟨_, rfl⟩
 have HN := hidd hn'
 rw [← hn'] at HL hn ⊢
 clear hl hn'
 go_enter Tryz.func59, Tryz.ntmps59
 go_wp2_with fail
 go_loopw [6, 9] (fun _ ix wr => ∃ (j : Nat), j ≤ n ∧ ix = .int .i64 j ∧ Hid (Below w.heap.size w wr ∧ hasE x ex = hasE x (ex.drop j))) (fun _ ix _ => n - (intOf ix).toNat)
 case atStart => exact ⟨0, Nat.zero_le _, rfl, Below.refl _ _, by rw [List.drop_zero]⟩
 obtain ⟨j, hj, rfl, HI⟩ := hrel
 by_cases hlt : j < n
 ·obtain ⟨p, hp⟩ := HL.out j hlt
  obtain ⟨g, rfl, c0, c1⟩ := HP.out wr j p HI.out.1 hp
  have i1 : (0 : Int) ≤ (j : Int) := by omega
  have i2 : (j : Int) < (n : Int) := by omega
  have HD := hidd (hasE_at (x := x) hp)
  have HB : Hid (Below w.heap.size w (wr.alloc (.cells #[.string p.1, .string p.2] 70))) := HI.out.1.trans (((Below.refl _ _).alloc (Nat.le_refl _) _).mono HI.out.1.size)
  clear hp
  by_cases hq : p.1 = x
  ·have m1 : (p.1.toList == x.toList) = true := by rw [hq]; simp
   have HE : Hid (hasE x ex = true) := by show _ = _; rw [HI.out.2, HD.out, decide_eq_true hq, Bool.true_or]
   clear hq
   go_wp2_with fail
   go_ret
   exact ⟨by rw [HE.out]; rfl, HB.out⟩
  have m1 := beqS_ne hq
  have HE : Hid (hasE x ex = hasE x (ex.drop (j + 1))) := by show _ = _; rw [HI.out.2, HD.out, decide_eq_false hq, Bool.false_or]
  clear hq
  go_wp2_with fail
  go_roundw
  case rel => exact ⟨j + 1, hlt, by go_num, HB.out, HE.out⟩
  case measure => simp [intOf]; omega
 obtain rfl : j = n := by omega
 have HE : Hid (hasE x ex = false) := by
  show _ = _
  rw [HI.out.2, List.drop_eq_nil_of_le (by rw [← HN.out]; exact Nat.le_refl _)]
  rfl
 go_wp2_with fail
 go_ret
 exact ⟨by rw [HE.out]; rfl, HI.out.1⟩
theorem export_res {r : List Dat} {s s' : LibS} {j : Nat} {z : Dat} {h t : ByteArray} {e1 e2 e3 : Int} (hx : exportsF r s = (exportF z).bind fun e => if hasE e.1 s'.exports then .no 8 else if s'.exports.length < 200 then exportsF (r.drop (j + 1)) { s' with exports := s'.exports ++ [e] } else .no 5)
 (h1 : e1 = 0 → exportF z = .ok (h, t)) (h2 : e1 ≠ 0 → exportF z = .no e1) (h3 : e2 = (if e1 = 0 then (if hasE h s'.exports then 8 else 0) else e1)) (h4 : e3 = fst1 e2 (if 200 ≤ s'.exports.length then 5 else 0)) :
 (e3 = 0 → exportsF r s = exportsF (r.drop (j + 1)) { s' with exports := s'.exports ++ [(h, t)] } ∧ s'.exports.length < 200) ∧ (e3 ≠ 0 → exportsF r s = .no e3) := by
 by_cases he1 : e1 = 0
 ·rw [h1 he1] at hx
  rw [if_pos he1] at h3
  by_cases hh : hasE h s'.exports = true
  ·rw [if_pos hh] at h3
   subst h3
   rw [fst1_no (by decide)] at h4
   subst h4
   refine ⟨fun h => absurd h (by decide), fun _ => ?_⟩
   rw [hx]
   show (if _ then _ else _) = _
   rw [if_pos hh]
  rw [if_neg hh] at h3
  subst h3
  rw [fst1_zero] at h4
  by_cases hl : 200 ≤ s'.exports.length
  ·rw [if_pos hl] at h4
   subst h4
   refine ⟨fun h => absurd h (by decide), fun _ => ?_⟩
   rw [hx]
   show (if _ then _ else _) = _
   rw [if_neg hh, if_neg (by omega)]
  rw [if_neg hl] at h4
  subst h4
  refine ⟨fun _ => ⟨?_, by omega⟩, fun h => absurd rfl h⟩
  rw [hx]
  show (if _ then _ else _) = _
  rw [if_neg hh, if_pos (by omega)]
 rw [if_neg he1] at h3
 subst h3
 rw [fst1_no he1] at h4
 subst h4
 exact ⟨fun h => absurd h he1, fun _ => by rw [hx, h2 he1]; rfl⟩
theorem setp_far {w : World} {N g : Nat} (h : N ≠ g) (a b : Value) (i : Nat) : ((w.setCell ⟨N, 0, none⟩ a).setCell ⟨N, 1, none⟩ b).cell? ⟨g, i, none⟩ = w.cell? ⟨g, i, none⟩ :=
 (World.cell?_setCell_far _ ⟨N, 1, none⟩ ⟨g, i, none⟩ _ h).trans (World.cell?_setCell_far _ ⟨N, 0, none⟩ ⟨g, i, none⟩ _ h)
theorem export_sym {z : Dat} (h4 : ¬ z.kind = 4) : (wdE z = 0 → exportF z = .ok (wdS z, wdS z)) ∧ (wdE z ≠ 0 → exportF z = .no (wdE z)) := by
 unfold wdE wdS exportF
 by_cases h3 : z.kind = 3
 ·rw [if_pos h3, if_pos h3, if_pos h3]
  exact ⟨fun _ => rfl, fun h => absurd rfl h⟩
 rw [if_neg h3, if_neg h3, if_neg h3]
 refine ⟨fun h => absurd h (by decide), fun _ => ?_⟩
 unfold justF
 rw [if_neg (fun h => h4 h.1)]
 rfl
theorem export_list {z : Dat} {e1 : Int} {l0 : List ByteArray} (h4 : z.kind = 4) (he : e1 = fst1 (needE z 3) (wordsE (needD z 3))) (hl : l0 = (needD z 3).map wdS) :
 (e1 = 0 → l0.length = 3 → l0.getD 0 ⟨#[]⟩ = bRename → exportF z = .ok (l0.getD 2 ⟨#[]⟩, l0.getD 1 ⟨#[]⟩)) ∧ (e1 ≠ 0 → exportF z = .no e1) ∧ (¬ (l0.length = 3 ∧ l0.getD 0 ⟨#[]⟩ = bRename) → exportF z = .no 2 ∧ fst1 e1 2 = 2) := by
 have h3 : ¬ z.kind = 3 := by omega
 have hx : exportF z = (justF z 3).bind fun l => if l.getD 0 ⟨#[]⟩ = bRename then .ok (l.getD 2 ⟨#[]⟩, l.getD 1 ⟨#[]⟩) else .no 2 := by
  unfold exportF
  rw [if_neg h3]
 have h02 : e1 = 0 ∨ e1 = 2 := by
  rcases needE_two z 3 with a | a <;> rcases wordsE_two (needD z 3) with b | b <;> rw [a, b] at he <;> simp [fst1] at he <;> omega
 have hj0 : e1 = 0 → l0.length = 3 → justF z 3 = .ok l0 := fun h0 hl3 => by
  rw [he] at h0
  obtain ⟨ha, hb⟩ := fst1_eq0 h0
  have hk : z.kind = 4 ∧ 3 ≤ z.kids.length := by
   unfold needE at ha
   split at ha
   ·assumption
   exact absurd ha (by decide)
  have hn : needD z 3 = z.kids := if_pos hk
  rw [hn] at hb hl
  have hz : z.kids.length = 3 := by rw [hl, List.length_map] at hl3; exact hl3
  unfold justF
  rw [if_pos ⟨h4, hz⟩, wordsE_ok hb, hl]
 have hjn : e1 ≠ 0 → justF z 3 = .no 2 := fun h0 => by
  unfold justF
  by_cases c : z.kind = 4 ∧ z.kids.length = 3
  ·rw [if_pos c]
   have hk : z.kind = 4 ∧ 3 ≤ z.kids.length := ⟨c.1, by omega⟩
   have hn : needD z 3 = z.kids := if_pos hk
   rw [show needE z 3 = 0 from if_pos hk, fst1_zero, hn] at he
   exact (wordsE_no (by rw [← he]; exact h0)).1
  rw [if_neg c]
 have hjl : e1 = 0 → l0.length ≠ 3 → justF z 3 = .no 2 := fun h0 hl3 => by
  unfold justF
  by_cases c : z.kind = 4 ∧ z.kids.length = 3
  ·have hn : needD z 3 = z.kids := if_pos ⟨c.1, by omega⟩
   rw [hl, hn, List.length_map] at hl3
   exact absurd c.2 hl3
  rw [if_neg c]
 refine ⟨fun h0 hl3 hr => ?_, fun h0 => ?_, fun hno => ⟨?_, ?_⟩⟩
 ·rw [hx, hj0 h0 hl3]
  show (if _ then _ else _) = _
  rw [if_pos hr]
 ·rw [hx, hjn h0]
  rcases h02 with h | h
  ·exact absurd h h0
  rw [h]; rfl
 ·rw [hx]
  by_cases h0 : e1 = 0
  ·by_cases hl3 : l0.length = 3
   ·rw [hj0 h0 hl3]
    show (if _ then _ else _) = _
    rw [if_neg (fun h => hno ⟨hl3, h⟩)]
   rw [hjl h0 hl3]; rfl
  rw [hjn h0]; rfl
 rcases h02 with h | h <;> rw [h] <;> rfl
theorem exportsF_step {ds : List Dat} {j : Nat} {d : Dat} {s : LibS} (h : ds[j]? = some d) : exportsF (ds.drop j) s = (exportF d).bind fun e => if hasE e.1 s.exports then .no 8 else if s.exports.length < 200 then exportsF (ds.drop (j + 1)) { s with exports := s.exports ++ [e] } else .no 5 := by
 obtain ⟨hi, e⟩ := List.getElem?_eq_some_iff.1 h
 rw [List.drop_eq_getElem_cons hi, e, exportsF]
 rfl
end Go.Proofs.YtonafbennobgdaaGreatDoor.R3
