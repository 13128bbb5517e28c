/- Chapter 3: whether a requirement holds. -/
import Derived.Test.YtonafbennobgdaaGreatDoorK02
import Derived.Test.YtonafbennobgdaaGreatDoorK26
namespace Go.Proofs.YtonafbennobgdaaGreatDoor
set_option linter.unusedVariables false
set_option linter.unusedSimpArgs false
open Go.RowKit
set_option maxRecDepth 100000
set_option maxHeartbeats 12800000
structure PV (A pb : Nat) (E : Env) (f1 f2 f3 : Value) (w : World) : Prop where
 hA : A ≤ w.heap.size
 env : EnvM A E f1 f2 f3 w
 q1 : w.cell? ⟨pb, 1, none⟩ = some f2
 q2 : w.cell? ⟨pb, 2, none⟩ = some f3
 lt : pb < w.heap.size
theorem PV.below {A pb : Nat} {E : Env} {f1 f2 f3 : Value} {w w' : World} (h : PV A pb E f1 f2 f3 w) (hb : Below w.heap.size w w') : PV A pb E f1 f2 f3 w' :=
 ⟨Nat.le_trans h.hA hb.size, h.env.below (hb.mono h.hA), (hb.cell (p := ⟨pb, 1, none⟩) h.lt).trans h.q1, (hb.cell (p := ⟨pb, 2, none⟩) h.lt).trans h.q2, Nat.lt_of_lt_of_le h.lt hb.size⟩
def HoldT (A pb : Nat) (E : Env) (f1 f2 f3 : Value) (f : Nat) : Prop := ∀ (d : Dat) (a : Option Addr) (cap : Nat) (w : World), PV A pb E f1 f2 f3 w → Dc (fun k => k < A) w f a d.kids → d.kids.length ≤ cap → okD d →
 Calls Tryz.prog 133 #[.pointer (some ⟨pb, 0, none⟩), dv d a cap] w (ToldE (holdsD E d) (fun b v _ => v = .bool b) w)
theorem form_no {d : Dat} {a : Option Addr} {cap z : Nat} {w : World} (h : ¬ (d.kind = 4 ∧ d.kids ≠ [])) : ∀ W, Below w.heap.size w W → Calls Tryz.prog 53 #[dv d a cap] W fun e w' => Below W.heap.size W w' ∧ e = .panicked (thrownL 2) := fun W _ =>
 form_none d a cap W (by unfold thingsF; rw [if_neg h])
theorem rest_at {A : Nat} {w : World} {f b o cap : Nat} {x : Dat} {r : List Dat} (h : Dc (fun k => k < A) w f (some ⟨b, o, none⟩) (x :: r)) (hc : r.length + 1 ≤ cap) : Dc (fun k => k < A) w f (some ⟨b, if cap = 1 then o else o + 6, none⟩) r := by
 by_cases hc1 : cap = 1
 ·have h0 : r = [] := List.length_eq_zero_iff.1 (by omega)
  subst h0
  exact Dc.nil _ _ _ _
 rw [if_neg hc1]
 exact h.tail
theorem holds_step (A pb : Nat) (E : Env) (f1 f2 f3 : Value) (f : Nat) (IH : ∀ g, f = g + 1 → HoldT A pb E f1 f2 f3 g) : HoldT A pb E f1 f2 f3 f := by
 intro d a cap w hv hd hc ho
 have hdv : dv d a cap = .agg #[.int .i64 d.kind, .int .i64 d.n, .string d.name, .int .i64 d.stamp, .int .i64 d.lib, .slice a d.kids.length cap] := rfl
 by_cases h3 : d.kind = 3
 ·have e : holdsD E d = .ok (hasB d.name E.features) := by cases d; rw [holdsD, if_pos h3]
  rw [e]
  refine (holds_sym d a d.kids.length cap pb f2 f3 w hv.q1 hv.q2 hv.lt h3 (hasB d.name E.features) (fun W hb => ?_)).mono (fun e w' h => ⟨h.1, _, h.2, rfl⟩)
  exact strHas_any _ E.features d.name f2 W (hv.below hb).env.fe hv.env.feL
 by_cases hk : d.kind = 4 ∧ d.kids ≠ []
 case neg =>
  have e : holdsD E d = .no 2 := by
   cases d with
   | mk k n nm st lb ks =>
    rw [holdsD, if_neg h3]
    by_cases h4 : k = 4
    ·rw [if_pos h4]
     have : ks = [] := by
      by_cases h0 : ks = []
      ·exact h0
      exact absurd ⟨h4, h0⟩ hk
     rw [this, holdsK]
    rw [if_neg h4]
  rw [e]
  exact (holds_form_no d a d.kids.length cap pb f2 f3 w hv.q1 hv.q2 hv.lt h3 2 (form_no (z := 0) hk)).mono (fun e w' h => ⟨h.1, h.2⟩)
 case pos =>
 obtain ⟨x, r, hl⟩ := List.exists_cons_of_ne_nil hk.2
 have eK : holdsD E d = holdsK E (x :: r) := by cases d; rw [holdsD, if_neg h3, if_pos hk.1]; exact congrArg _ hl
 obtain ⟨o1, o2⟩ := okD_list ho hk.1
 rw [hl] at o1 o2
 obtain ⟨g, b, o, xa, xc, hg, ha, hx, hxk⟩ := hd.at (i := 0) (d := x) (by rw [hl]; rfl)
 subst ha
 rw [Nat.zero_mul, Nat.add_zero] at hx
 have ox := okL_mem o2 x (by simp)
 have or_ : ∀ y ∈ r, okD y := fun y hy => okL_mem o2 y (by simp [hy])
 have hln : d.kids.length = r.length + 1 := by rw [hl]; simp
 have FS : ∀ W, Below w.heap.size w W → Calls Tryz.prog 53 #[dv d (some ⟨b, o, none⟩) cap] W (ToldE (nameF x) (fun s v _ => v = .tuple #[.string s, .slice (some ⟨b, if cap = 1 then o else o + 6, none⟩) r.length (cap - 1)]) W) := fun W hb => form_some A d x r b o cap xc xa W (Nat.le_trans hv.hA hb.size) hk.1 hl (hx.below (hb.mono hv.hA)) hc (okD_big ox)
 rw [eK, holdsK]
 by_cases hx3 : x.kind = 3
 case neg =>
  rw [if_neg hx3]
  have en : nameF x = .no 2 := by unfold nameF; rw [if_neg hx3]
  rw [en] at FS
  exact (holds_form_no d _ d.kids.length cap pb f2 f3 w hv.q1 hv.q2 hv.lt h3 2 (fun W hb => (FS W hb).mono (fun e w' h => ⟨h.1, h.2⟩))).mono (fun e w' h => ⟨h.1, h.2⟩)
 case pos =>
 rw [if_pos hx3]
 have en : nameF x = .ok x.name := by unfold nameF; rw [if_pos hx3]
 rw [en] at FS
 have HF : ∀ W, Below w.heap.size w W → Calls Tryz.prog 53 #[.agg #[.int .i64 d.kind, .int .i64 d.n, .string d.name, .int .i64 d.stamp, .int .i64 d.lib, .slice (some ⟨b, o, none⟩) d.kids.length cap]] W fun e w' => Below W.heap.size W w' ∧ e = .returned (.tuple #[.string x.name, .slice (some ⟨b, if cap = 1 then o else o + 6, none⟩) r.length (cap - 1)]) := fun W hb => (FS W hb).mono (by rintro e w' ⟨h1, v, rfl, rfl⟩; exact ⟨h1, rfl⟩)
 have HR : ∀ W, Below w.heap.size w W → Dc (fun k => k < A) W f (some ⟨b, if cap = 1 then o else o + 6, none⟩) r := fun W hb => by
  have h := hd.below (hb.mono hv.hA)
  rw [hl] at h
  exact rest_at h (by omega)
 generalize hra : (some (⟨b, if cap = 1 then o else o + 6, none⟩ : Addr)) = ra at HF HR
 have IHx : ∀ y ∈ r, ∀ k a' cap' W, Below w.heap.size w W → f = k + 1 → y.kids.length ≤ cap' → Dc (fun k => k < A) W k a' y.kids → Calls Tryz.prog 133 #[.pointer (some ⟨pb, 0, none⟩), dv y a' cap'] W (ToldE (holdsD E y) (fun b v _ => v = .bool b) W) := fun y hy k a' cap' W hb hf hlk hkk => IH k hf y a' cap' W (hv.below hb) hkk hlk (or_ y hy)
 have ONE : ∀ y, r = [y] → ∃ ya yc k, f = k + 1 ∧ y.kids.length ≤ yc ∧ (∀ W, Below w.heap.size w W → Dc (fun k => k < A) W k ya y.kids) ∧ ∀ W, Below w.heap.size w W → Calls Tryz.prog 144 #[.slice ra r.length (cap - 1)] W fun e w' => Below W.heap.size W w' ∧ e = .returned (dv y ya yc) := fun y hy => by
  obtain ⟨k, b2, o2', ya, yc, hf, hra2, hy2, hyk⟩ := (HR w (Below.refl _ _)).at (i := 0) (d := y) (by rw [hy]; rfl)
  rw [Nat.zero_mul, Nat.add_zero] at hy2
  refine ⟨ya, yc, k, hf, hy2.lk, fun W hb => hyk.below (hb.mono hv.hA), fun W hb => ?_⟩
  rw [hra2, hy]
  exact one_yes A y b2 o2' (cap - 1) yc ya W (Nat.le_trans hv.hA hb.size) (hy2.below (hb.mono hv.hA))
 have NONE : r.length ≠ 1 → ∀ W, Below w.heap.size w W → Calls Tryz.prog 144 #[.slice ra r.length (cap - 1)] W fun e w' => Below W.heap.size W w' ∧ e = .panicked (thrownL 2) := fun h W _ => one_not r.length ra (cap - 1) W h
 by_cases n0 : x.name = bLibrary
 ·rw [if_pos n0]
  by_cases h1 : r.length = 1
  ·obtain ⟨y, rfl⟩ : ∃ y, r = [y] := by
    match r, h1 with
    | [y], _ => exact ⟨y, rfl⟩
   obtain ⟨ya, yc, k, hf, hyl, hyk, HO⟩ := ONE y rfl
   have CA : ∀ W, Below w.heap.size w W → Calls Tryz.prog 55 #[dv y ya yc] W (ToldE (calledF y) (fun s v _ => v = .string s) W) := fun W hb => called_any joinOk A k y ya yc W (Nat.le_trans hv.hA hb.size) (hyk W hb) hyl (or_ y (by simp))
   show Calls _ _ _ _ (ToldE ((calledF y).bind fun n => .ok (hasB n E.libs)) _ w)
   cases hC : calledF y with
   | no z =>
    rw [hC] at CA
    exact (holds_lib_no2 d _ d.kids.length cap pb f2 f3 w hv.q1 hv.q2 hv.lt h3 x.name ra [y].length (cap - 1) HF n0 y ya y.kids.length yc HO z (fun W hb => (CA W hb).mono (fun e w' h => ⟨h.1, h.2⟩))).mono (fun e w' h => ⟨h.1, h.2⟩)
   | ok s =>
    rw [hC] at CA
    exact (holds_lib_ok d _ d.kids.length cap pb f2 f3 w hv.q1 hv.q2 hv.lt h3 x.name ra [y].length (cap - 1) HF n0 y ya y.kids.length yc HO s (fun W hb => (CA W hb).mono (by rintro e w' ⟨h1, v, rfl, rfl⟩; exact ⟨h1, rfl⟩)) (hasB s E.libs) (fun W hb => strHas_any _ E.libs s f3 W (hv.below hb).env.li hv.env.liL)).mono (fun e w' h => ⟨h.1, _, h.2, rfl⟩)
  have e1 : ((oneF r).bind fun x => (calledF x).bind fun n => .ok (hasB n E.libs)) = .no 2 := by rw [oneF_len h1]; rfl
  rw [e1]
  exact (holds_lib_no1 d _ d.kids.length cap pb f2 f3 w hv.q1 hv.q2 hv.lt h3 x.name ra r.length (cap - 1) HF n0 2 (NONE h1)).mono (fun e w' h => ⟨h.1, h.2⟩)
 rw [if_neg n0]
 by_cases n1 : x.name = bNot
 ·rw [if_pos n1]
  by_cases h1 : r.length = 1
  ·obtain ⟨y, rfl⟩ : ∃ y, r = [y] := by
    match r, h1 with
    | [y], _ => exact ⟨y, rfl⟩
   obtain ⟨ya, yc, k, hf, hyl, hyk, HO⟩ := ONE y rfl
   have CA : ∀ W, Below w.heap.size w W → Calls Tryz.prog 133 #[.pointer (some ⟨pb, 0, none⟩), dv y ya yc] W (ToldE (holdsD E y) (fun b v _ => v = .bool b) W) := fun W hb => IHx y (by simp) k ya yc W hb hf hyl (hyk W hb)
   rw [holdsN]
   cases hC : holdsD E y with
   | no z =>
    rw [hC] at CA
    exact (holds_not_no2 d _ d.kids.length cap pb f2 f3 w hv.q1 hv.q2 hv.lt h3 x.name ra [y].length (cap - 1) HF n0 n1 y ya y.kids.length yc HO z (fun W hb => (CA W hb).mono (fun e w' h => ⟨h.1, h.2⟩))).mono (fun e w' h => ⟨h.1, h.2⟩)
   | ok t =>
    rw [hC] at CA
    exact (holds_not_ok d _ d.kids.length cap pb f2 f3 w hv.q1 hv.q2 hv.lt h3 x.name ra [y].length (cap - 1) HF n0 n1 y ya y.kids.length yc HO t (fun W hb => (CA W hb).mono (by rintro e w' ⟨h1, v, rfl, rfl⟩; exact ⟨h1, rfl⟩))).mono (fun e w' h => ⟨h.1, _, h.2, rfl⟩)
  have e1 : holdsN E r = .no 2 := by
   match r, h1 with
   | [], _ => rw [holdsN]
   | [y], h => exact absurd rfl h
   | _ :: _ :: _, _ => rw [holdsN]
  rw [e1]
  exact (holds_not_no1 d _ d.kids.length cap pb f2 f3 w hv.q1 hv.q2 hv.lt h3 x.name ra r.length (cap - 1) HF n0 n1 2 (NONE h1)).mono (fun e w' h => ⟨h.1, h.2⟩)
 rw [if_neg n1]
 have hrl : r.length ≤ 2000 := by simp at o1; omega
 by_cases n2 : x.name = bAnd
 ·rw [if_pos n2, holdsA_any]
  have M : ∀ W, Below w.heap.size w W → W.cell? ⟨w.heap.size, 0, none⟩ = some (.pointer (some ⟨pb, 0, none⟩)) → Calls Tryz.prog 149 #[.slice ra r.length (cap - 1), .func (.func 150) #[] #[.pointer (some ⟨w.heap.size, 0, none⟩)]] W (ToldE (anyF (fun x => (holdsD E x).bind fun b => .ok (!b)) r) (fun b v _ => v = .bool b) W) := fun W hb hq =>
   datHas_150 _ ra r.length (cap - 1) w.heap.size W (datIndex_150 _ A f r ra (cap - 1) w.heap.size W (Nat.le_trans hv.hA hb.size) (HR W hb) hrl (fun y hy k a' cap' W' hb' hf hlk hkk => clos_150 (holdsD E y) y a' cap' w.heap.size pb W' ((hb'.cell (p := ⟨w.heap.size, 0, none⟩) (World.block_lt_of_cell? _ _ hq)).trans hq) (Nat.lt_of_lt_of_le (World.block_lt_of_cell? _ _ hq) hb'.size) (fun W2 hb2 => IHx y hy k a' cap' W2 ((hb.trans (hb'.mono hb.size)).trans (hb2.mono (Nat.le_trans hb.size hb'.size))) hf hlk (hkk.below (hb2.mono (Nat.le_trans hv.hA (Nat.le_trans hb.size hb'.size)))))))
  cases hM : anyF (fun x => (holdsD E x).bind fun b => .ok (!b)) r with
  | no z =>
   rw [hM] at M
   exact (holds_many150_no d _ d.kids.length cap pb f2 f3 w hv.q1 hv.q2 hv.lt h3 x.name ra r.length (cap - 1) HF n0 n1 n2 z (fun W hb hq => (M W hb hq).mono (fun e w' h => ⟨h.1, h.2⟩))).mono (fun e w' h => ⟨h.1, h.2⟩)
  | ok t =>
   rw [hM] at M
   exact (holds_many150_ok d _ d.kids.length cap pb f2 f3 w hv.q1 hv.q2 hv.lt h3 x.name ra r.length (cap - 1) HF n0 n1 n2 t (fun W hb hq => (M W hb hq).mono (by rintro e w' ⟨h1, v, rfl, rfl⟩; exact ⟨h1, rfl⟩))).mono (fun e w' h => ⟨h.1, _, h.2, rfl⟩)
 rw [if_neg n2]
 by_cases n3 : x.name = bOr
 ·rw [if_pos n3, holdsO_any]
  have M : ∀ W, Below w.heap.size w W → W.cell? ⟨w.heap.size, 0, none⟩ = some (.pointer (some ⟨pb, 0, none⟩)) → Calls Tryz.prog 149 #[.slice ra r.length (cap - 1), .func (.func 151) #[] #[.pointer (some ⟨w.heap.size, 0, none⟩)]] W (ToldE (anyF (holdsD E) r) (fun b v _ => v = .bool b) W) := fun W hb hq =>
   datHas_151 _ ra r.length (cap - 1) w.heap.size W (datIndex_151 _ A f r ra (cap - 1) w.heap.size W (Nat.le_trans hv.hA hb.size) (HR W hb) hrl (fun y hy k a' cap' W' hb' hf hlk hkk => by
    have h := clos_151 (holdsD E y) y a' cap' w.heap.size pb W' ((hb'.cell (p := ⟨w.heap.size, 0, none⟩) (World.block_lt_of_cell? _ _ hq)).trans hq) (Nat.lt_of_lt_of_le (World.block_lt_of_cell? _ _ hq) hb'.size) (fun W2 hb2 => IHx y hy k a' cap' W2 ((hb.trans (hb'.mono hb.size)).trans (hb2.mono (Nat.le_trans hb.size hb'.size))) hf hlk (hkk.below (hb2.mono (Nat.le_trans hv.hA (Nat.le_trans hb.size hb'.size)))))
    rwa [Er.bind_ok] at h))
  cases hM : anyF (holdsD E) r with
  | no z =>
   rw [hM] at M
   exact (holds_many151_no d _ d.kids.length cap pb f2 f3 w hv.q1 hv.q2 hv.lt h3 x.name ra r.length (cap - 1) HF n0 n1 n2 n3 z (fun W hb hq => (M W hb hq).mono (fun e w' h => ⟨h.1, h.2⟩))).mono (fun e w' h => ⟨h.1, h.2⟩)
  | ok t =>
   rw [hM] at M
   exact (holds_many151_ok d _ d.kids.length cap pb f2 f3 w hv.q1 hv.q2 hv.lt h3 x.name ra r.length (cap - 1) HF n0 n1 n2 n3 t (fun W hb hq => (M W hb hq).mono (by rintro e w' ⟨h1, v, rfl, rfl⟩; exact ⟨h1, rfl⟩))).mono (fun e w' h => ⟨h.1, _, h.2, rfl⟩)
 rw [if_neg n3]
 exact (holds_else d _ d.kids.length cap pb f2 f3 w hv.q1 hv.q2 hv.lt h3 x.name ra r.length (cap - 1) HF n0 n1 n2 n3).mono (fun e w' h => ⟨h.1, h.2⟩)
theorem holds_any (A pb : Nat) (E : Env) (f1 f2 f3 : Value) : ∀ (f : Nat), HoldT A pb E f1 f2 f3 f
 | 0 => holds_step A pb E f1 f2 f3 0 (fun g h => absurd h (by omega))
 | f + 1 => holds_step A pb E f1 f2 f3 (f + 1) (fun g h => by
  obtain rfl : f = g := by omega
  exact holds_any A pb E f1 f2 f3 f)
def clauseL (E : Env) : List Dat → (List Dat → Er (List Dat)) → Er (List Dat)
 | [], _ => .no 2
 | h :: t, k => (clauseF E h).bind fun b => if b then .ok t else k t
def takenF (E : Env) : List Dat → Er (List Dat)
 | [] => .ok []
 | c :: r => (thingsF c).bind fun l => clauseL E l fun _ => takenF E r
theorem declC_taken (E : Env) : ∀ (l : List Dat) (s : LibS), declC E l s = (takenF E l).bind fun t => declL E t s
 | [], s => by
  rw [declC]
  show _ = declL E [] s
  rw [declL]
 | c :: r, s => by
  rw [declC]
  have hr : (fun s' => declC E r s') = fun s' => (takenF E r).bind fun t => declL E t s' := funext fun s' => declC_taken E r s'
  rw [hr]
  show _ = ((thingsF c).bind fun l => clauseL E l fun _ => takenF E r).bind fun t => declL E t s
  cases c with
  | mk k n nm st lb ks =>
   rw [declB]
   unfold thingsF
   by_cases h4 : k = 4
   ·rw [if_pos h4]
    cases ks with
    | nil => rw [declT, if_neg (by simp)]; rfl
    | cons h t =>
     rw [declT, if_pos ⟨h4, by simp⟩]
     show _ = ((clauseF E h).bind fun b => if b then .ok t else takenF E r).bind fun t => declL E t s
     cases clauseF E h with
     | no z => rfl
     | ok b => cases b <;> rfl
   rw [if_neg h4, if_neg (fun h => h4 h.1)]; rfl
theorem takenF_at {E : Env} {l : List Dat} {j : Nat} {c : Dat} (h : l[j]? = some c) (hl : takenF E l = takenF E (l.drop j)) : takenF E l = (thingsF c).bind fun k => clauseL E k fun _ => takenF E (l.drop (j + 1)) := by
 obtain ⟨hi, e⟩ := List.getElem?_eq_some_iff.1 h
 rw [hl, List.drop_eq_getElem_cons hi, e]
 rfl
def DecV (A f : Nat) (t : List Dat) (v : Value) (w : World) : Prop := ∃ ta tc g, g ≤ f - 1 ∧ v = .slice ta t.length tc ∧ t.length ≤ tc ∧ Dc (fun k => k < A) w g ta t ∧ okL t ∧ t.length ≤ 2000
set_option maxRecDepth 100000 in
set_option maxHeartbeats 12800000 in
theorem taken_any (A pb f : Nat) (E : Env) (f1 f2 f3 : Value) (ds : List Dat) (a : Option Addr) (cap : Nat) (w : World) (hv : PV A pb E f1 f2 f3 w) (hd : Dc (fun k => k < A) w f a ds) (hn : ds.length ≤ 2000) (hc : ds.length ≤ cap) (ho : okL ds) :
 Calls Tryz.prog 111 #[.pointer (some ⟨pb, 0, none⟩), .slice a ds.length cap] w (ToldE (takenF E ds) (fun t v w' => DecV A f t v w') w) := by
 have HD : Hid (∀ W j d, Below w.heap.size w W → ds[j]? = some d → ∃ b o a' cap' g, a = some ⟨b, o, none⟩ ∧ f = g + 1 ∧ DAt (fun k => k < A) W b (o + j * 6) d a' cap' ∧ Dc (fun k => k < A) W g a' d.kids) := fun W j d hb hj => by
  obtain ⟨g, b, o, a', cap', h0, h1, h2, h3⟩ := hd.at hj
  exact ⟨b, o, a', cap', g, h1, h0, h2.below (hb.mono hv.hA), h3.below (hb.mono hv.hA)⟩
 have HO : Hid (∀ d ∈ ds, okD d) := okL_mem ho
 have HL : Hid (∀ j, j < ds.length → ∃ d, ds[j]? = some d) := fun j hj => ⟨_, List.getElem?_eq_getElem hj⟩
 obtain ⟨n, hn'⟩ : ∃ n, n = ds.length := ⟨_, rfl⟩
 have HN := hidd hn'
 rw [← hn'] at hn hc HL ⊢
 have HV := hidd hv
 clear hv hd ho hn'
 go_enter Tryz.func111, Tryz.ntmps111
 go_wp2_with fail
 go_loopw [6, 7, 10] (fun _ _ ix wr => ∃ (j : Nat), j ≤ n ∧ ix = .int .i64 j ∧ Hid (Below w.heap.size w wr ∧ takenF E ds = takenF E (ds.drop j))) (fun _ _ ix _ => n - (intOf ix).toNat)
 case atStart => exact ⟨0, Nat.zero_le _, rfl, Below.refl _ _, by rw [List.drop_zero]⟩
 obtain ⟨j, hj, rfl, HI⟩ := hrel
 by_cases hlt : j < n
 rotate_left
 ·obtain rfl : j = n := by omega
  have HE : Hid (takenF E ds = .ok []) := by
   show _ = _
   rw [HI.out.2, List.drop_eq_nil_of_le (by rw [← HN.out]; exact Nat.le_refl _)]
   rfl
  go_wp2_with fail
  go_ret
  refine ⟨HI.out.1, ?_⟩
  rw [HE.out]
  exact ⟨_, rfl, none, 0, 0, Nat.zero_le _, rfl, Nat.le_refl _, rfl, by rw [okL]; trivial, Nat.zero_le _⟩
 obtain ⟨d, hdj⟩ := HL.out j hlt
 obtain ⟨b, o, a', cap', g0, rfl, hf0, hA, hK⟩ := HD.out wr j d HI.out.1 hdj
 obtain ⟨_, c0, c1, c2, c3, c4, c5, hnm, hlk⟩ := hA
 have i1 : (0 : Int) ≤ (j : Int) := by omega
 have i2 : (j : Int) < (n : Int) := by omega
 have hb1 : Below wr.heap.size wr (wr.alloc (.cells #[.int .i64 d.kind, .int .i64 d.n, .string d.name, .int .i64 d.stamp, .int .i64 d.lib, .slice a' d.kids.length cap'] 26)) := (Below.refl _ _).alloc (Nat.le_refl _) _
 have HB1 := hidd hb1
 have hvr := HV.out.below HI.out.1
 have hst := takenF_at hdj HI.out.2
 have hod := HO.out d (List.mem_of_getElem? hdj)
 have TH0 := things_any d a' cap'
 by_cases hk : d.kind = 4 ∧ d.kids ≠ []
 case neg =>
  have et : thingsF d = .no 2 := by unfold thingsF; rw [if_neg hk]
  rw [et] at hst TH0
  have HST : Hid (takenF E ds = .no 2) := hst
  have TH : Hid (∀ W, Calls Tryz.prog 77 #[.agg #[.int .i64 d.kind, .int .i64 d.n, .string d.name, .int .i64 d.stamp, .int .i64 d.lib, .slice a' d.kids.length cap']] W fun e w' => Below W.heap.size W w' ∧ e = .panicked (thrownL 2)) := TH0
  clear hst TH0 et hk hod hK hdj hvr hb1 hlk hnm
  generalize d.kids.length = kn at *
  go_wp2_with fail
  refine (TH.out _).mono ?_
  rintro e w2 ⟨hb2, rfl⟩
  have HB2 : Hid (Below w.heap.size w w2) := HI.out.1.trans ((HB1.out.trans (hb2.mono HB1.out.size)).mono HI.out.1.size)
  clear hb2
  go_wp2_with fail
  refine ⟨rfl, HB2.out, ?_⟩
  rw [HST.out]
 case pos =>
  have et : thingsF d = .ok d.kids := by unfold thingsF; rw [if_pos hk]
  obtain ⟨x, r, hl⟩ := List.exists_cons_of_ne_nil hk.2
  rw [et] at hst TH0
  have TH : Hid (∀ W, Calls Tryz.prog 77 #[.agg #[.int .i64 d.kind, .int .i64 d.n, .string d.name, .int .i64 d.stamp, .int .i64 d.lib, .slice a' d.kids.length cap']] W fun e w' => Below W.heap.size W w' ∧ e = .returned (.slice a' d.kids.length cap')) := fun W => (TH0 W).mono (by rintro e w' ⟨h1, v, rfl, rfl, _⟩; exact ⟨h1, rfl⟩)
  obtain ⟨o1, o2⟩ := okD_list hod hk.1
  rw [hl] at o1 o2
  obtain ⟨g1, b1, q1, xa, xc, hg1, ha1, hx, hxk⟩ := hK.at (i := 0) (d := x) (by rw [hl]; rfl)
  subst ha1
  rw [Nat.zero_mul, Nat.add_zero] at hx
  have hx1 := hx
  have hln : d.kids.length = r.length + 1 := by rw [hl]; simp
  have HREST : Hid (∀ W, Below wr.heap.size wr W → Dc (fun k => k < A) W g0 (some ⟨b1, if cap' = 1 then q1 else q1 + 6, none⟩) r ∧ okL r ∧ r.length ≤ 2000 ∧ r.length ≤ cap' - 1) := fun W hb => by
   have h := hK.below (hb.mono hvr.hA)
   rw [hl] at h
   rw [okL] at o2
   exact ⟨rest_at h (by omega), o2.2, by simp at o1; omega, by omega⟩
  have HX : Hid (∀ W, Below wr.heap.size wr W → DAt (fun k => k < A) W b1 q1 x xa xc) := fun W hb => hx.below (hb.mono hvr.hA)
  have ox := okL_mem o2 x (by simp)
  have HH : Hid (∀ W, Below wr.heap.size wr W → Calls Tryz.prog 133 #[.pointer (some ⟨pb, 0, none⟩), dv x xa xc] W (ToldE (holdsD E x) (fun b v _ => v = .bool b) W)) := fun W hb => holds_any A pb E f1 f2 f3 g1 x xa xc W (hvr.below hb) (hxk.below (hb.mono hvr.hA)) hx.lk ox
  have IW := hidd (fun W => isWord_any x xa xc bElse W)
  rw [hl] at hst
  have HST0 : Hid (takenF E ds = (clauseF E x).bind fun t => if t then .ok r else takenF E (ds.drop (j + 1))) := hst
  obtain ⟨kn, hkn⟩ : ∃ kn, kn = d.kids.length := ⟨_, rfl⟩
  rw [← hkn] at c5 TH HB1 hlk hln
  have k1 : 1 ≤ kn := by omega
  have k2 : (0 : Int) < (kn : Int) := by omega
  have k3 : (1 : Int) ≤ (kn : Int) := by omega
  have k4 : (kn : Int) ≤ (cap' : Int) := by omega
  have k5 : kn ≤ cap' := hlk
  have HLN : Hid (r.length = kn - 1) := by show _ = _; omega
  clear hst TH0 et hk hod hK hdj hb1 hnm hl o1 o2 hx hx1 hxk ox hkn hln hlk hvr hg1
  unfold dv bElse at *
  obtain ⟨xn, hxn⟩ : ∃ xn, xn = x.kids.length := ⟨_, rfl⟩
  go_wp2_with fail
  refine (TH.out _).mono ?_
  rintro e w2 ⟨hb2, rfl⟩
  have HB2 : Hid (Below wr.heap.size wr w2) := HB1.out.trans (hb2.mono HB1.out.size)
  obtain ⟨_, d0, d1, d2, d3, d4, d5, _, _⟩ := HX.out w2 HB2.out
  clear hb2 TH
  rw [← hxn] at d5 IW HH
  have HXN := hidd hxn
  clear hxn
  by_cases he : x.kind = 3 ∧ x.name = ⟨#[101, 108, 115, 101]⟩
  ·rw [decide_eq_true he] at IW
   have HST : Hid (takenF E ds = .ok r) := by
    show _ = _
    rw [HST0.out]
    unfold clauseF
    rw [if_pos (show x.kind = 3 ∧ x.name = bElse from he)]
    rfl
   clear he HST0 HH
   go_wp2_with fail
   refine (IW.out _).mono ?_
   rintro e w3 ⟨rfl, hb3⟩
   have HB3 : Hid (Below wr.heap.size wr w3) := HB2.out.trans (hb3.mono HB2.out.size)
   clear hb3 d0 d1 d2 d3 d4 d5
   by_cases hcap : cap' = 1
   ·subst hcap
    go_wp2_with fail
    go_ret
    refine ⟨HI.out.1.trans (HB3.out.mono HI.out.1.size), ?_⟩
    rw [HST.out]
    obtain ⟨z1, z2, z3, z4⟩ := HREST.out w3 HB3.out
    have hr0 : r.length = 0 := by have := HLN.out; omega
    exact ⟨_, rfl, some ⟨b1, q1, none⟩, 0, g0, by omega, by rw [hr0]; rfl, by omega, by simpa using z1, z2, z3⟩
   go_wp2_with fail
   go_ret
   refine ⟨HI.out.1.trans (HB3.out.mono HI.out.1.size), ?_⟩
   rw [HST.out]
   obtain ⟨z1, z2, z3, z4⟩ := HREST.out w3 HB3.out
   rw [if_neg hcap] at z1
   exact ⟨_, rfl, some ⟨b1, q1 + 6, none⟩, cap' - 1, g0, by omega, by rw [HLN.out]; rfl, z4, z1, z2, z3⟩
  rw [decide_eq_false he] at IW
  have HST1 : Hid (takenF E ds = (holdsD E x).bind fun t => if t then .ok r else takenF E (ds.drop (j + 1))) := by
   show _ = _
   rw [HST0.out]
   unfold clauseF
   rw [if_neg (show ¬ (x.kind = 3 ∧ x.name = bElse) from he)]
  clear he HST0
  go_wp2_with fail
  refine (IW.out _).mono ?_
  rintro e w3 ⟨rfl, hb3⟩
  have HB3 : Hid (Below wr.heap.size wr w3) := HB2.out.trans (hb3.mono HB2.out.size)
  have hx3 := HX.out w3 HB3.out
  obtain ⟨_, e0, e1, e2, e3, e4, e5, _, _⟩ := hx3
  rw [← HXN.out] at e5
  clear hb3 d0 d1 d2 d3 d4 d5
  have HH3 := HH.out w3 HB3.out
  clear HH
  cases hH : holdsD E x with
  | no z =>
   rw [hH] at HH3 HST1
   have HC : Hid (Calls Tryz.prog 133 #[.pointer (some ⟨pb, 0, none⟩), .agg #[.int .i64 x.kind, .int .i64 x.n, .string x.name, .int .i64 x.stamp, .int .i64 x.lib, .slice xa xn xc]] w3 fun e w' => Below w3.heap.size w3 w' ∧ e = .panicked (thrownL z)) := HH3
   have HST : Hid (takenF E ds = .no z) := HST1.out
   clear HH3 HST1 hH
   go_wp2_with fail
   refine HC.out.mono ?_
   rintro e w4 ⟨hb4, rfl⟩
   have HB4 : Hid (Below w.heap.size w w4) := HI.out.1.trans ((HB3.out.trans (hb4.mono HB3.out.size)).mono HI.out.1.size)
   clear hb4
   go_wp2_with fail
   refine ⟨rfl, HB4.out, ?_⟩
   rw [HST.out]
  | ok t =>
   rw [hH] at HH3 HST1
   have HC : Hid (Calls Tryz.prog 133 #[.pointer (some ⟨pb, 0, none⟩), .agg #[.int .i64 x.kind, .int .i64 x.n, .string x.name, .int .i64 x.stamp, .int .i64 x.lib, .slice xa xn xc]] w3 fun e w' => Below w3.heap.size w3 w' ∧ ∃ v, e = .returned v ∧ v = .bool t) := HH3
   cases t with
   | true =>
    have HST : Hid (takenF E ds = .ok r) := HST1.out
    clear HH3 HST1 hH
    go_wp2_with fail
    refine HC.out.mono ?_
    rintro e w4 ⟨hb4, v, rfl, rfl⟩
    have HB4 : Hid (Below wr.heap.size wr w4) := HB3.out.trans (hb4.mono HB3.out.size)
    clear hb4 e0 e1 e2 e3 e4 e5 HC
    by_cases hcap : cap' = 1
    ·subst hcap
     go_wp2_with fail
     go_ret
     refine ⟨HI.out.1.trans (HB4.out.mono HI.out.1.size), ?_⟩
     rw [HST.out]
     obtain ⟨z1, z2, z3, z4⟩ := HREST.out w4 HB4.out
     have hr0 : r.length = 0 := by have := HLN.out; omega
     exact ⟨_, rfl, some ⟨b1, q1, none⟩, 0, g0, by omega, by rw [hr0]; rfl, by omega, by simpa using z1, z2, z3⟩
    go_wp2_with fail
    go_ret
    refine ⟨HI.out.1.trans (HB4.out.mono HI.out.1.size), ?_⟩
    rw [HST.out]
    obtain ⟨z1, z2, z3, z4⟩ := HREST.out w4 HB4.out
    rw [if_neg hcap] at z1
    exact ⟨_, rfl, some ⟨b1, q1 + 6, none⟩, cap' - 1, g0, by omega, by rw [HLN.out]; rfl, z4, z1, z2, z3⟩
   | false =>
    have HST : Hid (takenF E ds = takenF E (ds.drop (j + 1))) := HST1.out
    clear HH3 HST1 hH
    go_wp2_with fail
    refine HC.out.mono ?_
    rintro e w4 ⟨hb4, v, rfl, rfl⟩
    have HB4 : Hid (Below w.heap.size w w4) := HI.out.1.trans ((HB3.out.trans (hb4.mono HB3.out.size)).mono HI.out.1.size)
    clear hb4 e0 e1 e2 e3 e4 e5 HC
    go_wp2_with fail
    go_roundw
    case rel => exact ⟨j + 1, hlt, by go_num, HB4.out, HST.out⟩
    case measure => simp [intOf]; omega
structure Inv (s : LibS) : Prop where
 e : s.exports.length ≤ 200
 i : s.imports.length ≤ 20
 b : s.body.length ≤ 200
theorem exportsF_inv : ∀ (a : List Dat) (s s' : LibS), Inv s → exportsF a s = .ok s' → Inv s' ∧ s'.name = s.name
 | [], s, s', hi, h => by rw [exportsF] at h; cases h; exact ⟨hi, rfl⟩
 | d :: r, s, s', hi, h => by
  rw [exportsF] at h
  cases he : exportF d with
  | no x => rw [he] at h; cases h
  | ok e =>
   rw [he] at h
   simp only [Er.bind] at h
   split at h
   ·cases h
   split at h
   ·rename_i hl
    have := exportsF_inv r { s with exports := s.exports ++ [e] } s' ⟨by simp; omega, hi.i, hi.b⟩ h
    exact ⟨this.1, this.2⟩
   cases h
theorem importsF_inv : ∀ (a : List Dat) (s s' : LibS), Inv s → importsF a s = .ok s' → Inv s' ∧ s'.name = s.name
 | [], s, s', hi, h => by rw [importsF] at h; cases h; exact ⟨hi, rfl⟩
 | d :: r, s, s', hi, h => by
  rw [importsF] at h
  split at h
  ·rename_i hl
   cases he : setF 12 d with
   | no x => rw [he] at h; cases h
   | ok e =>
    rw [he] at h
    have := importsF_inv r { s with imports := s.imports ++ [e] } s' ⟨hi.e, by simp; omega, hi.b⟩ h
    exact ⟨this.1, this.2⟩
  cases h
theorem addF_inv {l : List Dat} {s s' : LibS} (hi : Inv s) (h : addF l s = .ok s') : Inv s' ∧ s'.name = s.name := by
 unfold addF at h
 split at h
 ·rename_i hl
  cases h
  exact ⟨⟨hi.e, hi.i, by simp; omega⟩, rfl⟩
 cases h
theorem includeF_inv (E : Env) : ∀ (a : List Dat) (s s' : LibS), Inv s → includeF E a s = .ok s' → Inv s' ∧ s'.name = s.name
 | [], s, s', hi, h => by rw [includeF] at h; cases h; exact ⟨hi, rfl⟩
 | d :: r, s, s', hi, h => by
  rw [includeF] at h
  cases he : nameF d with
  | no x => rw [he] at h; cases h
  | ok n =>
   rw [he] at h
   simp only [Er.bind] at h
   split at h
   ·cases h
   split at h
   ·cases h
   rename_i ds _
   cases ha : addF ds s with
   | no x => rw [ha] at h; cases h
   | ok s2 =>
    rw [ha] at h
    obtain ⟨i1, n1⟩ := addF_inv hi ha
    obtain ⟨i2, n2⟩ := includeF_inv E r s2 s' i1 h
    exact ⟨i2, n2.trans n1⟩
mutual
theorem declD_inv (E : Env) : ∀ (d : Dat) (s s' : LibS), Inv s → declD E d s = .ok s' → Inv s' ∧ s'.name = s.name
 | ⟨k, n, nm, st, lb, ks⟩, s, s', hi, h => by
  rw [declD] at h
  split at h
  ·exact declK_inv E ks s s' hi h
  cases h
theorem declK_inv (E : Env) : ∀ (l : List Dat) (s s' : LibS), Inv s → declK E l s = .ok s' → Inv s' ∧ s'.name = s.name
 | [], s, s', hi, h => by rw [declK] at h; cases h
 | x :: r, s, s', hi, h => by
  have hC := declC_inv E r s s' hi
  rw [declK] at h
  split at h
  ·split at h
   ·split at h
    ·cases h
    exact exportsF_inv r s s' hi h
   split at h
   ·exact importsF_inv r s s' hi h
   split at h
   ·exact addF_inv hi h
   split at h
   ·exact includeF_inv E r s s' hi h
   split at h
   ·exact hC h
   cases h
  cases h
theorem declL_inv (E : Env) : ∀ (l : List Dat) (s s' : LibS), Inv s → declL E l s = .ok s' → Inv s' ∧ s'.name = s.name
 | [], s, s', hi, h => by rw [declL] at h; cases h; exact ⟨hi, rfl⟩
 | d :: r, s, s', hi, h => by
  rw [declL] at h
  cases hd : declD E d s with
  | no x => rw [hd] at h; cases h
  | ok s2 =>
   rw [hd] at h
   obtain ⟨i1, n1⟩ := declD_inv E d s s2 hi hd
   obtain ⟨i2, n2⟩ := declL_inv E r s2 s' i1 h
   exact ⟨i2, n2.trans n1⟩
theorem declC_inv (E : Env) : ∀ (l : List Dat) (s s' : LibS), Inv s → declC E l s = .ok s' → Inv s' ∧ s'.name = s.name
 | [], s, s', hi, h => by rw [declC] at h; cases h; exact ⟨hi, rfl⟩
 | c :: r, s, s', hi, h => by
  rw [declC] at h
  exact declB_inv E c _ (fun s s' hi h => declC_inv E r s s' hi h) s s' hi h
theorem declB_inv (E : Env) : ∀ (d : Dat) (k : LibS → Er LibS) (hk : ∀ s s', Inv s → k s = .ok s' → Inv s' ∧ s'.name = s.name) (s s' : LibS), Inv s → declB E d k s = .ok s' → Inv s' ∧ s'.name = s.name
 | ⟨k0, n, nm, st, lb, ks⟩, k, hk, s, s', hi, h => by
  rw [declB] at h
  split at h
  ·exact declT_inv E ks k hk s s' hi h
  cases h
theorem declT_inv (E : Env) : ∀ (l : List Dat) (k : LibS → Er LibS) (hk : ∀ s s', Inv s → k s = .ok s' → Inv s' ∧ s'.name = s.name) (s s' : LibS), Inv s → declT E l k s = .ok s' → Inv s' ∧ s'.name = s.name
 | [], k, hk, s, s', hi, h => by rw [declT] at h; cases h
 | x :: t, k, hk, s, s', hi, h => by
  have h1 := declL_inv E t s s' hi
  rw [declT] at h
  cases hc : clauseF E x with
  | no z => rw [hc] at h; cases h
  | ok b =>
   rw [hc] at h
   cases b with
   | true => exact h1 h
   | false => exact hk s s' hi h
end
structure GoS (A B pb : Nat) (E : Env) (f1 f2 f3 : Value) (s : LibS) (w : World) : Prop where
 ps : PS B pb f1 f2 f3 s w
 env : EnvM A E f1 f2 f3 w
 tab : TabW w
 hA : A ≤ B
 h0 : 0 < A
 inv : Inv s
theorem GoS.pv {A B pb : Nat} {E : Env} {f1 f2 f3 : Value} {s : LibS} {w : World} (h : GoS A B pb E f1 f2 f3 s w) : PV A pb E f1 f2 f3 w := by
 obtain ⟨is, es, ev, iv, bv, h1, _⟩ := h.ps
 exact ⟨Nat.le_trans h.hA h1.hs, h.env, (cellO h1.blk).trans rfl, (cellO h1.blk).trans rfl, (Array.getElem?_eq_some_iff.1 h1.blk).1⟩
theorem GoS.to {A B pb : Nat} {E : Env} {f1 f2 f3 : Value} {s s' : LibS} {w w' : World} (h : GoS A B pb E f1 f2 f3 s w) (hb : Below B w w') (hp : PS B pb f1 f2 f3 s' w') (hi : Inv s') : GoS A B pb E f1 f2 f3 s' w' :=
 ⟨hp, h.env.below (hb.mono h.hA), h.tab.below hb (Nat.lt_of_lt_of_le h.h0 h.hA), h.hA, h.h0, hi⟩
theorem GoS.below {A B pb : Nat} {E : Env} {f1 f2 f3 : Value} {s : LibS} {w w' : World} (h : GoS A B pb E f1 f2 f3 s w) (hb : Below w.heap.size w w') : GoS A B pb E f1 f2 f3 s w' :=
 h.to (hb.mono h.ps.hs) (h.ps.below hb) h.inv
theorem decl_form_no (B pb : Nat) (f1 f2 f3 : Value) (r : Er LibS) (d : Dat) (a : Option Addr) (kn cap : Nat) (w : World) (hB : B ≤ w.heap.size) (hr : r = .no 2) (HF0 : ∀ W, Below w.heap.size w W → Calls Tryz.prog 53 #[.agg #[.int .i64 d.kind, .int .i64 d.n, .string d.name, .int .i64 d.stamp, .int .i64 d.lib, .slice a kn cap]] W fun e w' => Below W.heap.size W w' ∧ e = .panicked (thrownL 2)) :
 Calls Tryz.prog 81 #[.pointer (some ⟨pb, 0, none⟩), .agg #[.int .i64 d.kind, .int .i64 d.n, .string d.name, .int .i64 d.stamp, .int .i64 d.lib, .slice a kn cap]] w (ToldP B pb f1 f2 f3 r w) := by
 have HB : Hid (Below w.heap.size w (w.alloc (.cells #[.int .i64 d.kind, .int .i64 d.n, .string d.name, .int .i64 d.stamp, .int .i64 d.lib, .slice a kn cap] 26))) := (Below.refl _ _).alloc (Nat.le_refl _) _
 have HHB := hidd hB
 clear hB
 have HF := hidd HF0
 have HR := hidd hr
 clear HF0 hr
 go_enter Tryz.func81, Tryz.ntmps81
 go_wp2_with fail
 refine (HF.out _ HB.out).mono ?_
 rintro e w1 ⟨hb1, rfl⟩
 have HB1 : Hid (Below w.heap.size w w1) := HB.out.trans (hb1.mono HB.out.size)
 clear hb1 HF
 go_wp2_with fail
 refine ⟨rfl, HB1.out.bt HHB.out, ?_⟩
 rw [HR.out]
theorem decl_else (B pb : Nat) (f1 f2 f3 : Value) (r : Er LibS) (d : Dat) (a : Option Addr) (kn cap : Nat) (w : World) (hB : B ≤ w.heap.size) (hr : r = .no 2) (nm : ByteArray) (ra : Option Addr) (rn rc : Nat) (HF0 : ∀ W, Below w.heap.size w W → Calls Tryz.prog 53 #[.agg #[.int .i64 d.kind, .int .i64 d.n, .string d.name, .int .i64 d.stamp, .int .i64 d.lib, .slice a kn cap]] W fun e w' => Below W.heap.size W w' ∧ e = .returned (.tuple #[.string nm, .slice ra rn rc])) (hn0 : ¬ nm = bExport) (hn1 : ¬ nm = bImport) (hn2 : ¬ nm = bBegin) (hn3 : ¬ nm = bInclude) (hn4 : ¬ nm = bCond) :
 Calls Tryz.prog 81 #[.pointer (some ⟨pb, 0, none⟩), .agg #[.int .i64 d.kind, .int .i64 d.n, .string d.name, .int .i64 d.stamp, .int .i64 d.lib, .slice a kn cap]] w (ToldP B pb f1 f2 f3 r w) := by
 have HB : Hid (Below w.heap.size w (w.alloc (.cells #[.int .i64 d.kind, .int .i64 d.n, .string d.name, .int .i64 d.stamp, .int .i64 d.lib, .slice a kn cap] 26))) := (Below.refl _ _).alloc (Nat.le_refl _) _
 have HHB := hidd hB
 clear hB
 have k0 : (nm.toList == bExport.toList) = false := beqS_ne hn0
 unfold bExport at k0
 have m0 : (nm.toList == [101, 120, 112, 111, 114, 116]) = false := by simpa using k0
 have k1 : (nm.toList == bImport.toList) = false := beqS_ne hn1
 unfold bImport at k1
 have m1 : (nm.toList == [105, 109, 112, 111, 114, 116]) = false := by simpa using k1
 have k2 : (nm.toList == bBegin.toList) = false := beqS_ne hn2
 unfold bBegin at k2
 have m2 : (nm.toList == [98, 101, 103, 105, 110]) = false := by simpa using k2
 have k3 : (nm.toList == bInclude.toList) = false := beqS_ne hn3
 unfold bInclude at k3
 have m3 : (nm.toList == [105, 110, 99, 108, 117, 100, 101]) = false := by simpa using k3
 have k4 : (nm.toList == bCond.toList) = false := beqS_ne hn4
 unfold bCond at k4
 have m4 : (nm.toList == [99, 111, 110, 100, 45, 101, 120, 112, 97, 110, 100]) = false := by simpa using k4
 clear hn0 hn1 hn2 hn3 hn4
 have HF := hidd HF0
 have HR := hidd hr
 clear HF0 hr
 go_enter Tryz.func81, Tryz.ntmps81
 go_wp2_with fail
 refine (HF.out _ HB.out).mono ?_
 rintro e w1 ⟨hb1, rfl⟩
 have HB1 : Hid (Below w.heap.size w w1) := HB.out.trans (hb1.mono HB.out.size)
 clear hb1 HF
 go_wp2_with fail
 refine ⟨rfl, HB1.out.bt HHB.out, ?_⟩
 rw [HR.out]
 exact rfl
theorem decl_export (B pb : Nat) (f1 f2 f3 : Value) (r : Er LibS) (d : Dat) (a : Option Addr) (kn cap : Nat) (w : World) (hB : B ≤ w.heap.size) (nm : ByteArray) (ra : Option Addr) (rn rc : Nat) (HF0 : ∀ W, Below w.heap.size w W → Calls Tryz.prog 53 #[.agg #[.int .i64 d.kind, .int .i64 d.n, .string d.name, .int .i64 d.stamp, .int .i64 d.lib, .slice a kn cap]] W fun e w' => Below W.heap.size W w' ∧ e = .returned (.tuple #[.string nm, .slice ra rn rc])) (hn : nm = bExport) (HE0 : ∀ W, Below w.heap.size w W → Calls Tryz.prog 107 #[.pointer (some ⟨pb, 0, none⟩), .slice ra rn rc] W (ToldP B pb f1 f2 f3 r W)) :
 Calls Tryz.prog 81 #[.pointer (some ⟨pb, 0, none⟩), .agg #[.int .i64 d.kind, .int .i64 d.n, .string d.name, .int .i64 d.stamp, .int .i64 d.lib, .slice a kn cap]] w (ToldP B pb f1 f2 f3 r w) := by
 have HB : Hid (Below w.heap.size w (w.alloc (.cells #[.int .i64 d.kind, .int .i64 d.n, .string d.name, .int .i64 d.stamp, .int .i64 d.lib, .slice a kn cap] 26))) := (Below.refl _ _).alloc (Nat.le_refl _) _
 have HHB := hidd hB
 clear hB
 have ke : (nm.toList == bExport.toList) = true := by rw [hn]; simp
 unfold bExport at ke
 have me : (nm.toList == [101, 120, 112, 111, 114, 116]) = true := by simpa using ke
 clear hn
 have HF := hidd HF0
 have HE := hidd HE0
 clear HF0 HE0
 go_enter Tryz.func81, Tryz.ntmps81
 go_wp2_with fail
 refine (HF.out _ HB.out).mono ?_
 rintro e w1 ⟨hb1, rfl⟩
 have HB1 : Hid (Below w.heap.size w w1) := HB.out.trans (hb1.mono HB.out.size)
 clear hb1 HF
 go_wp2_with fail
 refine (HE.out _ HB1.out).mono ?_
 rintro e wz ⟨hb2, hr⟩
 have HBZ : Hid (BT B w wz) := (HB1.out.bt HHB.out).trans hb2
 clear hb2 HE
 cases r with
 | no x =>
  have hr' : e = .panicked (thrownL x) := hr
  subst hr'
  clear hr
  go_wp2_with fail
  exact ⟨rfl, HBZ.out, rfl⟩
 | ok s =>
  have hr' : e = .returned (.tuple #[]) ∧ PS B pb f1 f2 f3 s wz := hr
  obtain ⟨rfl, hp⟩ := hr'
  have HP := hidd hp
  clear hr hp
  go_wp2_with fail
  go_end0
  exact ⟨HBZ.out, rfl, HP.out⟩
theorem decl_import (B pb : Nat) (f1 f2 f3 : Value) (r : Er LibS) (d : Dat) (a : Option Addr) (kn cap : Nat) (w : World) (hB : B ≤ w.heap.size) (nm : ByteArray) (ra : Option Addr) (rn rc : Nat) (HF0 : ∀ W, Below w.heap.size w W → Calls Tryz.prog 53 #[.agg #[.int .i64 d.kind, .int .i64 d.n, .string d.name, .int .i64 d.stamp, .int .i64 d.lib, .slice a kn cap]] W fun e w' => Below W.heap.size W w' ∧ e = .returned (.tuple #[.string nm, .slice ra rn rc])) (hn0 : ¬ nm = bExport) (hn : nm = bImport) (HE0 : ∀ W, Below w.heap.size w W → Calls Tryz.prog 108 #[.pointer (some ⟨pb, 0, none⟩), .slice ra rn rc] W (ToldP B pb f1 f2 f3 r W)) :
 Calls Tryz.prog 81 #[.pointer (some ⟨pb, 0, none⟩), .agg #[.int .i64 d.kind, .int .i64 d.n, .string d.name, .int .i64 d.stamp, .int .i64 d.lib, .slice a kn cap]] w (ToldP B pb f1 f2 f3 r w) := by
 have HB : Hid (Below w.heap.size w (w.alloc (.cells #[.int .i64 d.kind, .int .i64 d.n, .string d.name, .int .i64 d.stamp, .int .i64 d.lib, .slice a kn cap] 26))) := (Below.refl _ _).alloc (Nat.le_refl _) _
 have HHB := hidd hB
 clear hB
 have k0 : (nm.toList == bExport.toList) = false := beqS_ne hn0
 unfold bExport at k0
 have m0 : (nm.toList == [101, 120, 112, 111, 114, 116]) = false := by simpa using k0
 have ke : (nm.toList == bImport.toList) = true := by rw [hn]; simp
 unfold bImport at ke
 have me : (nm.toList == [105, 109, 112, 111, 114, 116]) = true := by simpa using ke
 clear hn0 hn
 have HF := hidd HF0
 have HE := hidd HE0
 clear HF0 HE0
 go_enter Tryz.func81, Tryz.ntmps81
 go_wp2_with fail
 refine (HF.out _ HB.out).mono ?_
 rintro e w1 ⟨hb1, rfl⟩
 have HB1 : Hid (Below w.heap.size w w1) := HB.out.trans (hb1.mono HB.out.size)
 clear hb1 HF
 go_wp2_with fail
 refine (HE.out _ HB1.out).mono ?_
 rintro e wz ⟨hb2, hr⟩
 have HBZ : Hid (BT B w wz) := (HB1.out.bt HHB.out).trans hb2
 clear hb2 HE
 cases r with
 | no x =>
  have hr' : e = .panicked (thrownL x) := hr
  subst hr'
  clear hr
  go_wp2_with fail
  exact ⟨rfl, HBZ.out, rfl⟩
 | ok s =>
  have hr' : e = .returned (.tuple #[]) ∧ PS B pb f1 f2 f3 s wz := hr
  obtain ⟨rfl, hp⟩ := hr'
  have HP := hidd hp
  clear hr hp
  go_wp2_with fail
  go_end0
  exact ⟨HBZ.out, rfl, HP.out⟩
theorem decl_include (B pb : Nat) (f1 f2 f3 : Value) (r : Er LibS) (d : Dat) (a : Option Addr) (kn cap : Nat) (w : World) (hB : B ≤ w.heap.size) (nm : ByteArray) (ra : Option Addr) (rn rc : Nat) (HF0 : ∀ W, Below w.heap.size w W → Calls Tryz.prog 53 #[.agg #[.int .i64 d.kind, .int .i64 d.n, .string d.name, .int .i64 d.stamp, .int .i64 d.lib, .slice a kn cap]] W fun e w' => Below W.heap.size W w' ∧ e = .returned (.tuple #[.string nm, .slice ra rn rc])) (hn0 : ¬ nm = bExport) (hn1 : ¬ nm = bImport) (hn2 : ¬ nm = bBegin) (hn : nm = bInclude) (HE0 : ∀ W, Below w.heap.size w W → Calls Tryz.prog 110 #[.pointer (some ⟨pb, 0, none⟩), .slice ra rn rc] W (ToldP B pb f1 f2 f3 r W)) :
 Calls Tryz.prog 81 #[.pointer (some ⟨pb, 0, none⟩), .agg #[.int .i64 d.kind, .int .i64 d.n, .string d.name, .int .i64 d.stamp, .int .i64 d.lib, .slice a kn cap]] w (ToldP B pb f1 f2 f3 r w) := by
 have HB : Hid (Below w.heap.size w (w.alloc (.cells #[.int .i64 d.kind, .int .i64 d.n, .string d.name, .int .i64 d.stamp, .int .i64 d.lib, .slice a kn cap] 26))) := (Below.refl _ _).alloc (Nat.le_refl _) _
 have HHB := hidd hB
 clear hB
 have k0 : (nm.toList == bExport.toList) = false := beqS_ne hn0
 unfold bExport at k0
 have m0 : (nm.toList == [101, 120, 112, 111, 114, 116]) = false := by simpa using k0
 have k1 : (nm.toList == bImport.toList) = false := beqS_ne hn1
 unfold bImport at k1
 have m1 : (nm.toList == [105, 109, 112, 111, 114, 116]) = false := by simpa using k1
 have k2 : (nm.toList == bBegin.toList) = false := beqS_ne hn2
 unfold bBegin at k2
 have m2 : (nm.toList == [98, 101, 103, 105, 110]) = false := by simpa using k2
 have ke : (nm.toList == bInclude.toList) = true := by rw [hn]; simp
 unfold bInclude at ke
 have me : (nm.toList == [105, 110, 99, 108, 117, 100, 101]) = true := by simpa using ke
 clear hn0 hn1 hn2 hn
 have HF := hidd HF0
 have HE := hidd HE0
 clear HF0 HE0
 go_enter Tryz.func81, Tryz.ntmps81
 go_wp2_with fail
 refine (HF.out _ HB.out).mono ?_
 rintro e w1 ⟨hb1, rfl⟩
 have HB1 : Hid (Below w.heap.size w w1) := HB.out.trans (hb1.mono HB.out.size)
 clear hb1 HF
 go_wp2_with fail
 refine (HE.out _ HB1.out).mono ?_
 rintro e wz ⟨hb2, hr⟩
 have HBZ : Hid (BT B w wz) := (HB1.out.bt HHB.out).trans hb2
 clear hb2 HE
 cases r with
 | no x =>
  have hr' : e = .panicked (thrownL x) := hr
  subst hr'
  clear hr
  go_wp2_with fail
  exact ⟨rfl, HBZ.out, rfl⟩
 | ok s =>
  have hr' : e = .returned (.tuple #[]) ∧ PS B pb f1 f2 f3 s wz := hr
  obtain ⟨rfl, hp⟩ := hr'
  have HP := hidd hp
  clear hr hp
  go_wp2_with fail
  go_end0
  exact ⟨HBZ.out, rfl, HP.out⟩
theorem decl_begin (B pb : Nat) (f1 f2 f3 : Value) (r : Er LibS) (d : Dat) (a : Option Addr) (kn cap : Nat) (w : World) (hB : B ≤ w.heap.size) (nm : ByteArray) (ra : Option Addr) (rn rc : Nat) (HF0 : ∀ W, Below w.heap.size w W → Calls Tryz.prog 53 #[.agg #[.int .i64 d.kind, .int .i64 d.n, .string d.name, .int .i64 d.stamp, .int .i64 d.lib, .slice a kn cap]] W fun e w' => Below W.heap.size W w' ∧ e = .returned (.tuple #[.string nm, .slice ra rn rc])) (hn0 : ¬ nm = bExport) (hn1 : ¬ nm = bImport) (hn : nm = bBegin) (HC0 : ∀ W, Below w.heap.size w W → Calls Tryz.prog 88 #[.slice ra rn rc] W fun e w' => Below w.heap.size w w' ∧ ∃ v, e = .returned v ∧ Calls Tryz.prog 109 #[.pointer (some ⟨pb, 0, none⟩), v] w' (ToldP B pb f1 f2 f3 r w')) :
 Calls Tryz.prog 81 #[.pointer (some ⟨pb, 0, none⟩), .agg #[.int .i64 d.kind, .int .i64 d.n, .string d.name, .int .i64 d.stamp, .int .i64 d.lib, .slice a kn cap]] w (ToldP B pb f1 f2 f3 r w) := by
 have HB : Hid (Below w.heap.size w (w.alloc (.cells #[.int .i64 d.kind, .int .i64 d.n, .string d.name, .int .i64 d.stamp, .int .i64 d.lib, .slice a kn cap] 26))) := (Below.refl _ _).alloc (Nat.le_refl _) _
 have HHB := hidd hB
 clear hB
 have k0 : (nm.toList == bExport.toList) = false := beqS_ne hn0
 unfold bExport at k0
 have m0 : (nm.toList == [101, 120, 112, 111, 114, 116]) = false := by simpa using k0
 have k1 : (nm.toList == bImport.toList) = false := beqS_ne hn1
 unfold bImport at k1
 have m1 : (nm.toList == [105, 109, 112, 111, 114, 116]) = false := by simpa using k1
 have ke : (nm.toList == bBegin.toList) = true := by rw [hn]; simp
 unfold bBegin at ke
 have me : (nm.toList == [98, 101, 103, 105, 110]) = true := by simpa using ke
 clear hn0 hn1 hn
 have HF := hidd HF0
 have HC := hidd HC0
 clear HF0 HC0
 go_enter Tryz.func81, Tryz.ntmps81
 go_wp2_with fail
 refine (HF.out _ HB.out).mono ?_
 rintro e w1 ⟨hb1, rfl⟩
 have HB1 : Hid (Below w.heap.size w w1) := HB.out.trans (hb1.mono HB.out.size)
 clear hb1 HF
 go_wp2_with fail
 refine (HC.out _ HB1.out).mono ?_
 rintro e w2 ⟨hb2, v, rfl, had⟩
 have HB2 := hidd hb2
 have HA := hidd had
 clear hb2 had HC
 go_wp2_with fail
 refine HA.out.mono ?_
 rintro e wz ⟨hb3, hr⟩
 have HBZ : Hid (BT B w wz) := (HB2.out.bt HHB.out).trans hb3
 clear hb3 HA
 cases r with
 | no x =>
  have hr' : e = .panicked (thrownL x) := hr
  subst hr'
  clear hr
  go_wp2_with fail
  exact ⟨rfl, HBZ.out, rfl⟩
 | ok s =>
  have hr' : e = .returned (.tuple #[]) ∧ PS B pb f1 f2 f3 s wz := hr
  obtain ⟨rfl, hp⟩ := hr'
  have HP := hidd hp
  clear hr hp
  go_wp2_with fail
  go_end0
  exact ⟨HBZ.out, rfl, HP.out⟩
theorem decl_cond (B pb : Nat) (f1 f2 f3 : Value) (r : Er LibS) (d : Dat) (a : Option Addr) (kn cap : Nat) (w : World) (hB : B ≤ w.heap.size) (nm : ByteArray) (ra : Option Addr) (rn rc : Nat) (HF0 : ∀ W, Below w.heap.size w W → Calls Tryz.prog 53 #[.agg #[.int .i64 d.kind, .int .i64 d.n, .string d.name, .int .i64 d.stamp, .int .i64 d.lib, .slice a kn cap]] W fun e w' => Below W.heap.size W w' ∧ e = .returned (.tuple #[.string nm, .slice ra rn rc])) (hn0 : ¬ nm = bExport) (hn1 : ¬ nm = bImport) (hn2 : ¬ nm = bBegin) (hn3 : ¬ nm = bInclude) (hn : nm = bCond) (HT0 : ∀ W, Below w.heap.size w W → Calls Tryz.prog 111 #[.pointer (some ⟨pb, 0, none⟩), .slice ra rn rc] W fun e w' => Below w.heap.size w w' ∧ ((∃ x, e = .panicked (thrownL x) ∧ r = .no x) ∨ ∃ v, e = .returned v ∧ Calls Tryz.prog 56 #[.pointer (some ⟨pb, 0, none⟩), v] w' (ToldP B pb f1 f2 f3 r w'))) :
 Calls Tryz.prog 81 #[.pointer (some ⟨pb, 0, none⟩), .agg #[.int .i64 d.kind, .int .i64 d.n, .string d.name, .int .i64 d.stamp, .int .i64 d.lib, .slice a kn cap]] w (ToldP B pb f1 f2 f3 r w) := by
 have HB : Hid (Below w.heap.size w (w.alloc (.cells #[.int .i64 d.kind, .int .i64 d.n, .string d.name, .int .i64 d.stamp, .int .i64 d.lib, .slice a kn cap] 26))) := (Below.refl _ _).alloc (Nat.le_refl _) _
 have HHB := hidd hB
 clear hB
 have k0 : (nm.toList == bExport.toList) = false := beqS_ne hn0
 unfold bExport at k0
 have m0 : (nm.toList == [101, 120, 112, 111, 114, 116]) = false := by simpa using k0
 have k1 : (nm.toList == bImport.toList) = false := beqS_ne hn1
 unfold bImport at k1
 have m1 : (nm.toList == [105, 109, 112, 111, 114, 116]) = false := by simpa using k1
 have k2 : (nm.toList == bBegin.toList) = false := beqS_ne hn2
 unfold bBegin at k2
 have m2 : (nm.toList == [98, 101, 103, 105, 110]) = false := by simpa using k2
 have k3 : (nm.toList == bInclude.toList) = false := beqS_ne hn3
 unfold bInclude at k3
 have m3 : (nm.toList == [105, 110, 99, 108, 117, 100, 101]) = false := by simpa using k3
 have ke : (nm.toList == bCond.toList) = true := by rw [hn]; simp
 unfold bCond at ke
 have me : (nm.toList == [99, 111, 110, 100, 45, 101, 120, 112, 97, 110, 100]) = true := by simpa using ke
 clear hn0 hn1 hn2 hn3 hn
 have HF := hidd HF0
 have HT := hidd HT0
 clear HF0 HT0
 go_enter Tryz.func81, Tryz.ntmps81
 go_wp2_with fail
 refine (HF.out _ HB.out).mono ?_
 rintro e w1 ⟨hb1, rfl⟩
 have HB1 : Hid (Below w.heap.size w w1) := HB.out.trans (hb1.mono HB.out.size)
 clear hb1 HF
 go_wp2_with fail
 refine (HT.out _ HB1.out).mono ?_
 rintro e w2 ⟨hb2, hx⟩
 have HB2 := hidd hb2
 clear hb2 HT
 rcases hx with ⟨x, rfl, rfl⟩ | ⟨v, rfl, had⟩
 ·go_wp2_with fail
  exact ⟨rfl, HB2.out.bt HHB.out, rfl⟩
 have HA := hidd had
 clear had
 go_wp2_with fail
 refine HA.out.mono ?_
 rintro e wz ⟨hb3, hr⟩
 have HBZ : Hid (BT B w wz) := (HB2.out.bt HHB.out).trans hb3
 clear hb3 HA
 cases r with
 | no x =>
  have hr' : e = .panicked (thrownL x) := hr
  subst hr'
  clear hr
  go_wp2_with fail
  exact ⟨rfl, HBZ.out, rfl⟩
 | ok s =>
  have hr' : e = .returned (.tuple #[]) ∧ PS B pb f1 f2 f3 s wz := hr
  obtain ⟨rfl, hp⟩ := hr'
  have HP := hidd hp
  clear hr hp
  go_wp2_with fail
  go_end0
  exact ⟨HBZ.out, rfl, HP.out⟩
theorem declL_at {E : Env} {ds : List Dat} {j : Nat} {d : Dat} {s s' : LibS} (h : ds[j]? = some d) (hl : declL E ds s = declL E (ds.drop j) s') : declL E ds s = (declD E d s').bind fun s2 => declL E (ds.drop (j + 1)) s2 := by
 obtain ⟨hi, e⟩ := List.getElem?_eq_some_iff.1 h
 rw [hl, List.drop_eq_getElem_cons hi, e, declL]
theorem decls_over (A B pb f : Nat) (E : Env) (f1 f2 f3 : Value) (s : LibS) (ds : List Dat) (a : Option Addr) (cap : Nat) (w : World) (hg : GoS A B pb E f1 f2 f3 s w) (hd : Dc (fun k => k < A) w f a ds) (hn : ds.length ≤ 2000) (hc : ds.length ≤ cap)
 (HC0 : ∀ d ∈ ds, ∀ g a' cap' s' W, f = g + 1 → GoS A B pb E f1 f2 f3 s' W → d.kids.length ≤ cap' → Dc (fun k => k < A) W g a' d.kids → Calls Tryz.prog 81 #[.pointer (some ⟨pb, 0, none⟩), dv d a' cap'] W (ToldP B pb f1 f2 f3 (declD E d s') W)) :
 Calls Tryz.prog 56 #[.pointer (some ⟨pb, 0, none⟩), .slice a ds.length cap] w (ToldP B pb f1 f2 f3 (declL E ds s) w) := by
 have HD : Hid (∀ W j d, Below B w W → ds[j]? = some d → ∃ b o a' cap' g, a = some ⟨b, o, none⟩ ∧ f = g + 1 ∧ DAt (fun k => k < A) W b (o + j * 6) d a' cap' ∧ Dc (fun k => k < A) W g a' d.kids) := fun W j d hb hj => by
  obtain ⟨g, b, o, a', cap', h0, h1, h2, h3⟩ := hd.at hj
  exact ⟨b, o, a', cap', g, h1, h0, h2.below (hb.mono hg.hA), h3.below (hb.mono hg.hA)⟩
 have HCO := hidd HC0
 have HL : Hid (∀ j, j < ds.length → ∃ d, ds[j]? = some d) := fun j hj => ⟨_, List.getElem?_eq_getElem hj⟩
 obtain ⟨n, hn'⟩ : ∃ n, n = ds.length := ⟨_, rfl⟩
 have HN := hidd hn'
 rw [← hn'] at hn hc HL ⊢
 have HG := hidd hg
 clear hd hn' hg HC0
 go_enter Tryz.func56, Tryz.ntmps56
 go_wp2_with fail
 go_loopw [5, 8] (fun _ ix wr => ∃ (j : Nat) (s' : LibS), j ≤ n ∧ ix = .int .i64 j ∧ Hid (BT B w wr ∧ GoS A B pb E f1 f2 f3 s' wr ∧ declL E ds s = declL E (ds.drop j) s')) (fun _ ix _ => n - (intOf ix).toNat)
 case atStart => exact ⟨0, s, Nat.zero_le _, rfl, BT.refl _ _, HG.out, by rw [List.drop_zero]⟩
 obtain ⟨j, s', hj, rfl, HR⟩ := hrel
 by_cases hlt : j < n
 rotate_left
 ·obtain rfl : j = n := by omega
  have HE : Hid (declL E ds s = .ok s') := by
   show _ = _
   rw [HR.out.2.2, List.drop_eq_nil_of_le (by rw [← HN.out]; exact Nat.le_refl _), declL]
  go_wp2_with fail
  go_end0
  refine ⟨HR.out.1, ?_⟩
  rw [HE.out]
  exact ⟨rfl, HR.out.2.1.ps⟩
 obtain ⟨d, hdj⟩ := HL.out j hlt
 obtain ⟨b, o, a', cap', g0, rfl, hf0, hA, hK⟩ := HD.out wr j d HR.out.1.toBelow hdj
 obtain ⟨_, c0, c1, c2, c3, c4, c5, hnm, hlk⟩ := hA
 have i1 : (0 : Int) ≤ (j : Int) := by omega
 have i2 : (j : Int) < (n : Int) := by omega
 have hb1 : Below wr.heap.size wr (wr.alloc (.cells #[.int .i64 d.kind, .int .i64 d.n, .string d.name, .int .i64 d.stamp, .int .i64 d.lib, .slice a' d.kids.length cap'] 26)) := (Below.refl _ _).alloc (Nat.le_refl _) _
 have CO := hidd (HCO.out d (List.mem_of_getElem? hdj) g0 a' cap' s' _ hf0 (HR.out.2.1.below hb1) hlk (hK.below (hb1.mono (Nat.le_trans HR.out.2.1.hA HR.out.2.1.ps.hs))))
 have HB1 : Hid (BT B w (wr.alloc (.cells #[.int .i64 d.kind, .int .i64 d.n, .string d.name, .int .i64 d.stamp, .int .i64 d.lib, .slice a' d.kids.length cap'] 26))) := HR.out.1.trans (hb1.bt HR.out.2.1.ps.hs)
 have hst := declL_at hdj HR.out.2.2
 have HG1 := hidd (HR.out.2.1.below hb1)
 have HIV := hidd (fun s2 h => declD_inv E d s' s2 HR.out.2.1.inv h)
 unfold dv at CO
 clear hdj hK hf0 hlk hnm hb1
 generalize d.kids.length = kn at *
 have HST := hidd hst
 clear hst
 generalize declD E d s' = r at *
 go_wp2_with fail
 refine CO.out.mono ?_
 rintro e w2 ⟨hb2, hr⟩
 have HB2 : Hid (BT B w w2) := HB1.out.trans hb2
 cases r with
 | no x =>
  have hr' : e = .panicked (thrownL x) := hr
  subst hr'
  have HST2 : Hid (declL E ds s = .no x) := HST.out
  clear hr hb2 HST
  go_wp2_with fail
  refine ⟨rfl, HB2.out, ?_⟩
  rw [HST2.out]
 | ok s2 =>
  have hr' : e = .returned (.tuple #[]) ∧ PS B pb f1 f2 f3 s2 w2 := hr
  obtain ⟨rfl, hp⟩ := hr'
  have HF : Hid (GoS A B pb E f1 f2 f3 s2 w2 ∧ declL E ds s = declL E (ds.drop (j + 1)) s2) := ⟨HG1.out.to hb2.toBelow hp (HIV.out s2 rfl).1, HST.out⟩
  clear hr hb2 hp HST
  go_wp2_with fail
  go_roundw
  case rel => exact ⟨j + 1, s2, hlt, by go_num, HB2.out, HF.out.1, HF.out.2⟩
  case measure => simp [intOf]; omega
theorem exports_none (B pb : Nat) (f1 f2 f3 : Value) (s : LibS) (n : Nat) (a : Option Addr) (cap : Nat) (w : World) (hp : PS B pb f1 f2 f3 s w) (hs : s.name = ⟨#[]⟩) :
 Calls Tryz.prog 107 #[.pointer (some ⟨pb, 0, none⟩), .slice a n cap] w (ToldP B pb f1 f2 f3 (.no 2) w) := by
 have HP := hidd hp
 obtain ⟨is, es, ev, iv, bv, h1, _⟩ := hp
 have c3 : w.cell? ⟨pb, 3, none⟩ = some (.string s.name) := (cellO h1.blk).trans rfl
 rw [hs] at c3
 have HX := hidd must_no
 clear h1 hs
 go_enter Tryz.func107, Tryz.ntmps107
 go_wp2_with fail
 refine (HX.out _ _).mono ?_
 rintro e w1 ⟨rfl, rfl⟩
 go_wp2_with fail
 exact ⟨rfl, BT.refl _ _, rfl⟩
def DeclT (A B pb : Nat) (E : Env) (f1 f2 f3 : Value) (f : Nat) : Prop := ∀ (d : Dat) (a : Option Addr) (cap : Nat) (s : LibS) (w : World), GoS A B pb E f1 f2 f3 s w → Dc (fun k => k < A) w f a d.kids → d.kids.length ≤ cap → okD d →
 Calls Tryz.prog 81 #[.pointer (some ⟨pb, 0, none⟩), dv d a cap] w (ToldP B pb f1 f2 f3 (declD E d s) w)
def DeclsT (A B pb : Nat) (E : Env) (f1 f2 f3 : Value) (f : Nat) : Prop := ∀ (ds : List Dat) (a : Option Addr) (cap : Nat) (s : LibS) (w : World), GoS A B pb E f1 f2 f3 s w → Dc (fun k => k < A) w f a ds → ds.length ≤ 2000 → ds.length ≤ cap → okL ds →
 Calls Tryz.prog 56 #[.pointer (some ⟨pb, 0, none⟩), .slice a ds.length cap] w (ToldP B pb f1 f2 f3 (declL E ds s) w)
theorem decls_step (A B pb : Nat) (E : Env) (f1 f2 f3 : Value) (f : Nat) (IH : ∀ g, g < f → DeclT A B pb E f1 f2 f3 g) : DeclsT A B pb E f1 f2 f3 f := by
 intro ds a cap s w hg hd hn hc ho
 exact decls_over A B pb f E f1 f2 f3 s ds a cap w hg hd hn hc (fun d hdm g a' cap' s' W hf hg' hlk hk => IH g (by omega) d a' cap' s' W hg' hk hlk (okL_mem ho d hdm))
theorem decl_gen (A B pb : Nat) (E : Env) (f1 f2 f3 : Value) (f : Nat) (d : Dat) (a : Option Addr) (cap : Nat) (s : LibS) (w : World) (hg : GoS A B pb E f1 f2 f3 s w) (hd : Dc (fun k => k < A) w f a d.kids) (hc : d.kids.length ≤ cap) (ho : okD d)
 (HI : ∀ (r : List Dat) (ra : Option Addr) (W : World), (∃ x, d.kids = x :: r ∧ x.name = bImport) → Below w.heap.size w W → Dc (fun k => k < A) W f ra r → r.length ≤ 2000 → r.length ≤ cap - 1 → okL r → Calls Tryz.prog 108 #[.pointer (some ⟨pb, 0, none⟩), .slice ra r.length (cap - 1)] W (ToldP B pb f1 f2 f3 (importsF r s) W))
 (HC : ∀ (r : List Dat) (ra : Option Addr) (W : World), (∃ x, d.kids = x :: r ∧ x.name = bCond) → Below w.heap.size w W → Dc (fun k => k < A) W f ra r → r.length ≤ 2000 → r.length ≤ cap - 1 → okL r → Calls Tryz.prog 111 #[.pointer (some ⟨pb, 0, none⟩), .slice ra r.length (cap - 1)] W fun e w' => Below w.heap.size w w' ∧ ((∃ x, e = .panicked (thrownL x) ∧ declC E r s = .no x) ∨ ∃ v, e = .returned v ∧ Calls Tryz.prog 56 #[.pointer (some ⟨pb, 0, none⟩), v] w' (ToldP B pb f1 f2 f3 (declC E r s) w'))) :
 Calls Tryz.prog 81 #[.pointer (some ⟨pb, 0, none⟩), dv d a cap] w (ToldP B pb f1 f2 f3 (declD E d s) w) := by
 have hB := hg.ps.hs
 have hA := hg.pv.hA
 show Calls Tryz.prog 81 #[.pointer (some ⟨pb, 0, none⟩), .agg #[.int .i64 d.kind, .int .i64 d.n, .string d.name, .int .i64 d.stamp, .int .i64 d.lib, .slice a d.kids.length cap]] w _
 by_cases hk : d.kind = 4 ∧ d.kids ≠ []
 case neg =>
  have e : declD E d s = .no 2 := by
   cases d with
   | mk k n nm st lb ks =>
    rw [declD]
    by_cases h4 : k = 4
    ·rw [if_pos h4]
     have : ks = [] := by
      by_cases h0 : ks = []
      ·exact h0
      exact absurd ⟨h4, h0⟩ hk
     rw [this, declK]
    rw [if_neg h4]
  exact decl_form_no B pb f1 f2 f3 _ d a d.kids.length cap w hB e (form_no (z := 0) hk)
 case pos =>
 obtain ⟨x, r, hl⟩ := List.exists_cons_of_ne_nil hk.2
 have eK : declD E d s = declK E (x :: r) s := by cases d; rw [declD, if_pos hk.1]; exact congrArg (fun l => declK E l s) hl
 obtain ⟨o1, o2⟩ := okD_list ho hk.1
 rw [hl] at o1 o2
 obtain ⟨g, b, o, xa, xc, hgf, ha, hx, hxk⟩ := hd.at (i := 0) (d := x) (by rw [hl]; rfl)
 subst ha
 rw [Nat.zero_mul, Nat.add_zero] at hx
 have ox := okL_mem o2 x (by simp)
 have or_ : okL r := by rw [okL] at o2; exact o2.2
 have hln : d.kids.length = r.length + 1 := by rw [hl]; simp
 have FS : ∀ W, Below w.heap.size w W → Calls Tryz.prog 53 #[dv d (some ⟨b, o, none⟩) cap] W (ToldE (nameF x) (fun s v _ => v = .tuple #[.string s, .slice (some ⟨b, if cap = 1 then o else o + 6, none⟩) r.length (cap - 1)]) W) := fun W hb => form_some A d x r b o cap xc xa W (Nat.le_trans hA hb.size) hk.1 hl (hx.below (hb.mono hA)) hc (okD_big ox)
 rw [eK, declK]
 by_cases hx3 : x.kind = 3
 case neg =>
  rw [if_neg hx3]
  have en : nameF x = .no 2 := by unfold nameF; rw [if_neg hx3]
  rw [en] at FS
  exact decl_form_no B pb f1 f2 f3 _ d _ d.kids.length cap w hB rfl (fun W hb => (FS W hb).mono (fun e w' h => ⟨h.1, h.2⟩))
 case pos =>
 rw [if_pos hx3]
 have en : nameF x = .ok x.name := by unfold nameF; rw [if_pos hx3]
 rw [en] at FS
 have HF : ∀ W, Below w.heap.size w W → Calls Tryz.prog 53 #[.agg #[.int .i64 d.kind, .int .i64 d.n, .string d.name, .int .i64 d.stamp, .int .i64 d.lib, .slice (some ⟨b, o, none⟩) d.kids.length cap]] W fun e w' => Below W.heap.size W w' ∧ e = .returned (.tuple #[.string x.name, .slice (some ⟨b, if cap = 1 then o else o + 6, none⟩) r.length (cap - 1)]) := fun W hb => (FS W hb).mono (by rintro e w' ⟨h1, v, rfl, rfl⟩; exact ⟨h1, rfl⟩)
 have HR : ∀ W, Below w.heap.size w W → Dc (fun k => k < A) W f (some ⟨b, if cap = 1 then o else o + 6, none⟩) r := fun W hb => by
  have h := hd.below (hb.mono hA)
  rw [hl] at h
  exact rest_at h (by omega)
 generalize hra : (some (⟨b, if cap = 1 then o else o + 6, none⟩ : Addr)) = ra at HF HR
 have hrl : r.length ≤ 2000 := by simp at o1; omega
 have hrc : r.length ≤ cap - 1 := by omega
 by_cases n0 : x.name = bExport
 ·rw [if_pos n0]
  refine decl_export B pb f1 f2 f3 _ d _ d.kids.length cap w hB x.name ra r.length (cap - 1) HF n0 (fun W hb => ?_)
  by_cases hs : s.name = ⟨#[]⟩
  ·rw [if_pos hs]
   exact exports_none B pb f1 f2 f3 s r.length ra (cap - 1) W (hg.ps.below hb) hs
  rw [if_neg hs]
  exact exports_any A B pb f f1 f2 f3 s r ra (cap - 1) W hg.hA (hg.ps.below hb) (HR W hb) hrl hrc or_ hs hg.inv.e
 rw [if_neg n0]
 by_cases n1 : x.name = bImport
 ·rw [if_pos n1]
  exact decl_import B pb f1 f2 f3 _ d _ d.kids.length cap w hB x.name ra r.length (cap - 1) HF n0 n1 (fun W hb => HI r ra W ⟨x, hl, n1⟩ hb (HR W hb) hrl hrc or_)
 rw [if_neg n1]
 by_cases n2 : x.name = bBegin
 ·rw [if_pos n2]
  refine decl_begin B pb f1 f2 f3 _ d _ d.kids.length cap w hB x.name ra r.length (cap - 1) HF n0 n1 n2 (fun W hb => ?_)
  refine (copied_any A f r ra (cap - 1) W (Nat.le_trans hA hb.size) (HR W hb) hrl hrc or_).mono ?_
  rintro e w' ⟨hb2, v, es, rfl, hes, hro⟩
  refine ⟨hb.trans (hb2.mono hb.size), v, rfl, ?_⟩
  rw [← hes]
  refine add_row (hg.ps.below hb) hb2 hro.own (fun e he => ?_) hg.inv.b ?_
  ·obtain ⟨k1, k2, f', k3⟩ := hro.kids e he
   exact ⟨k1, k2, f', Dc.stay (fun _ _ => rfl) (fun k hk => ⟨hk.1, hk.2.1⟩) f' _ _ k3⟩
  have := congrArg List.length hes
  rw [bareQL_map] at this
  simp at this
  omega
 rw [if_neg n2]
 by_cases n3 : x.name = bInclude
 ·rw [if_pos n3]
  exact decl_include B pb f1 f2 f3 _ d _ d.kids.length cap w hB x.name ra r.length (cap - 1) HF n0 n1 n2 n3 (fun W hb => include_any E A B pb f f1 f2 f3 s r ra (cap - 1) W hg.hA (hg.below hb).env (hg.ps.below hb) (HR W hb) hrl hrc or_ hg.inv.b)
 rw [if_neg n3]
 by_cases n4 : x.name = bCond
 ·rw [if_pos n4]
  exact decl_cond B pb f1 f2 f3 _ d _ d.kids.length cap w hB x.name ra r.length (cap - 1) HF n0 n1 n2 n3 n4 (fun W hb => HC r ra W ⟨x, hl, n4⟩ hb (HR W hb) hrl hrc or_)
 rw [if_neg n4]
 exact decl_else B pb f1 f2 f3 _ d _ d.kids.length cap w hB rfl x.name ra r.length (cap - 1) HF n0 n1 n2 n3 n4
theorem decl_step (A B pb : Nat) (E : Env) (f1 f2 f3 : Value) (f : Nat) (IH : ∀ g, g < f → DeclT A B pb E f1 f2 f3 g) : DeclT A B pb E f1 f2 f3 f := by
 intro d a cap s w hg hd hc ho
 refine decl_gen A B pb E f1 f2 f3 f d a cap s w hg hd hc ho (fun r ra W _ hb hD hrl hrc or_ => imports_any joinOk A B pb f f1 f2 f3 s r ra (cap - 1) W hg.hA hg.h0 (hg.ps.below hb) hD hrl hrc or_ hg.inv.i (hg.below hb).tab) (fun r ra W hx hb hD hrl hrc or_ => ?_)
 obtain ⟨x, hl, n4⟩ := hx
 obtain ⟨g, b, o, xa, xc, hgf, _⟩ := hd.at (i := 0) (d := x) (by rw [hl]; rfl)
 refine (taken_any A pb f E f1 f2 f3 r ra (cap - 1) W (hg.below hb).pv hD hrl hrc or_).mono ?_
 rintro e w' ⟨hb2, hr⟩
 refine ⟨hb.trans (hb2.mono hb.size), ?_⟩
 rw [declC_taken]
 cases hT : takenF E r with
 | no z =>
  rw [hT] at hr
  exact Or.inl ⟨z, hr, rfl⟩
 | ok t =>
  rw [hT] at hr
  obtain ⟨v, rfl, ta, tc, g', hg', rfl, ht1, ht2, ht3, ht4⟩ := hr
  refine Or.inr ⟨_, rfl, ?_⟩
  by_cases h0 : t = []
  ·subst h0
   exact decls_step A B pb E f1 f2 f3 0 (fun g h => absurd h (by omega)) [] ta tc s w' ((hg.below hb).below hb2) rfl (Nat.zero_le _) ht1 (by rw [okL]; trivial)
  have hf0 : g' < f := by omega
  exact decls_step A B pb E f1 f2 f3 g' (fun k hk => IH k (by omega)) t ta tc s w' ((hg.below hb).below hb2) ht2 ht4 ht1 ht3
theorem decl_any (A B pb : Nat) (E : Env) (f1 f2 f3 : Value) (f : Nat) : DeclT A B pb E f1 f2 f3 f :=
 decl_step A B pb E f1 f2 f3 f (fun g _ => decl_any A B pb E f1 f2 f3 g)
theorem decls_any (A B pb : Nat) (E : Env) (f1 f2 f3 : Value) (f : Nat) : DeclsT A B pb E f1 f2 f3 f :=
 decls_step A B pb E f1 f2 f3 f (fun g _ => decl_any A B pb E f1 f2 f3 g)
def DecsA (E : Env) (Q : Dat → Prop) : Prop := ∀ (A B pb : Nat) (f1 f2 f3 : Value) (f : Nat) (ds : List Dat) (a : Option Addr) (cap : Nat) (s : LibS) (w : World), (∀ d ∈ ds, Q d) → GoS A B pb E f1 f2 f3 s w → Dc (fun k => k < A) w f a ds → ds.length ≤ 2000 → ds.length ≤ cap → okL ds →
 Calls Tryz.prog 56 #[.pointer (some ⟨pb, 0, none⟩), .slice a ds.length cap] w (ToldP B pb f1 f2 f3 (declL E ds s) w)
theorem decsA_any (E : Env) (Q : Dat → Prop) : DecsA E Q := fun A B pb f1 f2 f3 f ds a cap s w _ hg hd hn hc ho => decls_any A B pb E f1 f2 f3 f ds a cap s w hg hd hn hc ho
def noIC (d : Dat) : Prop := ∀ x r, d.kids = x :: r → ¬ x.name = bImport ∧ ¬ x.name = bCond
end Go.Proofs.YtonafbennobgdaaGreatDoor
