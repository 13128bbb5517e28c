/- Chapter 3: whether a requirement holds. Chapter 3: the clause that is asked for. -/
import Derived.Test.YtonafbennobgdaaGreatDoorK02
import Derived.Test.YtonafbennobgdaaGreatDoorK29
namespace Go.Proofs.YtonafbennobgdaaGreatDoor
set_option linter.unusedVariables false
set_option linter.unusedSimpArgs false
section
open Go.RowKit

structure PV (A pb : Nat) (E : Env) (f1 f2 f3 : Value) (w : World) : Prop where
 hA : A ≤ w.heap.size
 env : EnvM A E f1 f2 f3 w
 q1 : w.cell? ⟨pb, 1, none⟩ = some f2
 q2 : w.cell? ⟨pb, 2, none⟩ = some f3
 lt : pb < w.heap.size
theorem PV.below {A pb : Nat} {E : Env} {f1 f2 f3 : Value} {w w' : World} (h : PV A pb E f1 f2 f3 w) (hb : Below w.heap.size w w') : PV A pb E f1 f2 f3 w' :=
 ⟨Nat.le_trans h.hA hb.size, h.env.below (hb.mono h.hA), (hb.cell (p := ⟨pb, 1, none⟩) h.lt).trans h.q1, (hb.cell (p := ⟨pb, 2, none⟩) h.lt).trans h.q2, Nat.lt_of_lt_of_le h.lt hb.size⟩
def HoldT (A pb : Nat) (E : Env) (f1 f2 f3 : Value) (f : Nat) : Prop := ∀ (d : Dat) (a : Option Addr) (cap : Nat) (w : World), PV A pb E f1 f2 f3 w → Dc (fun k => k < A) w f a d.kids → d.kids.length ≤ cap → okD d →
  Calls Tryz.prog 133 #[.pointer (some ⟨pb, 0, none⟩), dv d a cap] w (ToldE (holdsD E d) (fun b v _ => v = .bool b) w)
theorem form_no {d : Dat} {a : Option Addr} {cap z : Nat} {w : World} (h : ¬ (d.kind = 4 ∧ d.kids ≠ [])) : ∀ W, Below w.heap.size w W → Calls Tryz.prog 53 #[dv d a cap] W fun e w' => Below W.heap.size W w' ∧ e = .panicked (thrownL 2) := fun W _ =>
 form_none d a cap W (by unfold thingsF; rw [if_neg h])
theorem rest_at {A : Nat} {w : World} {f b o cap : Nat} {x : Dat} {r : List Dat} (h : Dc (fun k => k < A) w f (some ⟨b, o, none⟩) (x :: r)) (hc : r.length + 1 ≤ cap) : Dc (fun k => k < A) w f (some ⟨b, if cap = 1 then o else o + 6, none⟩) r := by
 by_cases hc1 : cap = 1
 ·have h0 : r = [] := List.length_eq_zero_iff.1 (by omega)
  subst h0
  exact Dc.nil _ _ _ _
 ·rw [if_neg hc1]
  exact h.tail
theorem holds_step (A pb : Nat) (E : Env) (f1 f2 f3 : Value) (f : Nat) (IH : ∀ g, f = g + 1 → HoldT A pb E f1 f2 f3 g) : HoldT A pb E f1 f2 f3 f := by
 intro d a cap w hv hd hc ho
 have hdv : dv d a cap = .agg #[.int .i64 d.kind, .int .i64 d.n, .string d.name, .int .i64 d.stamp, .int .i64 d.lib, .slice a d.kids.length cap] := rfl
 by_cases h3 : d.kind = 3
 ·have e : holdsD E d = .ok (hasB d.name E.features) := by cases d; rw [holdsD, if_pos h3]
  rw [e]
  refine (holds_sym d a d.kids.length cap pb f2 f3 w hv.q1 hv.q2 hv.lt h3 (hasB d.name E.features) (fun W hb => ?_)).mono (fun e w' h => ⟨h.1, _, h.2, rfl⟩)
  exact strHas_any _ E.features d.name f2 W (hv.below hb).env.fe hv.env.feL
 by_cases hk : d.kind = 4 ∧ d.kids ≠ []
 case neg =>
  have e : holdsD E d = .no 2 := by
   cases d with
   | mk k n nm st lb ks =>
    rw [holdsD, if_neg h3]
    by_cases h4 : k = 4
    ·rw [if_pos h4]
     have : ks = [] := by
      by_cases h0 : ks = []
      ·exact h0
      ·exact absurd ⟨h4, h0⟩ hk
     rw [this, holdsK]
    ·rw [if_neg h4]
  rw [e]
  exact (holds_form_no d a d.kids.length cap pb f2 f3 w hv.q1 hv.q2 hv.lt h3 2 (form_no (z := 0) hk)).mono (fun e w' h => ⟨h.1, h.2⟩)
 case pos =>
 obtain ⟨x, r, hl⟩ := List.exists_cons_of_ne_nil hk.2
 have eK : holdsD E d = holdsK E (x :: r) := by cases d; rw [holdsD, if_neg h3, if_pos hk.1]; exact congrArg _ hl
 obtain ⟨o1, o2⟩ := okD_list ho hk.1
 rw [hl] at o1 o2
 obtain ⟨g, b, o, xa, xc, hg, ha, hx, hxk⟩ := hd.at (i := 0) (d := x) (by rw [hl]; rfl)
 subst ha
 rw [Nat.zero_mul, Nat.add_zero] at hx
 have ox := okL_mem o2 x (by simp)
 have or_ : ∀ y ∈ r, okD y := fun y hy => okL_mem o2 y (by simp [hy])
 have hln : d.kids.length = r.length + 1 := by rw [hl]; simp
 have FS : ∀ W, Below w.heap.size w W → Calls Tryz.prog 53 #[dv d (some ⟨b, o, none⟩) cap] W (ToldE (nameF x) (fun s v _ => v = .tuple #[.string s, .slice (some ⟨b, if cap = 1 then o else o + 6, none⟩) r.length (cap - 1)]) W) := fun W hb => form_some A d x r b o cap xc xa W (Nat.le_trans hv.hA hb.size) hk.1 hl (hx.below (hb.mono hv.hA)) hc (okD_big ox)
 rw [eK, holdsK]
 by_cases hx3 : x.kind = 3
 case neg =>
  rw [if_neg hx3]
  have en : nameF x = .no 2 := by unfold nameF; rw [if_neg hx3]
  rw [en] at FS
  exact (holds_form_no d _ d.kids.length cap pb f2 f3 w hv.q1 hv.q2 hv.lt h3 2 (fun W hb => (FS W hb).mono (fun e w' h => ⟨h.1, h.2⟩))).mono (fun e w' h => ⟨h.1, h.2⟩)
 case pos =>
 rw [if_pos hx3]
 have en : nameF x = .ok x.name := by unfold nameF; rw [if_pos hx3]
 rw [en] at FS
 have HF : ∀ W, Below w.heap.size w W → Calls Tryz.prog 53 #[.agg #[.int .i64 d.kind, .int .i64 d.n, .string d.name, .int .i64 d.stamp, .int .i64 d.lib, .slice (some ⟨b, o, none⟩) d.kids.length cap]] W fun e w' => Below W.heap.size W w' ∧ e = .returned (.tuple #[.string x.name, .slice (some ⟨b, if cap = 1 then o else o + 6, none⟩) r.length (cap - 1)]) := fun W hb => (FS W hb).mono (by rintro e w' ⟨h1, v, rfl, rfl⟩; exact ⟨h1, rfl⟩)
 have HR : ∀ W, Below w.heap.size w W → Dc (fun k => k < A) W f (some ⟨b, if cap = 1 then o else o + 6, none⟩) r := fun W hb => by
  have h := hd.below (hb.mono hv.hA)
  rw [hl] at h
  exact rest_at h (by omega)
 generalize hra : (some (⟨b, if cap = 1 then o else o + 6, none⟩ : Addr)) = ra at HF HR
 have IHx : ∀ y ∈ r, ∀ k a' cap' W, Below w.heap.size w W → f = k + 1 → y.kids.length ≤ cap' → Dc (fun k => k < A) W k a' y.kids → Calls Tryz.prog 133 #[.pointer (some ⟨pb, 0, none⟩), dv y a' cap'] W (ToldE (holdsD E y) (fun b v _ => v = .bool b) W) := fun y hy k a' cap' W hb hf hlk hkk => IH k hf y a' cap' W (hv.below hb) hkk hlk (or_ y hy)
 have ONE : ∀ y, r = [y] → ∃ ya yc k, f = k + 1 ∧ y.kids.length ≤ yc ∧ (∀ W, Below w.heap.size w W → Dc (fun k => k < A) W k ya y.kids) ∧ ∀ W, Below w.heap.size w W → Calls Tryz.prog 144 #[.slice ra r.length (cap - 1)] W fun e w' => Below W.heap.size W w' ∧ e = .returned (dv y ya yc) := fun y hy => by
  obtain ⟨k, b2, o2', ya, yc, hf, hra2, hy2, hyk⟩ := (HR w (Below.refl _ _)).at (i := 0) (d := y) (by rw [hy]; rfl)
  rw [Nat.zero_mul, Nat.add_zero] at hy2
  refine ⟨ya, yc, k, hf, hy2.lk, fun W hb => hyk.below (hb.mono hv.hA), fun W hb => ?_⟩
  rw [hra2, hy]
  exact one_yes A y b2 o2' (cap - 1) yc ya W (Nat.le_trans hv.hA hb.size) (hy2.below (hb.mono hv.hA))
 have NONE : r.length ≠ 1 → ∀ W, Below w.heap.size w W → Calls Tryz.prog 144 #[.slice ra r.length (cap - 1)] W fun e w' => Below W.heap.size W w' ∧ e = .panicked (thrownL 2) := fun h W _ => one_not r.length ra (cap - 1) W h
 by_cases n0 : x.name = bLibrary
 ·rw [if_pos n0]
  by_cases h1 : r.length = 1
  ·obtain ⟨y, rfl⟩ : ∃ y, r = [y] := by
    match r, h1 with
    | [y], _ => exact ⟨y, rfl⟩
   obtain ⟨ya, yc, k, hf, hyl, hyk, HO⟩ := ONE y rfl
   have CA : ∀ W, Below w.heap.size w W → Calls Tryz.prog 55 #[dv y ya yc] W (ToldE (calledF y) (fun s v _ => v = .string s) W) := fun W hb => called_any joinOk A k y ya yc W (Nat.le_trans hv.hA hb.size) (hyk W hb) hyl (or_ y (by simp))
   show Calls _ _ _ _ (ToldE ((calledF y).bind fun n => .ok (hasB n E.libs)) _ w)
   cases hC : calledF y with
   | no z =>
    rw [hC] at CA
    exact (holds_lib_no2 d _ d.kids.length cap pb f2 f3 w hv.q1 hv.q2 hv.lt h3 x.name ra [y].length (cap - 1) HF n0 y ya y.kids.length yc HO z (fun W hb => (CA W hb).mono (fun e w' h => ⟨h.1, h.2⟩))).mono (fun e w' h => ⟨h.1, h.2⟩)
   | ok s =>
    rw [hC] at CA
    exact (holds_lib_ok d _ d.kids.length cap pb f2 f3 w hv.q1 hv.q2 hv.lt h3 x.name ra [y].length (cap - 1) HF n0 y ya y.kids.length yc HO s (fun W hb => (CA W hb).mono (by rintro e w' ⟨h1, v, rfl, rfl⟩; exact ⟨h1, rfl⟩)) (hasB s E.libs) (fun W hb => strHas_any _ E.libs s f3 W (hv.below hb).env.li hv.env.liL)).mono (fun e w' h => ⟨h.1, _, h.2, rfl⟩)
  ·have e1 : ((oneF r).bind fun x => (calledF x).bind fun n => .ok (hasB n E.libs)) = .no 2 := by rw [oneF_len h1]; rfl
   rw [e1]
   exact (holds_lib_no1 d _ d.kids.length cap pb f2 f3 w hv.q1 hv.q2 hv.lt h3 x.name ra r.length (cap - 1) HF n0 2 (NONE h1)).mono (fun e w' h => ⟨h.1, h.2⟩)
 rw [if_neg n0]
 by_cases n1 : x.name = bNot
 ·rw [if_pos n1]
  by_cases h1 : r.length = 1
  ·obtain ⟨y, rfl⟩ : ∃ y, r = [y] := by
    match r, h1 with
    | [y], _ => exact ⟨y, rfl⟩
   obtain ⟨ya, yc, k, hf, hyl, hyk, HO⟩ := ONE y rfl
   have CA : ∀ W, Below w.heap.size w W → Calls Tryz.prog 133 #[.pointer (some ⟨pb, 0, none⟩), dv y ya yc] W (ToldE (holdsD E y) (fun b v _ => v = .bool b) W) := fun W hb => IHx y (by simp) k ya yc W hb hf hyl (hyk W hb)
   rw [holdsN]
   cases hC : holdsD E y with
   | no z =>
    rw [hC] at CA
    exact (holds_not_no2 d _ d.kids.length cap pb f2 f3 w hv.q1 hv.q2 hv.lt h3 x.name ra [y].length (cap - 1) HF n0 n1 y ya y.kids.length yc HO z (fun W hb => (CA W hb).mono (fun e w' h => ⟨h.1, h.2⟩))).mono (fun e w' h => ⟨h.1, h.2⟩)
   | ok t =>
    rw [hC] at CA
    exact (holds_not_ok d _ d.kids.length cap pb f2 f3 w hv.q1 hv.q2 hv.lt h3 x.name ra [y].length (cap - 1) HF n0 n1 y ya y.kids.length yc HO t (fun W hb => (CA W hb).mono (by rintro e w' ⟨h1, v, rfl, rfl⟩; exact ⟨h1, rfl⟩))).mono (fun e w' h => ⟨h.1, _, h.2, rfl⟩)
  ·have e1 : holdsN E r = .no 2 := by
    match r, h1 with
    | [], _ => rw [holdsN]
    | [y], h => exact absurd rfl h
    | _ :: _ :: _, _ => rw [holdsN]
   rw [e1]
   exact (holds_not_no1 d _ d.kids.length cap pb f2 f3 w hv.q1 hv.q2 hv.lt h3 x.name ra r.length (cap - 1) HF n0 n1 2 (NONE h1)).mono (fun e w' h => ⟨h.1, h.2⟩)
 rw [if_neg n1]
 have hrl : r.length ≤ 2000 := by simp at o1; omega
 by_cases n2 : x.name = bAnd
 ·rw [if_pos n2, holdsA_any]
  have M : ∀ W, Below w.heap.size w W → W.cell? ⟨w.heap.size, 0, none⟩ = some (.pointer (some ⟨pb, 0, none⟩)) → Calls Tryz.prog 149 #[.slice ra r.length (cap - 1), .func (.func 150) #[] #[.pointer (some ⟨w.heap.size, 0, none⟩)]] W (ToldE (anyF (fun x => (holdsD E x).bind fun b => .ok (!b)) r) (fun b v _ => v = .bool b) W) := fun W hb hq =>
   datHas_150 _ ra r.length (cap - 1) w.heap.size W (datIndex_150 _ A f r ra (cap - 1) w.heap.size W (Nat.le_trans hv.hA hb.size) (HR W hb) hrl (fun y hy k a' cap' W' hb' hf hlk hkk => clos_150 (holdsD E y) y a' cap' w.heap.size pb W' ((hb'.cell (p := ⟨w.heap.size, 0, none⟩) (World.block_lt_of_cell? _ _ hq)).trans hq) (Nat.lt_of_lt_of_le (World.block_lt_of_cell? _ _ hq) hb'.size) (fun W2 hb2 => IHx y hy k a' cap' W2 ((hb.trans (hb'.mono hb.size)).trans (hb2.mono (Nat.le_trans hb.size hb'.size))) hf hlk (hkk.below (hb2.mono (Nat.le_trans hv.hA (Nat.le_trans hb.size hb'.size)))))))
  cases hM : anyF (fun x => (holdsD E x).bind fun b => .ok (!b)) r with
  | no z =>
   rw [hM] at M
   exact (holds_many150_no d _ d.kids.length cap pb f2 f3 w hv.q1 hv.q2 hv.lt h3 x.name ra r.length (cap - 1) HF n0 n1 n2 z (fun W hb hq => (M W hb hq).mono (fun e w' h => ⟨h.1, h.2⟩))).mono (fun e w' h => ⟨h.1, h.2⟩)
  | ok t =>
   rw [hM] at M
   exact (holds_many150_ok d _ d.kids.length cap pb f2 f3 w hv.q1 hv.q2 hv.lt h3 x.name ra r.length (cap - 1) HF n0 n1 n2 t (fun W hb hq => (M W hb hq).mono (by rintro e w' ⟨h1, v, rfl, rfl⟩; exact ⟨h1, rfl⟩))).mono (fun e w' h => ⟨h.1, _, h.2, rfl⟩)
 rw [if_neg n2]
 by_cases n3 : x.name = bOr
 ·rw [if_pos n3, holdsO_any]
  have M : ∀ W, Below w.heap.size w W → W.cell? ⟨w.heap.size, 0, none⟩ = some (.pointer (some ⟨pb, 0, none⟩)) → Calls Tryz.prog 149 #[.slice ra r.length (cap - 1), .func (.func 151) #[] #[.pointer (some ⟨w.heap.size, 0, none⟩)]] W (ToldE (anyF (holdsD E) r) (fun b v _ => v = .bool b) W) := fun W hb hq =>
   datHas_151 _ ra r.length (cap - 1) w.heap.size W (datIndex_151 _ A f r ra (cap - 1) w.heap.size W (Nat.le_trans hv.hA hb.size) (HR W hb) hrl (fun y hy k a' cap' W' hb' hf hlk hkk => by
    have h := clos_151 (holdsD E y) y a' cap' w.heap.size pb W' ((hb'.cell (p := ⟨w.heap.size, 0, none⟩) (World.block_lt_of_cell? _ _ hq)).trans hq) (Nat.lt_of_lt_of_le (World.block_lt_of_cell? _ _ hq) hb'.size) (fun W2 hb2 => IHx y hy k a' cap' W2 ((hb.trans (hb'.mono hb.size)).trans (hb2.mono (Nat.le_trans hb.size hb'.size))) hf hlk (hkk.below (hb2.mono (Nat.le_trans hv.hA (Nat.le_trans hb.size hb'.size)))))
    rwa [Er.bind_ok] at h))
  cases hM : anyF (holdsD E) r with
  | no z =>
   rw [hM] at M
   exact (holds_many151_no d _ d.kids.length cap pb f2 f3 w hv.q1 hv.q2 hv.lt h3 x.name ra r.length (cap - 1) HF n0 n1 n2 n3 z (fun W hb hq => (M W hb hq).mono (fun e w' h => ⟨h.1, h.2⟩))).mono (fun e w' h => ⟨h.1, h.2⟩)
  | ok t =>
   rw [hM] at M
   exact (holds_many151_ok d _ d.kids.length cap pb f2 f3 w hv.q1 hv.q2 hv.lt h3 x.name ra r.length (cap - 1) HF n0 n1 n2 n3 t (fun W hb hq => (M W hb hq).mono (by rintro e w' ⟨h1, v, rfl, rfl⟩; exact ⟨h1, rfl⟩))).mono (fun e w' h => ⟨h.1, _, h.2, rfl⟩)
 rw [if_neg n3]
 exact (holds_else d _ d.kids.length cap pb f2 f3 w hv.q1 hv.q2 hv.lt h3 x.name ra r.length (cap - 1) HF n0 n1 n2 n3).mono (fun e w' h => ⟨h.1, h.2⟩)
theorem holds_any (A pb : Nat) (E : Env) (f1 f2 f3 : Value) : ∀ (f : Nat), HoldT A pb E f1 f2 f3 f
 | 0 => holds_step A pb E f1 f2 f3 0 (fun g h => absurd h (by omega))
 | f + 1 => holds_step A pb E f1 f2 f3 (f + 1) (fun g h => by
  obtain rfl : f = g := by omega
  exact holds_any A pb E f1 f2 f3 f)
end
section
open Go.RowKit

def clauseL (E : Env) : List Dat → (List Dat → Er (List Dat)) → Er (List Dat)
 | [], _ => .no 2
 | h :: t, k => (clauseF E h).bind fun b => if b then .ok t else k t
def takenF (E : Env) : List Dat → Er (List Dat)
 | [] => .ok []
 | c :: r => (thingsF c).bind fun l => clauseL E l fun _ => takenF E r
theorem declC_taken (E : Env) : ∀ (l : List Dat) (s : LibS), declC E l s = (takenF E l).bind fun t => declL E t s
 | [], s => by
  rw [declC]
  show _ = declL E [] s
  rw [declL]
 | c :: r, s => by
  rw [declC]
  have hr : (fun s' => declC E r s') = fun s' => (takenF E r).bind fun t => declL E t s' := funext fun s' => declC_taken E r s'
  rw [hr]
  show _ = ((thingsF c).bind fun l => clauseL E l fun _ => takenF E r).bind fun t => declL E t s
  cases c with
  | mk k n nm st lb ks =>
   rw [declB]
   unfold thingsF
   by_cases h4 : k = 4
   ·rw [if_pos h4]
    cases ks with
    | nil => rw [declT, if_neg (by simp)]; rfl
    | cons h t =>
     rw [declT, if_pos ⟨h4, by simp⟩]
     show _ = ((clauseF E h).bind fun b => if b then .ok t else takenF E r).bind fun t => declL E t s
     cases clauseF E h with
     | no z => rfl
     | ok b => cases b <;> rfl
   ·rw [if_neg h4, if_neg (fun h => h4 h.1)]; rfl
theorem takenF_at {E : Env} {l : List Dat} {j : Nat} {c : Dat} (h : l[j]? = some c) (hl : takenF E l = takenF E (l.drop j)) : takenF E l = (thingsF c).bind fun k => clauseL E k fun _ => takenF E (l.drop (j + 1)) := by
 obtain ⟨hi, e⟩ := List.getElem?_eq_some_iff.1 h
 rw [hl, List.drop_eq_getElem_cons hi, e]
 rfl
def DecV (A f : Nat) (t : List Dat) (v : Value) (w : World) : Prop := ∃ ta tc g, g ≤ f - 1 ∧ v = .slice ta t.length tc ∧ t.length ≤ tc ∧ Dc (fun k => k < A) w g ta t ∧ okL t ∧ t.length ≤ 2000
set_option maxRecDepth 100000 in
set_option maxHeartbeats 12800000 in
theorem taken_any (A pb f : Nat) (E : Env) (f1 f2 f3 : Value) (ds : List Dat) (a : Option Addr) (cap : Nat) (w : World) (hv : PV A pb E f1 f2 f3 w) (hd : Dc (fun k => k < A) w f a ds) (hn : ds.length ≤ 2000) (hc : ds.length ≤ cap) (ho : okL ds) :
  Calls Tryz.prog 111 #[.pointer (some ⟨pb, 0, none⟩), .slice a ds.length cap] w (ToldE (takenF E ds) (fun t v w' => DecV A f t v w') w) := by
 have HD : Hid (∀ W j d, Below w.heap.size w W → ds[j]? = some d → ∃ b o a' cap' g, a = some ⟨b, o, none⟩ ∧ f = g + 1 ∧ DAt (fun k => k < A) W b (o + j * 6) d a' cap' ∧ Dc (fun k => k < A) W g a' d.kids) := fun W j d hb hj => by
  obtain ⟨g, b, o, a', cap', h0, h1, h2, h3⟩ := hd.at hj
  exact ⟨b, o, a', cap', g, h1, h0, h2.below (hb.mono hv.hA), h3.below (hb.mono hv.hA)⟩
 have HO : Hid (∀ d ∈ ds, okD d) := okL_mem ho
 have HL : Hid (∀ j, j < ds.length → ∃ d, ds[j]? = some d) := fun j hj => ⟨_, List.getElem?_eq_getElem hj⟩
 obtain ⟨n, hn'⟩ : ∃ n, n = ds.length := ⟨_, rfl⟩
 have HN := hidd hn'
 rw [← hn'] at hn hc HL ⊢
 have HV := hidd hv
 clear hv hd ho hn'
 go_enter Tryz.func111, Tryz.ntmps111
 go_wp2_with fail
 go_loopw [6, 7, 10] (fun _ _ ix wr => ∃ (j : Nat), j ≤ n ∧ ix = .int .i64 j ∧ Hid (Below w.heap.size w wr ∧ takenF E ds = takenF E (ds.drop j))) (fun _ _ ix _ => n - (intOf ix).toNat)
 case atStart => exact ⟨0, Nat.zero_le _, rfl, Below.refl _ _, by rw [List.drop_zero]⟩
 case round =>
  obtain ⟨j, hj, rfl, HI⟩ := hrel
  by_cases hlt : j < n
  ·obtain ⟨d, hdj⟩ := HL.out j hlt
   obtain ⟨b, o, a', cap', g0, rfl, hf0, hA, hK⟩ := HD.out wr j d HI.out.1 hdj
   obtain ⟨_, c0, c1, c2, c3, c4, c5, hnm, hlk⟩ := hA
   have i1 : (0 : Int) ≤ (j : Int) := by omega
   have i2 : (j : Int) < (n : Int) := by omega
   have hb1 : Below wr.heap.size wr (wr.alloc (.cells #[.int .i64 d.kind, .int .i64 d.n, .string d.name, .int .i64 d.stamp, .int .i64 d.lib, .slice a' d.kids.length cap'] 26)) := (Below.refl _ _).alloc (Nat.le_refl _) _
   have HB1 := hidd hb1
   have hvr := HV.out.below HI.out.1
   have hst := takenF_at hdj HI.out.2
   have hod := HO.out d (List.mem_of_getElem? hdj)
   have TH0 := things_any d a' cap'
   by_cases hk : d.kind = 4 ∧ d.kids ≠ []
   case neg =>
    have et : thingsF d = .no 2 := by unfold thingsF; rw [if_neg hk]
    rw [et] at hst TH0
    have HST : Hid (takenF E ds = .no 2) := hst
    have TH : Hid (∀ W, Calls Tryz.prog 77 #[.agg #[.int .i64 d.kind, .int .i64 d.n, .string d.name, .int .i64 d.stamp, .int .i64 d.lib, .slice a' d.kids.length cap']] W fun e w' => Below W.heap.size W w' ∧ e = .panicked (thrownL 2)) := TH0
    clear hst TH0 et hk hod hK hdj hvr hb1 hlk hnm
    generalize d.kids.length = kn at *
    go_wp2_with fail
    refine (TH.out _).mono ?_
    rintro e w2 ⟨hb2, rfl⟩
    have HB2 : Hid (Below w.heap.size w w2) := HI.out.1.trans ((HB1.out.trans (hb2.mono HB1.out.size)).mono HI.out.1.size)
    clear hb2
    go_wp2_with fail
    refine ⟨rfl, HB2.out, ?_⟩
    rw [HST.out]
   case pos =>
    have et : thingsF d = .ok d.kids := by unfold thingsF; rw [if_pos hk]
    obtain ⟨x, r, hl⟩ := List.exists_cons_of_ne_nil hk.2
    rw [et] at hst TH0
    have TH : Hid (∀ W, Calls Tryz.prog 77 #[.agg #[.int .i64 d.kind, .int .i64 d.n, .string d.name, .int .i64 d.stamp, .int .i64 d.lib, .slice a' d.kids.length cap']] W fun e w' => Below W.heap.size W w' ∧ e = .returned (.slice a' d.kids.length cap')) := fun W => (TH0 W).mono (by rintro e w' ⟨h1, v, rfl, rfl, _⟩; exact ⟨h1, rfl⟩)
    obtain ⟨o1, o2⟩ := okD_list hod hk.1
    rw [hl] at o1 o2
    obtain ⟨g1, b1, q1, xa, xc, hg1, ha1, hx, hxk⟩ := hK.at (i := 0) (d := x) (by rw [hl]; rfl)
    subst ha1
    rw [Nat.zero_mul, Nat.add_zero] at hx
    have hx1 := hx
    have hln : d.kids.length = r.length + 1 := by rw [hl]; simp
    have HREST : Hid (∀ W, Below wr.heap.size wr W → Dc (fun k => k < A) W g0 (some ⟨b1, if cap' = 1 then q1 else q1 + 6, none⟩) r ∧ okL r ∧ r.length ≤ 2000 ∧ r.length ≤ cap' - 1) := fun W hb => by
     have h := hK.below (hb.mono hvr.hA)
     rw [hl] at h
     rw [okL] at o2
     exact ⟨rest_at h (by omega), o2.2, by simp at o1; omega, by omega⟩
    have HX : Hid (∀ W, Below wr.heap.size wr W → DAt (fun k => k < A) W b1 q1 x xa xc) := fun W hb => hx.below (hb.mono hvr.hA)
    have ox := okL_mem o2 x (by simp)
    have HH : Hid (∀ W, Below wr.heap.size wr W → Calls Tryz.prog 133 #[.pointer (some ⟨pb, 0, none⟩), dv x xa xc] W (ToldE (holdsD E x) (fun b v _ => v = .bool b) W)) := fun W hb => holds_any A pb E f1 f2 f3 g1 x xa xc W (hvr.below hb) (hxk.below (hb.mono hvr.hA)) hx.lk ox
    have IW := hidd (fun W => isWord_any x xa xc bElse W)
    rw [hl] at hst
    have HST0 : Hid (takenF E ds = (clauseF E x).bind fun t => if t then .ok r else takenF E (ds.drop (j + 1))) := hst
    obtain ⟨kn, hkn⟩ : ∃ kn, kn = d.kids.length := ⟨_, rfl⟩
    rw [← hkn] at c5 TH HB1 hlk hln
    have k1 : 1 ≤ kn := by omega
    have k2 : (0 : Int) < (kn : Int) := by omega
    have k3 : (1 : Int) ≤ (kn : Int) := by omega
    have k4 : (kn : Int) ≤ (cap' : Int) := by omega
    have k5 : kn ≤ cap' := hlk
    have HLN : Hid (r.length = kn - 1) := by show _ = _; omega
    clear hst TH0 et hk hod hK hdj hb1 hnm hl o1 o2 hx hx1 hxk ox hkn hln hlk hvr hg1
    unfold dv bElse at *
    obtain ⟨xn, hxn⟩ : ∃ xn, xn = x.kids.length := ⟨_, rfl⟩
    go_wp2_with fail
    refine (TH.out _).mono ?_
    rintro e w2 ⟨hb2, rfl⟩
    have HB2 : Hid (Below wr.heap.size wr w2) := HB1.out.trans (hb2.mono HB1.out.size)
    obtain ⟨_, d0, d1, d2, d3, d4, d5, _, _⟩ := HX.out w2 HB2.out
    clear hb2 TH
    rw [← hxn] at d5 IW HH
    have HXN := hidd hxn
    clear hxn
    by_cases he : x.kind = 3 ∧ x.name = ⟨#[101, 108, 115, 101]⟩
    ·rw [decide_eq_true he] at IW
     have HST : Hid (takenF E ds = .ok r) := by
      show _ = _
      rw [HST0.out]
      unfold clauseF
      rw [if_pos (show x.kind = 3 ∧ x.name = bElse from he)]
      rfl
     clear he HST0 HH
     go_wp2_with fail
     refine (IW.out _).mono ?_
     rintro e w3 ⟨rfl, hb3⟩
     have HB3 : Hid (Below wr.heap.size wr w3) := HB2.out.trans (hb3.mono HB2.out.size)
     clear hb3 d0 d1 d2 d3 d4 d5
     by_cases hcap : cap' = 1
     ·subst hcap
      go_wp2_with fail
      go_ret
      refine ⟨HI.out.1.trans (HB3.out.mono HI.out.1.size), ?_⟩
      rw [HST.out]
      obtain ⟨z1, z2, z3, z4⟩ := HREST.out w3 HB3.out
      have hr0 : r.length = 0 := by have := HLN.out; omega
      exact ⟨_, rfl, some ⟨b1, q1, none⟩, 0, g0, by omega, by rw [hr0]; rfl, by omega, by simpa using z1, z2, z3⟩
     ·go_wp2_with fail
      go_ret
      refine ⟨HI.out.1.trans (HB3.out.mono HI.out.1.size), ?_⟩
      rw [HST.out]
      obtain ⟨z1, z2, z3, z4⟩ := HREST.out w3 HB3.out
      rw [if_neg hcap] at z1
      exact ⟨_, rfl, some ⟨b1, q1 + 6, none⟩, cap' - 1, g0, by omega, by rw [HLN.out]; rfl, z4, z1, z2, z3⟩
    ·rw [decide_eq_false he] at IW
     have HST1 : Hid (takenF E ds = (holdsD E x).bind fun t => if t then .ok r else takenF E (ds.drop (j + 1))) := by
      show _ = _
      rw [HST0.out]
      unfold clauseF
      rw [if_neg (show ¬ (x.kind = 3 ∧ x.name = bElse) from he)]
     clear he HST0
     go_wp2_with fail
     refine (IW.out _).mono ?_
     rintro e w3 ⟨rfl, hb3⟩
     have HB3 : Hid (Below wr.heap.size wr w3) := HB2.out.trans (hb3.mono HB2.out.size)
     have hx3 := HX.out w3 HB3.out
     obtain ⟨_, e0, e1, e2, e3, e4, e5, _, _⟩ := hx3
     rw [← HXN.out] at e5
     clear hb3 d0 d1 d2 d3 d4 d5
     have HH3 := HH.out w3 HB3.out
     clear HH
     cases hH : holdsD E x with
     | no z =>
      rw [hH] at HH3 HST1
      have HC : Hid (Calls Tryz.prog 133 #[.pointer (some ⟨pb, 0, none⟩), .agg #[.int .i64 x.kind, .int .i64 x.n, .string x.name, .int .i64 x.stamp, .int .i64 x.lib, .slice xa xn xc]] w3 fun e w' => Below w3.heap.size w3 w' ∧ e = .panicked (thrownL z)) := HH3
      have HST : Hid (takenF E ds = .no z) := HST1.out
      clear HH3 HST1 hH
      go_wp2_with fail
      refine HC.out.mono ?_
      rintro e w4 ⟨hb4, rfl⟩
      have HB4 : Hid (Below w.heap.size w w4) := HI.out.1.trans ((HB3.out.trans (hb4.mono HB3.out.size)).mono HI.out.1.size)
      clear hb4
      go_wp2_with fail
      refine ⟨rfl, HB4.out, ?_⟩
      rw [HST.out]
     | ok t =>
      rw [hH] at HH3 HST1
      have HC : Hid (Calls Tryz.prog 133 #[.pointer (some ⟨pb, 0, none⟩), .agg #[.int .i64 x.kind, .int .i64 x.n, .string x.name, .int .i64 x.stamp, .int .i64 x.lib, .slice xa xn xc]] w3 fun e w' => Below w3.heap.size w3 w' ∧ ∃ v, e = .returned v ∧ v = .bool t) := HH3
      cases t with
      | true =>
       have HST : Hid (takenF E ds = .ok r) := HST1.out
       clear HH3 HST1 hH
       go_wp2_with fail
       refine HC.out.mono ?_
       rintro e w4 ⟨hb4, v, rfl, rfl⟩
       have HB4 : Hid (Below wr.heap.size wr w4) := HB3.out.trans (hb4.mono HB3.out.size)
       clear hb4 e0 e1 e2 e3 e4 e5 HC
       by_cases hcap : cap' = 1
       ·subst hcap
        go_wp2_with fail
        go_ret
        refine ⟨HI.out.1.trans (HB4.out.mono HI.out.1.size), ?_⟩
        rw [HST.out]
        obtain ⟨z1, z2, z3, z4⟩ := HREST.out w4 HB4.out
        have hr0 : r.length = 0 := by have := HLN.out; omega
        exact ⟨_, rfl, some ⟨b1, q1, none⟩, 0, g0, by omega, by rw [hr0]; rfl, by omega, by simpa using z1, z2, z3⟩
       ·go_wp2_with fail
        go_ret
        refine ⟨HI.out.1.trans (HB4.out.mono HI.out.1.size), ?_⟩
        rw [HST.out]
        obtain ⟨z1, z2, z3, z4⟩ := HREST.out w4 HB4.out
        rw [if_neg hcap] at z1
        exact ⟨_, rfl, some ⟨b1, q1 + 6, none⟩, cap' - 1, g0, by omega, by rw [HLN.out]; rfl, z4, z1, z2, z3⟩
      | false =>
       have HST : Hid (takenF E ds = takenF E (ds.drop (j + 1))) := HST1.out
       clear HH3 HST1 hH
       go_wp2_with fail
       refine HC.out.mono ?_
       rintro e w4 ⟨hb4, v, rfl, rfl⟩
       have HB4 : Hid (Below w.heap.size w w4) := HI.out.1.trans ((HB3.out.trans (hb4.mono HB3.out.size)).mono HI.out.1.size)
       clear hb4 e0 e1 e2 e3 e4 e5 HC
       go_wp2_with fail
       go_roundw
       case rel => exact ⟨j + 1, hlt, by go_num, HB4.out, HST.out⟩
       case measure => simp [intOf]; omega
  ·obtain rfl : j = n := by omega
   have HE : Hid (takenF E ds = .ok []) := by
    show _ = _
    rw [HI.out.2, List.drop_eq_nil_of_le (by rw [← HN.out]; exact Nat.le_refl _)]
    rfl
   go_wp2_with fail
   go_ret
   refine ⟨HI.out.1, ?_⟩
   rw [HE.out]
   exact ⟨_, rfl, none, 0, 0, Nat.zero_le _, rfl, Nat.le_refl _, rfl, by rw [okL]; trivial, Nat.zero_le _⟩
end
end Go.Proofs.YtonafbennobgdaaGreatDoor
